import Derived.Test.YtlkibcnhdjmfjaaGreatT00
import Derived.Calls
import Derived.Laws.CopyOwn
import Derived.Laws.Entries
import Derived.RowKit
import Derived.IntWalk
set_option linter.unusedSimpArgs false
set_option linter.unusedVariables false
set_option maxRecDepth 100000
set_option maxHeartbeats 4000000
namespace Go.VI.P
open Go
open Go.RowKit
theorem zbt {α:Type} {l:List α} {k:Nat} {x:α} (h:l[k]?=some x):l.take (k+1)=l.take k++[x]:=by
 rw [List.take_add_one,h];rfl
def confB (pw np:Int):Bool:=decide (16<=pw/\pw<=64/\pw % 4=0/\8<=np/\np<=64)
theorem zal {pw np:Int} (h:confB pw np=true):16<=pw/\pw<=64/\pw % 4=0/\8<=np/\np<=64:=by
 unfold confB at h;exact qas h
theorem zvr {pw np:Int} (h:16<=pw/\pw<=64/\pw % 4=0/\8<=np/\np<=64):confB pw np=true:=by
 unfold confB;exact qab h
def zgh (pw np:Int):Int:=if confB pw np then np / 4 else 0
def zej (pw np:Int):Int:=if confB pw np then pw / 4 else 0
def zeL (pw n:Int):Int:=if n<=pw / 4 then 0 else if n<=pw then 1 else if n<=2*pw then 2 else if n<=3*pw then 3 else if n<=4*pw then 4 else -1
def zax (pw np n:Int):Int:=if confB pw np=true/\1<=n then zeL pw n else -1
theorem zgD {pw np n:Int} (h:confB pw np=true) (h1:1<=n):zax pw np n=zeL pw n:=by unfold zax;rw [if_pos ⟨h,h1⟩]
theorem zgE {pw np n:Int} (h:confB pw np=false\/n<1):zax pw np n = -1:=by
 unfold zax;rw [if_neg];rintro ⟨a,b⟩;rcases h with h | h
 · rw [a]at h;cases h
 · omega
def inPg (pw np p o:Int):Bool:=decide (0<=p/\p<np/\0<=o/\o<pw)
def zba (pw np p o:Int):Int:=if confB pw np then (if inPg pw np p o then 4096+p*pw+o else 0) else 0
def zlx (pw np p o:Int):Int:=if confB pw np then (if inPg pw np p o then 0 else 2) else 1
def inAr (pw np a:Int):Bool:=decide (4096<=a/\a<4096+np*pw)
def ofI (pw np a:Int):Int:=if confB pw np then (if inAr pw np a then (a-4096) / pw else 0) else 0
def ofK (pw np a:Int):Int:=if confB pw np then (if inAr pw np a then (a-4096) % pw else 0) else 0
def ofE (pw np a:Int):Int:=if confB pw np then (if inAr pw np a then 0 else 2) else 1
theorem zwo {pw np:Int} (h:confB pw np=true):zgh pw np=np / 4:=by unfold zgh;rw [if_pos h]
theorem zwp {pw np:Int} (h:confB pw np=false):zgh pw np=0:=by unfold zgh;rw [if_neg (by simp [h])]
theorem zj2 {pw np:Int} (h:confB pw np=true):zej pw np=pw / 4:=by unfold zej;rw [if_pos h]
theorem zvU {pw np:Int} (h:confB pw np=false):zej pw np=0:=by unfold zej;rw [if_neg (by simp [h])]
theorem zee {pw np p o:Int} (h:confB pw np=true) (h1:inPg pw np p o=true):zba pw np p o=4096+p*pw+o/\zlx pw np p o=0:=by
 unfold zba zlx;rw [if_pos h,if_pos h,if_pos h1,if_pos h1];exact ⟨rfl,rfl⟩
theorem zod {pw np p o:Int} (h:confB pw np=true) (h1:inPg pw np p o=false):zba pw np p o=0/\zlx pw np p o=2:=by
 unfold zba zlx;rw [if_pos h,if_pos h,if_neg (by simp [h1]),if_neg (by simp [h1])];exact ⟨rfl,rfl⟩
theorem addr_no {pw np p o:Int} (h:confB pw np=false):zba pw np p o=0/\zlx pw np p o=1:=by
 unfold zba zlx;rw [if_neg (by simp [h]),if_neg (by simp [h])];exact ⟨rfl,rfl⟩
theorem zis {pw np a:Int} (h:confB pw np=true) (h1:inAr pw np a=true):ofI pw np a=(a-4096) / pw/\ofK pw np a=(a-4096) % pw/\ofE pw np a=0:=by
 unfold ofI ofK ofE;rw [if_pos h,if_pos h,if_pos h,if_pos h1,if_pos h1,if_pos h1];exact ⟨rfl,rfl,rfl⟩
theorem ze4 {pw np a:Int} (h:confB pw np=true) (h1:inAr pw np a=false):ofI pw np a=0/\ofK pw np a=0/\ofE pw np a=2:=by
 unfold ofI ofK ofE;rw [if_pos h,if_pos h,if_pos h,if_neg (by simp [h1]),if_neg (by simp [h1]),if_neg (by simp [h1])];exact ⟨rfl,rfl,rfl⟩
theorem zwj {pw np a:Int} (h:confB pw np=false):ofI pw np a=0/\ofK pw np a=0/\ofE pw np a=1:=by
 unfold ofI ofK ofE;rw [if_neg (by simp [h]),if_neg (by simp [h]),if_neg (by simp [h])];exact ⟨rfl,rfl,rfl⟩
theorem conf_prod {pw np:Int} (h:confB pw np=true):128<=np*pw/\np*pw<=4096:=by
 obtain ⟨h1,h2,_,h4,h5⟩:=zal h;exact ⟨Int.le_trans (show (128:Int)<=8*16 from by decide) (qcm h4 h1 (by decide) (by omega)),Int.le_trans (qcm h5 h2 (by omega) (by omega)) (by decide)⟩
theorem zaZ {pw np p:Int} (h:confB pw np=true) (h0:0<=p) (h1:p<np):0<=p*pw/\p*pw+pw<=np*pw:=by
 obtain ⟨h2,_⟩:=zal h;have e:p*pw+pw=(p+1)*pw:=by rw [qbr,qbl]
 exact ⟨qbb h0 (by omega),by rw [e];exact qaN (by omega) (by omega)⟩
theorem zkJ {pw np p o:Int} (h:confB pw np=true) (h1:inPg pw np p o=true):inAr pw np (4096+p*pw+o)=true/\(4096+p*pw+o-4096) / pw=p/\(4096+p*pw+o-4096) % pw=o:=by
 unfold inPg at h1;obtain ⟨a,b,c,d⟩:=qas h1;obtain ⟨e,f⟩:=zaZ h a b;have g:=zal h;have e1:4096+p*pw+o-4096=o+p*pw:=by omega
 refine ⟨qab (by omega),?_,?_⟩
 · rw [e1,qct _ _ (by omega),qcE c d];omega
 · rw [e1,Int.add_mul_emod_self_right,Int.emod_eq_of_lt c d]
structure Pg where
 kind:Int
 space:Int
 used:Int
 pins:Int
 deriving DecidableEq
def Pg.zero:Pg:=⟨0,0,0,0⟩
theorem zaq {ps:List Pg} {i:Nat} {x:Pg} (h:ps[i]?=some x):ps.getD i Pg.zero=x:=by rw [qaA,h];rfl
def zgt (sp:Int):List Pg->Nat
 | []=>0
 | x::r=>if x.kind=3/\x.space=sp then zgt sp r+1 else 0
def zbS:List Pg->Nat
 | []=>0
 | x::r=>(if x.kind=0 then 0 else 1)+zbS r
theorem zj7:∀ ps:List Pg,zbS ps<=ps.length
 | []=>qan _
 | x::r=>by have:=zj7 r;unfold zbS;rw [qaP];split <;> omega
theorem zjm:∀ a b:List Pg,zbS (a++b)=zbS a+zbS b
 | [],b=>by simp [zbS]
 | x::r,b=>by rw [qaJ,zbS,zbS,zjm r b];omega
theorem ztl {ps:List Pg} {k:Nat} {x:Pg} (h:ps[k]?=some x):zbS (ps.take (k+1))=zbS (ps.take k)+if x.kind=0 then 0 else 1:=by
 rw [zbt h,zjm];simp [zbS]
def zd7 (out:List (Int×Int)) (k:Int) (x:Pg):List (Int×Int) :=
 if x.kind=0 then (match out.getLast? with | some r=>if r.1+r.2=k then out.dropLast++[(r.1,r.2+1)] else out++[(k,1)] | none=>[(k,1)]) else out
def zct (ps:List Pg):Nat->List (Int×Int)
 | 0=>[]
 | k+1=>match ps[k]? with | some x=>zd7 (zct ps k) k x | none=>zct ps k
def zqu (ps:List Pg):List (Int×Int):=zct ps ps.length
def zaB (ps:List Pg) (k:Int):Int:=match (zqu ps).find? (fun r=>decide (1<=k)&&decide (k<=r.2)) with | some r=>r.1 | none=>-1
def put (ps:List Pg) (i k:Nat) (x:Pg):List Pg:=ps.take i++List.replicate k x++ps.drop (i+k)
theorem znp (ps:List Pg) (i:Nat) (x:Pg):put ps i 0 x=ps:=by simp [put]
theorem zd8 {ps:List Pg} {i k:Nat} {x:Pg} (h:i+k<=ps.length):(put ps i k x).length=ps.length:=by
 unfold put;rw [qaz,qaz,qax,qa2,qaL];omega
theorem zdo {ps:List Pg} {i k:Nat} {x:Pg} (h:i+k<=ps.length) {j:Nat} (hj:i+k<=j\/j<i):(put ps i k x)[j]?=ps[j]?:=by
 unfold put;rcases hj with hj | hj
 · rw [qbE (by rw [qaz,qax,qa2];omega),qa6]
   congr 1
   rw [qaz,qax,qa2];omega
 · rw [qaG,qbu (by rw [qax];omega),qa5,if_pos hj]
theorem zky {ps:List Pg} {i k:Nat} {x:Pg} (h:i+k<=ps.length) {j:Nat} (h1:i<=j) (h2:j<i+k):(put ps i k x)[j]?=some x:=by
 unfold put;rw [qaG,qbE (by rw [qax];omega),qbu (by rw [qax,qa2];omega),qb1,if_pos (by rw [qax];omega)]
theorem zv2 {ps:List Pg} {i k:Nat} {x:Pg} (h:i+k<ps.length):(put ps i k x).set (i+k) x=put ps i (k+1) x:=by
 apply qbj
 intro j;rw [qaO];have hl:(put ps i k x).length=ps.length:=zd8 (by omega)
 by_cases hj:i+k=j
 · rw [if_pos hj,if_pos (by omega),zky (by omega) (by omega) (by omega)]
 · rw [if_neg hj];by_cases h1:i<=j/\j<i+k
   · rw [zky (by omega) h1.1 h1.2,zky (by omega) h1.1 (by omega)]
   · rw [zdo (by omega) (by omega),zdo (by omega) (by omega)]
def zcr (ps:List Pg) (i k:Nat):Bool:=((ps.drop i).take k).all fun x=>decide (x.kind=0)
theorem zcz (ps:List Pg) (i:Nat):zcr ps i 0=true:=by simp [zcr]
theorem zb4 {ps:List Pg} {i k:Nat} {x:Pg} (h:ps[i+k]?=some x):zcr ps i (k+1)=(zcr ps i k&&decide (x.kind=0)):=by
 unfold zcr;rw [zbt (l:=ps.drop i) (k:=k) (x:=x) (by rw [qa6];exact h),List.all_append]
 simp
theorem zto {ps:List Pg} {i k m:Nat} (h:zcr ps i k=true) (hm:m<=k):zcr ps i m=true:=by
 unfold zcr at *
 rw [qaQ] at *
 intro x hx;refine h x ?_;rw [show (ps.drop i).take m=((ps.drop i).take k).take m from by rw [qbB,qbz hm]]at hx
 exact qb2 hx
def zgs (ps:List Pg) (i k:Int) (x y:Pg):List Pg:=if 0<=i/\i<ps.length/\k<=ps.length-i then (if zcr ps i.toNat k.toNat then (put ps i.toNat k.toNat y).set i.toNat x else []) else []
def zjA (ps:List Pg) (i k:Int):Int:=if 0<=i/\i<ps.length/\k<=ps.length-i then (if zcr ps i.toNat k.toNat then 0 else 20) else 2
def zcJ (ps:List Pg) (i sp:Int):List Pg:=if 0<=sp/\sp<=1 then zgs ps i 1 ⟨1,sp,0,0⟩ Pg.zero else []
def zid (ps:List Pg) (i sp:Int):Int:=if 0<=sp/\sp<=1 then zjA ps i 1 else 1
def zec (pw np:Int) (ps:List Pg) (i sp n:Int):List Pg:=if 1<=zax pw np n/\0<=sp/\sp<=1 then zgs ps i (zax pw np n) ⟨2,sp,n,0⟩ ⟨3,sp,0,0⟩ else []
def zgG (pw np:Int) (ps:List Pg) (i sp n:Int):Int:=if 1<=zax pw np n/\0<=sp/\sp<=1 then zjA ps i (zax pw np n) else 1
def zea (n:Int):Bool:=decide (0<=n/\n<=2147483647)
def zcc (pw np:Int) (x:Pg) (r:List Pg) (due:Int):Option Int :=
 if ¬(x.kind=3↔0<due)\/x.space<0\/1<x.space\/zea x.pins=false then none
 else if x.kind=0 then (if x=Pg.zero then some (max 0 (due-1)) else none)
 else if x.kind=1 then (if x.used<0\/pw<x.used then none else some (max 0 (due-1)))
 else if x.kind=2 then (if zax pw np x.used<1\/(zgt x.space r:Int)<zax pw np x.used-1 then none else some (max 0 (zax pw np x.used-1)))
 else if x.kind=3 then (if x.used=0/\x.pins=0 then some (max 0 (due-1)) else none)
 else none
def zaK (pw np:Int):List Pg->Int->Bool
 | [],_=>true
 | x::r,due=>match zcc pw np x r due with | some d=>zaK pw np r d | none=>false
def zdV (ps:List Pg) (b:Int):Bool:=decide (b = -1\/(0<=b/\b<ps.length/\(ps.getD b.toNat Pg.zero).kind=1))
def zc2 (pw np:Int) (nw:Nat) (ps:List Pg) (sp b:Int):Bool :=
 confB pw np&&decide ((nw:Int)=np*pw)&&decide ((ps.length:Int)=np)&&decide (0<=sp/\sp<=1)&&zdV ps b&&zaK pw np ps 0
theorem zq0 {pw n:Int} (h:n<=pw / 4):zeL pw n=0:=by unfold zeL;rw [if_pos h]
theorem ztf {pw n:Int} (hp:16<=pw) (h0:pw / 4<n) (h:4*pw<n):zeL pw n = -1:=by
 unfold zeL;rw [if_neg (by omega),if_neg (by omega),if_neg (by omega),if_neg (by omega),if_neg (by omega)]
theorem zfU {out:List (Int×Int)} {k:Int} {x:Pg} (h:¬x.kind=0):zd7 out k x=out:=by unfold zd7;rw [if_neg h]
theorem zeE {k:Int} {x:Pg} (h:x.kind=0):zd7 [] k x=[(k,1)]:=by unfold zd7;rw [if_pos h];rfl
theorem zd0 {pre:List (Int×Int)} {r:Int×Int} {k:Int} {x:Pg} (h:x.kind=0) (he:r.1+r.2=k):zd7 (pre++[r]) k x=pre++[(r.1,r.2+1)]:=by
 unfold zd7;rw [if_pos h];simp [he]
theorem zeF {pre:List (Int×Int)} {r:Int×Int} {k:Int} {x:Pg} (h:x.kind=0) (he:¬r.1+r.2=k):zd7 (pre++[r]) k x=pre++[r]++[(k,1)]:=by
 unfold zd7;rw [if_pos h];simp [he]
theorem zeD {ps:List Pg} {k:Nat} {x:Pg} (h:ps[k]?=some x):zct ps (k+1)=zd7 (zct ps k) k x:=by
 rw [zct,h]
theorem zif (out:List (Int×Int)):out=[]\/∃ pre r,out=pre++[r]:=by
 rcases qcB out with h | ⟨pre,r,h⟩
 · exact Or.inl h
 · exact Or.inr ⟨pre,r,by rw [h,qcu]⟩
theorem zqt (ps:List Pg):∀ (k:Nat) (r:Int×Int),r∈zct ps k->0<=r.1/\1<=r.2/\r.1+r.2<=k
 | 0,r,h=>by simp [zct]at h
 | k+1,r,h=>by
  have ih:=zqt ps k;cases hx:ps[k]? with
  | none=>
   rw [zct,hx]at h;have:=ih r h;omega
  | some x=>
   rw [zeD hx]at h;by_cases h0:x.kind=0
   · rcases zif (zct ps k) with e | ⟨pre,q,e⟩
     · rw [e,zeE h0]at h;simp at h;subst h;simp
     · rw [e]at h ih;have hq:=ih q (by simp)
       by_cases he:q.1+q.2=k
       · rw [zd0 h0 he]at h;rcases qao.1 h with h | h
         · have:=ih r (qa3 _ h);omega
         · simp at h;subst h;simp;omega
       · rw [zeF h0 he]at h;rcases qao.1 h with h | h
         · have:=ih r h;omega
         · simp at h;subst h;simp
   · rw [zfU h0]at h;have:=ih r h;omega
theorem znj (ps:List Pg):∀ k:Nat,(zct ps k).length<=k
 | 0=>qan _
 | k+1=>by
  have ih:=znj ps k;cases hx:ps[k]? with
  | none=>rw [zct,hx];exact Nat.le_succ_of_le ih
  | some x=>
   rw [zeD hx];by_cases h0:x.kind=0
   · rcases zif (zct ps k) with e | ⟨pre,q,e⟩
     · rw [e,zeE h0];simp
     · rw [e]at ih ⊢
       by_cases he:q.1+q.2=k
       · rw [zd0 h0 he];simp at ih ⊢;omega
       · rw [zeF h0 he];simp at ih ⊢;omega
   · rw [zfU h0];omega
def zbu (k:Int):List (Int×Int)->Int
 | []=>-1
 | r::t=>if 1<=k/\k<=r.2 then r.1 else zbu k t
theorem zld (ps:List Pg) (k:Int):zaB ps k=zbu k (zqu ps):=by
 unfold zaB;generalize zqu ps=l
 induction l with
 | nil=>rfl
 | cons r t ih=>
  rw [List.find?_cons,zbu];by_cases h:1<=k/\k<=r.2
  · rw [if_pos h];simp [h]
  · rw [if_neg h];have:(decide (1<=k)&&decide (k<=r.2))=false:=by simp;omega
    rw [this];exact ih
theorem zpF {k:Int} {l:List (Int×Int)} {i:Nat} {r:Int×Int} (h:l[i]?=some r):zbu k (l.drop i)=if 1<=k/\k<=r.2 then r.1 else zbu k (l.drop (i+1)):=by
 obtain ⟨hi,rfl⟩:=qah.1 h;rw [qaU hi,zbu]
theorem znY {k:Int} {l:List (Int×Int)} {i:Nat} (h:l.length<=i):zbu k (l.drop i) = -1:=by
 rw [qbn h];rfl
theorem zvP {ps:List Pg} {i k:Int} {x y:Pg} (h:¬(0<=i/\i<ps.length/\k<=ps.length-i)):zgs ps i k x y=[]/\zjA ps i k=2:=by
 unfold zgs zjA;rw [if_neg h,if_neg h];exact ⟨rfl,rfl⟩
theorem zia {ps:List Pg} {i k:Nat} {x y:Pg} (h:i<ps.length) (hk:i+k<=ps.length) (hf:zcr ps i k=true):zgs ps i k x y=(put ps i k y).set i x/\zjA ps i k=0:=by
 have hc:0<=(i:Int)/\(i:Int)<ps.length/\(k:Int)<=ps.length-i:=⟨by omega,by omega,by omega⟩
 unfold zgs zjA;rw [if_pos hc,if_pos hc,qad,qad,if_pos hf,if_pos hf];exact ⟨rfl,rfl⟩
theorem zmQ {ps:List Pg} {i k m:Nat} {x:Pg} (hx:ps[i+m]?=some x) (hm:m<k) (h:¬x.kind=0):zcr ps i k=false:=by
 rw [<-qbA];intro hf;have:=zto hf (show m+1<=k from hm)
 rw [zb4 hx]at this;simp at this;exact h this.2
structure Hp where
 pw:Int
 np:Int
 words:List Int
 pages:List Pg
 space:Int
 bump:Int
def Hp.zero:Hp:=⟨0,0,[],[],0,0⟩
def WB (xs:List Int):Prop:=∀ x∈xs,0<=x/\x<18446744073709551616
theorem WB.zeros (n:Nat):WB (List.replicate n 0):=by
 intro x hx;obtain ⟨_,rfl⟩:=List.mem_replicate.1 hx;omega
theorem WB.nil:WB []:=fun x h=>by cases h
def zmc (pw np:Int):Hp:=if confB pw np then ⟨pw,np,List.replicate (np*pw).toNat 0,List.replicate np.toNat Pg.zero,0,-1⟩ else Hp.zero
def newHE (pw np:Int):Int:=if confB pw np then 0 else 1
theorem znM {pw np:Int} (h:confB pw np=true):zmc pw np=⟨pw,np,List.replicate (np*pw).toNat 0,List.replicate np.toNat Pg.zero,0,-1⟩/\newHE pw np=0:=by
 unfold zmc newHE;rw [if_pos h,if_pos h];exact ⟨rfl,rfl⟩
def ziq (n:Int):Int:=2 ^ min n.toNat 64-1
def zir (n:Int):Nat:=2 ^ min n.toNat 64-1
theorem zv6 (k:Nat) (h:k<=64):(2:Nat) ^ k<=18446744073709551616:=by
 have:(2:Nat) ^ k<=2 ^ 64:=qcb (by decide) h
 simpa using this
theorem zv5 (k:Nat) (h:k<64):(2:Nat) ^ k<=9223372036854775808:=by
 have:(2:Nat) ^ k<=2 ^ 63:=qcb (by decide) (by omega)
 simpa using this
theorem znq (k:Nat):1<=(2:Nat) ^ k:=Nat.one_le_two_pow
theorem zho (k:Nat):((2 ^ k:Nat):Int)=(2:Int) ^ k:=by rw [qcf];rfl
theorem zu5 (k:Nat) (h:k<64):(2:Int) ^ k<=9223372036854775808:=by
 have:=zv5 k h;rw [<-zho];omega
theorem zu4 (k:Nat):1<=(2:Int) ^ k:=by
 have:=znq k;rw [<-zho];omega
theorem zs6 (n:Int):ziq n=((zir n:Nat):Int):=by
 unfold ziq zir;have:=znq (min n.toNat 64)
 rw [Int.natCast_sub this];simp
theorem zuI (n:Int) (h:n<0):ziq n=0:=by
 unfold ziq;have:n.toNat=0:=by omega
 simp [this]
theorem zwh (n:Int):zir n<18446744073709551616:=by
 unfold zir;have:=zv6 (min n.toNat 64) (by omega);have:=znq (min n.toNat 64);omega
theorem shr_lt (x k:Nat) (hx:x<18446744073709551616):x >>> k<18446744073709551616:=by
 rw [qbX];exact Nat.lt_of_le_of_lt (Nat.div_le_self _ _) hx
theorem zkf (v:Nat) (n:Int):v &&& zir n=v % 2 ^ min n.toNat 64:=by
 unfold zir;exact Nat.and_two_pow_sub_one_eq_mod v _
def fitL:Int->List Int->Bool
 | _,[]=>true
 | left,x::r=>if x<1\/left<x then false else fitL (left-x) r
theorem zve {left x:Int} {ws:List Int} {k:Nat} (hx:ws[k]?=some x) (h:x<1\/left<x):fitL left (ws.drop k)=false:=by
 obtain ⟨hk,rfl⟩:=qah.1 hx;rw [qaU hk,fitL,if_pos h]
theorem zwz {left x:Int} {ws:List Int} {k:Nat} (hx:ws[k]?=some x) (h1:¬x<1) (h2:¬left<x):fitL left (ws.drop k)=fitL (left-x) (ws.drop (k+1)):=by
 obtain ⟨hk,rfl⟩:=qah.1 hx;rw [qaU hk,fitL,if_neg (by omega)]
theorem zwA {left:Int} {ws:List Int} {k:Nat} (hk:ws.length<=k):fitL left (ws.drop k)=true:=by
 rw [qbn hk,fitL]
theorem zvf {left x:Int} {r:List Int} (h:fitL left (x::r)=true):1<=x/\x<=left/\fitL (left-x) r=true:=by
 rw [fitL]at h;by_cases c:x<1\/left<x
 · rw [if_pos c]at h;cases h
 · rw [if_neg c]at h;exact ⟨by omega,by omega,h⟩
def sumW:List Int->Nat
 | []=>0
 | x::r=>x.toNat+sumW r
theorem zsw:∀ (ws:List Int) (left:Int),0<=left->fitL left ws=true->∀ x∈ws,1<=x/\x<=left
 | [],_,_,_,x,hx=>by cases hx
 | y::r,left,h,hf,x,hx=>by
  obtain ⟨h1,h2,h3⟩:=zvf hf;rcases qar.1 hx with rfl | hx
  · exact ⟨h1,h2⟩
  · have:=zsw r (left-y) (by omega) h3 x hx
    omega
def okF (fs:List (Int×Nat)):Bool:=fs.all fun f=>decide ((f.2:Int)<=ziq f.1)
def zaC (k n m:Int):Bool:=decide (0<=k/\k<=3/\0<=n/\n<=255/\(k=1->n<=32/\m<2 ^ n.toNat)/\(¬k=1->m=0))
theorem zaD {k n m:Int} (h:zaC k n m=true):0<=k/\k<=3/\0<=n/\n<=255/\(k=1->n<=32/\m<2 ^ n.toNat)/\(¬k=1->m=0):=by
 unfold zaC at h;exact qas h
theorem zgV {k n m:Int} (h:0<=k/\k<=3/\0<=n/\n<=255/\(k=1->n<=32/\m<2 ^ n.toNat)/\(¬k=1->m=0)):zaC k n m=true:=by
 unfold zaC;exact qab h
theorem zcE {k n m:Int} (h:¬(0<=k/\k<=3/\0<=n/\n<=255/\(k=1->n<=32/\m<2 ^ n.toNat)/\(¬k=1->m=0))):zaC k n m=false:=by
 unfold zaC;exact qaj h
theorem zv7 (n:Int) (h:n<=32):(2:Int) ^ n.toNat<=4294967296:=by
 have:(2:Nat) ^ n.toNat<=2 ^ 32:=qcb (by decide) (by omega)
 rw [<-zho];omega
theorem zki {k n m:Int} (h:zaC k n m=true):m<4294967296:=by
 obtain ⟨h1,h2,h3,h4,h5,h6⟩:=zaD h;by_cases c:k=1
 · obtain ⟨h7,h8⟩:=h5 c;have:=zv7 n h7;omega
 · have:=h6 c;omega
def zcW (k n m:Int):Int:=1+4*k+16*n+65536*m
def encV (k n m:Int):Int:=if zaC k n m then zcW k n m else 0
def encE (k n m:Int):Int:=if zaC k n m then 0 else 1
theorem zvl {k n m:Int} (h:zaC k n m=true):encV k n m=zcW k n m/\encE k n m=0:=by
 unfold encV encE;rw [if_pos h,if_pos h];exact ⟨rfl,rfl⟩
theorem zkg {k n m:Int} (h:zaC k n m=true) (hm:0<=m):0<=zcW k n m/\zcW k n m<281474976710656:=by
 have:=zki h
 obtain ⟨h1,h2,h3,h4,h5,h6⟩:=zaD h;unfold zcW;omega
def dK (x:Nat):Nat:=x / 4 % 4
def dN (x:Nat):Nat:=x / 16 % 4096
def dM (x:Nat):Nat:=x / 65536 % 4294967296
def okD (x:Nat):Bool:=decide (x % 4=1)&&decide (x<281474976710656)&&zaC (dK x) (dN x) (dM x)
def decK (x:Nat):Int:=if okD x then dK x else 0
def decN (x:Nat):Int:=if okD x then dN x else 0
def decM (x:Nat):Int:=if okD x then dM x else 0
theorem zmX {x:Nat} (h:okD x=true):decK x=dK x/\decN x=dN x/\decM x=dM x:=by
 unfold decK decN decM;rw [if_pos h,if_pos h,if_pos h];exact ⟨rfl,rfl,rfl⟩
theorem zpJ {x:Nat} (h:okD x=false):decK x=0/\decN x=0/\decM x=0:=by
 unfold decK decN decM;rw [if_neg (by simp [h]),if_neg (by simp [h]),if_neg (by simp [h])];exact ⟨rfl,rfl,rfl⟩
theorem zcM {x:Nat} (h:okD x=true):x % 4=1/\x<281474976710656/\zaC (dK x) (dN x) (dM x)=true:=by
 unfold okD at h;simp only [qae,qaa]at h;exact ⟨h.1.1,h.1.2,h.2⟩
theorem zw1 {x:Nat} (h1:x % 4=1) (h2:x<281474976710656) (h3:zaC (dK x) (dN x) (dM x)=true):okD x=true:=by
 unfold okD;simp only [qae,qaa];exact ⟨⟨h1,h2⟩,h3⟩
theorem zuJ {x:Nat} (h:¬x % 4=1\/¬x<281474976710656\/zaC (dK x) (dN x) (dM x)=false):okD x=false:=by
 rw [<-qbA];intro c;obtain ⟨h1,h2,h3⟩:=zcM c
 rcases h with h | h | h
 · exact h h1
 · exact h h2
 · rw [h3]at h;cases h
theorem zwF {x:Nat} (h:okD x=true):zcW (dK x) (dN x) (dM x)=x:=by
 obtain ⟨h1,h2,h3⟩:=zcM h;obtain ⟨_,_,_,h4,_,_⟩:=zaD h3;unfold zcW dK dN dM at *;omega
theorem zj0 {k n m:Int} (h:zaC k n m=true) (hm:0<=m) {x:Nat} (hx:zcW k n m=x):okD x=true/\(dK x:Int)=k/\(dN x:Int)=n/\(dM x:Int)=m:=by
 have hm2:=zki h;obtain ⟨h1,h2,h3,h4,h5,h6⟩:=zaD h;have e1:(dK x:Int)=k:=by unfold zcW at hx;unfold dK;omega
 have e2:(dN x:Int)=n:=by unfold zcW at hx;unfold dN;omega
 have e3:(dM x:Int)=m:=by unfold zcW at hx;unfold dM;omega
 refine ⟨zw1 ?_ ?_ ?_,e1,e2,e3⟩
 · unfold zcW at hx;omega
 · unfold zcW at hx;omega
 · rw [e1,e2,e3];exact h
theorem znb {x:Nat}:okD x=true↔zaC (dK x) (dN x) (dM x)=true/\zcW (dK x) (dN x) (dM x)=x :=
 ⟨fun h=>⟨(zcM h).2.2,zwF h⟩,fun h=>(zj0 h.1 (Int.natCast_nonneg _) h.2).1⟩
def fwdV (a:Int):Int:=if a<4294967296 then 4*a+2 else 0
def fwdE (a:Int):Int:=if a<4294967296 then 0 else 1
theorem zw6 {a:Int} (h:a<4294967296):fwdV a=4*a+2/\fwdE a=0:=by
 unfold fwdV fwdE;rw [if_pos h,if_pos h];exact ⟨rfl,rfl⟩
def okT (x:Nat):Bool:=decide (x % 4=2)&&decide (x<17179869184)
def tgtV (x:Nat):Int:=if okT x then ((x / 4:Nat):Int) else 0
theorem zoT {x:Nat} (h:okT x=true):x % 4=2/\x<17179869184:=by
 unfold okT at h;simp only [qae,qaa]at h;exact h
theorem okT_mk {x:Nat} (h1:x % 4=2) (h2:x<17179869184):okT x=true:=by
 unfold okT;simp only [qae,qaa];exact ⟨h1,h2⟩
theorem zwV {x:Nat} (h:okT x=true):tgtV x=((x / 4:Nat):Int):=by unfold tgtV;rw [if_pos h]
theorem zwW {x:Nat} (h:okT x=false):tgtV x=0:=by unfold tgtV;rw [if_neg (by simp [h])]
theorem apart (x:Nat):¬(okD x=true/\okT x=true):=by
 rintro ⟨h,k⟩;have:=(zcM h).1;have:=(zoT k).1;omega
def zaU (k n m:Int):Int:=if zaC k n m then n+1 else 0
theorem zbs {k n m:Int} (h:zaC k n m=true):zaU k n m=n+1:=by unfold zaU;rw [if_pos h]
theorem zqs {k n m:Int} (h:zaC k n m=false):zaU k n m=0:=by unfold zaU;rw [if_neg (by simp [h])]
def ptrB (k n m i:Int):Bool:=zaC k n m&&decide (0<=i)&&decide (i<n)&&(decide (k=2) || (decide (k=1)&&m.toNat.testBit i.toNat))
def zdm (k n m:Int) (j:Nat):List Int:=((List.range j).map Int.ofNat).filter (fun i=>ptrB k n m i)
def zem (k n m:Int):List Int:=if zaC k n m then zdm k n m n.toNat else []
theorem zkA (k n m:Int) (j:Nat):zdm k n m (j+1)=if ptrB k n m j then zdm k n m j++[(j:Int)] else zdm k n m j:=by
 unfold zdm;rw [List.range_succ,qbP,qcj];by_cases h:ptrB k n m j=true
 · rw [if_pos h];have:([j].map Int.ofNat).filter (fun i=>ptrB k n m i)=[(j:Int)]:=by simp [h]
   rw [this]
 · rw [if_neg h];have:([j].map Int.ofNat).filter (fun i=>ptrB k n m i)=[]:=by simp [h]
   rw [this,qaZ]
theorem zs0 (k n m:Int) (j:Nat):(zdm k n m j).length<=j:=by
 unfold zdm;refine qaF (qbM _ _) ?_;simp
theorem zsZ {k n m:Int} {j:Nat} {x:Int} (h:x∈zdm k n m j):ptrB k n m x=true:=(qbK.1 h).2
theorem zkz {k n m:Int} {x:Int} (h:x∈zem k n m):ptrB k n m x=true:=by
 unfold zem at h;by_cases c:zaC k n m=true
 · rw [if_pos c]at h;exact zsZ h
 · rw [if_neg c]at h;cases h
theorem zuu {k n m:Int} (h:zaC k n m=true):zem k n m=zdm k n m n.toNat:=by unfold zem;rw [if_pos h]
theorem zuv {k n m:Int} (h:zaC k n m=false):zem k n m=[]:=by unfold zem;rw [if_neg (by simp [h])]
def okA (len:Nat) (a:Int) (n:Nat):Bool:=decide (4096<=a/\a-4096+n<=len)
theorem znv (i:Nat):((4096+(i:Int))-4096).toNat=i:=by omega
def zk5 (len:Nat) (a:Int):Int:=if okA len a 1 then a-4096 else 0
def zk6 (len:Nat) (a:Int):Int:=if okA len a 1 then 0 else 2
def zap (xs:List Int) (a:Int):Int:=if okA xs.length a 1 then xs.getD (a-4096).toNat 0 else 0
def zk2 (xs:List Int) (a:Int):Int:=if okA xs.length a 1 then 0 else 2
def zkx (xs:List Int) (a n:Int):List Int:=if n<0 then [] else if okA xs.length a n.toNat then (xs.drop (a-4096).toNat).take n.toNat else []
def znn (xs:List Int) (a n:Int):Int:=if n<0 then 1 else if okA xs.length a n.toNat then 0 else 2
def zay (xs:List Int) (a:Int) (l:List Int):List Int:=if okA xs.length a l.length then splice xs (a-4096).toNat l else []
def ze1 (xs:List Int) (a:Int) (l:List Int):Int:=if okA xs.length a l.length then 0 else 2
def zeM (xs:List Int) (t f n:Int):List Int:=if n<0 then [] else if okA xs.length t n.toNat/\okA xs.length f n.toNat then splice xs (t-4096).toNat ((xs.drop (f-4096).toNat).take n.toNat) else []
def moveE (xs:List Int) (t f n:Int):Int:=if n<0 then 1 else if okA xs.length t n.toNat/\okA xs.length f n.toNat then 0 else 2
theorem nneg (n:Nat):¬((n:Int)<0):=by omega
theorem index_ok {len i:Nat} (h:okA len (4096+(i:Int)) 1=true):zk5 len (4096+(i:Int))=i/\zk6 len (4096+(i:Int))=0:=by
 unfold zk5 zk6;rw [if_pos h,if_pos h];exact ⟨by omega,rfl⟩
theorem zwn {xs:List Int} {i:Nat} {x:Int} (h:okA xs.length (4096+(i:Int)) 1=true) (hx:xs[i]?=some x):zap xs (4096+(i:Int))=x/\zk2 xs (4096+(i:Int))=0:=by
 unfold zap zk2;rw [if_pos h,if_pos h,znv,qaA,hx];exact ⟨rfl,rfl⟩
theorem zv0 {xs:List Int} {a n:Int} (h:n<0):zkx xs a n=[]/\znn xs a n=1:=by
 unfold zkx znn;rw [if_pos h,if_pos h];exact ⟨rfl,rfl⟩
theorem read_ok {xs:List Int} {i n:Nat} (h:okA xs.length (4096+(i:Int)) n=true):zkx xs (4096+(i:Int)) n=(xs.drop i).take n/\znn xs (4096+(i:Int)) n=0:=by
 unfold zkx znn;rw [if_neg (nneg n),if_neg (nneg n),qad,if_pos h,if_pos h,znv];exact ⟨rfl,rfl⟩
theorem read_no {xs:List Int} {a:Int} {n:Nat} (h:okA xs.length a n=false):zkx xs a n=[]/\znn xs a n=2:=by
 unfold zkx znn;rw [if_neg (nneg n),if_neg (nneg n),qad,if_neg (by simp [h]),if_neg (by simp [h])];exact ⟨rfl,rfl⟩
theorem zrY {xs l:List Int} {i:Nat} (h:okA xs.length (4096+(i:Int)) l.length=true):zay xs (4096+(i:Int)) l=splice xs i l/\ze1 xs (4096+(i:Int)) l=0:=by
 unfold zay ze1;rw [if_pos h,if_pos h,znv];exact ⟨rfl,rfl⟩
theorem zvL {xs l:List Int} {a:Int} (h:okA xs.length a l.length=false):zay xs a l=[]/\ze1 xs a l=2:=by
 unfold zay ze1;rw [if_neg (by simp [h]),if_neg (by simp [h])];exact ⟨rfl,rfl⟩
theorem zcZ {xs l:List Int} {i:Nat} (h:i+l.length<=xs.length):(splice xs i l).length=xs.length:=length_splice xs i l h
theorem zdl {xs l:List Int} {i j:Nat} (h:i+l.length<=xs.length) (h1:i<=j) (h2:j<i+l.length):(splice xs i l)[j]?=l[j-i]?:=by
 unfold splice;have e:(xs.take i).length=i:=by rw [qax];omega
 rw [qbE (by omega),e,qbu (by omega)]
theorem zei {xs l:List Int} {i j:Nat} (h:i+l.length<=xs.length) (h1:j<i\/i+l.length<=j):(splice xs i l)[j]?=xs[j]?:=by
 unfold splice;have e:(xs.take i).length=i:=by rw [qax];omega
 rcases h1 with h1 | h1
 · rw [qbu (by omega),qa5,if_pos h1]
 · rw [qbE (by omega),e,qbE (by omega),qa6]
   congr 1;omega
structure Hd where
 k:Int
 n:Int
 m:Int
 deriving DecidableEq
def Hd.zero:Hd:=⟨0,0,0⟩
def okH (h:Hp):Bool:=zc2 h.pw h.np h.words.length h.pages h.space h.bump
def zcu (h:Hp) (a:Int):Pg:=h.pages.getD (ofI h.pw h.np a).toNat Pg.zero
def zan (h:Hp) (a:Int):Nat:=(h.words.getD (a-4096).toNat 0).toNat
def hdOf (x:Nat):Hd:=⟨dK x,dN x,dM x⟩
def atB (h:Hp) (a:Int):Bool :=
 decide ((zcu h a).kind=1\/(zcu h a).kind=2)&&decide (ofK h.pw h.np a<(zcu h a).used)&&okD (zan h a) &&
 (if (zcu h a).kind=1 then decide (ofK h.pw h.np a+(dN (zan h a)+1)<=(zcu h a).used) else decide (ofK h.pw h.np a=0/\(dN (zan h a):Int)+1=(zcu h a).used))
def atE (h:Hp) (a:Int):Int:=if okH h then (if ofE h.pw h.np a=0 then (if atB h a then 0 else 19) else 2) else 1
def atH (h:Hp) (a:Int):Hd:=if atE h a=0 then hdOf (zan h a) else Hd.zero
def getE (h:Hp) (a:Int):Int:=if okH h then (if a=0 then 5 else if atE h a=0/\(atH h a).k=0 then 4 else atE h a) else 1
def getH (h:Hp) (a:Int):Hd:=if getE h a=0 then atH h a else Hd.zero
def zjp (h:Hp) (a i:Int):Int:=if getE h a=0 then (if i<0\/(getH h a).n<=i then 2 else zk2 h.words (a+1+i)) else getE h a
def zw7 (h:Hp) (a i:Int):Int:=if getE h a=0 then (if i<0\/(getH h a).n<=i then 0 else zap h.words (a+1+i)) else 0
def setE (h:Hp) (a i:Int):Int:=zjp h a i
def setV (h:Hp) (a i v:Int):Hp:=if zjp h a i=0 then { h with words:=zay h.words (a+1+i) [v] } else Hp.zero
theorem zao {h:Hp} (hp:okH h=true):confB h.pw h.np=true/\(h.words.length:Int)=h.np*h.pw/\(h.pages.length:Int)=h.np/\0<=h.space/\h.space<=1/\zdV h.pages h.bump=true/\zaK h.pw h.np h.pages 0=true:=by
 unfold okH zc2 at hp;simp only [qae,qaa]at hp;obtain ⟨⟨⟨⟨⟨h1,h2⟩,h3⟩,h4⟩,h5⟩,h6⟩:=hp;exact ⟨h1,h2,h3,h4.1,h4.2,h5,h6⟩
theorem zaM (pw np:Int):∀ (ps:List Pg) (due:Int),zaK pw np ps due=true->∀ x∈ps,0<=x.space/\x.space<=1/\0<=x.pins/\x.pins<=2147483647/\(x.kind=0->x=Pg.zero)/\(x.kind=1->0<=x.used/\x.used<=pw)/\(x.kind=2->1<=zax pw np x.used)/\(x.kind=3->x.used=0/\x.pins=0)/\(x.kind=0\/x.kind=1\/x.kind=2\/x.kind=3)
 | [],_,_,x,hx=>by cases hx
 | y::r,due,h,x,hx=>by
  rw [zaK]at h;cases hs:zcc pw np y r due with
  | none=>rw [hs]at h;cases h
  | some d=>
   rw [hs]at h;rcases qar.1 hx with rfl | hx
   · unfold zcc at hs;split at hs
     · cases hs
     · rename_i hA;have h1:0<=x.space:=by omega
       have h2:x.space<=1:=by omega
       have h3:zea x.pins=true:=by
        cases hp:zea x.pins
        · exact absurd (Or.inr (Or.inr (Or.inr hp))) hA
        · rfl
       have h4:=qas h3;refine ⟨h1,h2,h4.1,h4.2,?_⟩;split at hs
       · rename_i k;refine ⟨fun _=>?_,fun c=>by omega,fun c=>by omega,fun c=>by omega,Or.inl k⟩
         split at hs
         · assumption
         · cases hs
       · split at hs
         · rename_i k;refine ⟨fun c=>by omega,fun _=>?_,fun c=>by omega,fun c=>by omega,Or.inr (Or.inl k)⟩
           split at hs
           · cases hs
           · omega
         · split at hs
           · rename_i k;refine ⟨fun c=>by omega,fun c=>by omega,fun _=>?_,fun c=>by omega,Or.inr (Or.inr (Or.inl k))⟩
             split at hs
             · cases hs
             · omega
           · split at hs
             · rename_i k;refine ⟨fun c=>by omega,fun c=>by omega,fun c=>by omega,fun _=>?_,Or.inr (Or.inr (Or.inr k))⟩
               split at hs
               · assumption
               · cases hs
             · cases hs
   · exact zaM pw np r d h x hx
theorem zuK {h:Hp} {a:Int} (hp:okH h=true) (he:ofE h.pw h.np a=0):inAr h.pw h.np a=true/\(∃ i j:Nat,ofI h.pw h.np a=i/\ofK h.pw h.np a=j/\i<h.pages.length/\(j:Int)<h.pw/\a=4096+i*h.pw+j)/\(∃ t:Nat,a=4096+t/\t<h.words.length):=by
 obtain ⟨h1,h2,h3,_⟩:=zao hp;have hc:=zal h1;have hin:inAr h.pw h.np a=true:=by
  cases hi:inAr h.pw h.np a
  · rw [(ze4 h1 hi).2.2]at he;cases he
  · rfl
 obtain ⟨e1,e2,_⟩:=zis h1 hin;obtain ⟨b1,b2⟩:=qas hin;have m1:=Int.emod_nonneg (a-4096) (show h.pw≠0 by omega)
 have m2:=Int.emod_lt_of_pos (a-4096) (show 0<h.pw by omega)
 have d1:0<=(a-4096) / h.pw:=qbU (by omega) (by omega)
 have d2:(a-4096) / h.pw<h.np:=qco (by omega) (by omega)
 have de:=Int.mul_ediv_add_emod (a-4096) h.pw;refine ⟨hin,⟨((a-4096) / h.pw).toNat,((a-4096) % h.pw).toNat,by rw [e1];omega,by rw [e2];omega,by omega,by omega,?_⟩,⟨(a-4096).toNat,by omega,by omega⟩⟩
 rw [qck d1,qck m1,Int.mul_comm];omega
theorem zqy {pw np:Int} {ps:List Pg} {k:Nat} {x:Pg} (h:ps[k]?=some x) (due:Int):zaK pw np (ps.drop k) due=match zcc pw np x (ps.drop (k+1)) due with | some d=>zaK pw np (ps.drop (k+1)) d | none=>false:=by
 obtain ⟨hk,rfl⟩:=qah.1 h;rw [qaU hk,zaK]
theorem zoH {pw np:Int} {nw:Nat} {ps:List Pg} {sp b:Int} (h1:confB pw np=true) (h2:(nw:Int)=np*pw) (h3:(ps.length:Int)=np) (h4:0<=sp) (h5:sp<=1) (h6:zdV ps b=true):zc2 pw np nw ps sp b=zaK pw np ps 0:=by
 unfold zc2;simp [h1,h2,h3,h4,h5,h6]
def wrow (xs l:List Int) (i k:Nat):List Int:=splice xs i (l.take k)
theorem zna {xs l:List Int} {i k:Nat} (h:i+l.length<=xs.length):(wrow xs l i k).length=xs.length:=by
 unfold wrow;rw [zcZ (by rw [qax];omega)]
theorem zou (xs l:List Int) (i:Nat):wrow xs l i 0=xs:=by unfold wrow splice;simp
theorem zrX {xs l:List Int} {i k:Nat} (h:l.length<=k):wrow xs l i k=splice xs i l:=by unfold wrow;rw [qba h]
theorem zrW {xs l:List Int} {i k:Nat} {x:Int} (h:i+l.length<=xs.length) (hx:l[k]?=some x):(wrow xs l i k).set (i+k) x=wrow xs l i (k+1):=by
 have hk:=(qah.1 hx).1;apply qbj
 intro j;have hl1:(l.take k).length=k:=by rw [qax];omega
 have hl2:(l.take (k+1)).length=k+1:=by rw [qax];omega
 rw [qaO];by_cases h1:i+k=j
 · subst h1;rw [if_pos rfl,if_pos (by rw [zna h];omega)]
   unfold wrow;rw [zdl (by omega) (by omega) (by omega),qa5,if_pos (by omega),show i+k-i=k from by omega,hx]
 · rw [if_neg h1];unfold wrow;by_cases h2:i<=j/\j<i+k
   · rw [zdl (by omega) (by omega) (by omega),zdl (by omega) (by omega) (by omega),qa5,qa5,if_pos (by omega),if_pos (by omega)]
   · rw [zei (by omega) (by omega),zei (by omega) (by omega)]
theorem zus (xs:List Int) (a m:Int):(zkx xs a m).length<=xs.length:=by
 unfold zkx;by_cases h1:m<0
 · rw [if_pos h1];exact qa8 _
 · rw [if_neg h1];by_cases h2:okA xs.length a m.toNat=true
   · rw [if_pos h2,qax,qaL];omega
   · rw [if_neg h2];exact qa8 _
theorem zrk {h:Hp} {a:Int} (h1:okH h=false):atE h a=1/\atH h a=Hd.zero:=by
 have e:atE h a=1:=by unfold atE;rw [if_neg (by simp [h1])]
 exact ⟨e,by unfold atH;rw [if_neg (by rw [e];decide)]⟩
theorem ziO {h:Hp} {a:Int} (h1:okH h=true) (h2:¬ofE h.pw h.np a=0):atE h a=2/\atH h a=Hd.zero:=by
 have e:atE h a=2:=by unfold atE;rw [if_pos h1,if_neg h2]
 exact ⟨e,by unfold atH;rw [if_neg (by rw [e];decide)]⟩
theorem zpU {h:Hp} {a:Int} (h1:okH h=true) (h2:ofE h.pw h.np a=0) (h3:atB h a=false):atE h a=19/\atH h a=Hd.zero:=by
 have e:atE h a=19:=by unfold atE;rw [if_pos h1,if_pos h2,if_neg (by simp [h3])]
 exact ⟨e,by unfold atH;rw [if_neg (by rw [e];decide)]⟩
theorem zm0 {h:Hp} {a:Int} (h1:okH h=true) (h2:ofE h.pw h.np a=0) (h3:atB h a=true):atE h a=0/\atH h a=hdOf (zan h a):=by
 have e:atE h a=0:=by unfold atE;rw [if_pos h1,if_pos h2,if_pos h3]
 exact ⟨e,by unfold atH;rw [if_pos e]⟩
theorem word_of {h:Hp} {a:Int} (hw:WB h.words) (hp:okH h=true) (he:ofE h.pw h.np a=0):zap h.words a=zan h a/\zk2 h.words a=0/\zan h a<18446744073709551616:=by
 obtain ⟨_,_,t,rfl,ht⟩:=zuK hp he;have hx:h.words[t]?=some (h.words[t]):=qal ht
 have hk:okA h.words.length (4096+(t:Int)) 1=true:=qab (by omega)
 obtain ⟨e1,e2⟩:=zwn hk hx;obtain ⟨b1,b2⟩:=hw _ (qbS ht);have e3:zan h (4096+(t:Int))=(h.words[t]).toNat:=by unfold zan;rw [znv,qaA,hx];rfl
 rw [e1,e2,e3];exact ⟨by omega,rfl,by omega⟩
theorem zhp {h:Hp} {a:Int} (e:¬getE h a=0):getH h a=Hd.zero:=by unfold getH;rw [if_neg e]
theorem zst {h:Hp} {a:Int} (h1:okH h=false):getE h a=1/\getH h a=Hd.zero:=by
 have e:getE h a=1:=by unfold getE;rw [if_neg (by simp [h1])]
 exact ⟨e,zhp (by rw [e];decide)⟩
theorem zpz {h:Hp} (h1:okH h=true):getE h 0=5/\getH h 0=Hd.zero:=by
 have e:getE h 0=5:=by unfold getE;rw [if_pos h1,if_pos rfl]
 exact ⟨e,zhp (by rw [e];decide)⟩
theorem zpA {h:Hp} {a:Int} (h1:okH h=true) (h2:¬a=0) (h3:atE h a=0) (h4:(atH h a).k=0):getE h a=4/\getH h a=Hd.zero:=by
 have e:getE h a=4:=by unfold getE;rw [if_pos h1,if_neg h2,if_pos ⟨h3,h4⟩]
 exact ⟨e,zhp (by rw [e];decide)⟩
theorem zq7 {h:Hp} {a:Int} (h1:okH h=true) (h2:¬a=0) (h3:¬(atE h a=0/\(atH h a).k=0)):getE h a=atE h a/\getH h a=atH h a:=by
 have e:getE h a=atE h a:=by unfold getE;rw [if_pos h1,if_neg h2,if_neg h3]
 refine ⟨e,?_⟩;unfold getH;by_cases h4:getE h a=0
 · rw [if_pos h4]
 · rw [if_neg h4];rw [e]at h4;unfold atH;rw [if_neg h4]
theorem znT {h:Hp} {a:Int} (e:getE h a=0):okH h=true/\atE h a=0/\getH h a=atH h a/\ofE h.pw h.np a=0/\atB h a=true/\4096<=a/\a<8192/\0<=(getH h a).n/\(getH h a).n<=255/\¬(getH h a).k=0:=by
 have h1:okH h=true:=by
  cases h1:okH h
  · rw [(zst (a:=a) h1).1]at e;cases e
  · rfl
 have h2:¬a=0:=by intro h2;subst h2;rw [(zpz h1).1]at e;cases e
 have h3:¬(atE h a=0/\(atH h a).k=0):=by rintro ⟨h3,h4⟩;rw [(zpA h1 h2 h3 h4).1]at e;cases e
 obtain ⟨e1,e2⟩:=zq7 h1 h2 h3;have h4:atE h a=0:=by rw [<-e1];exact e
 have h5:ofE h.pw h.np a=0:=by
  by_cases h5:ofE h.pw h.np a=0
  · exact h5
  · rw [(ziO h1 h5).1]at h4;cases h4
 have h6:atB h a=true:=by
  cases h6:atB h a
  · rw [(zpU h1 h5 h6).1]at h4;cases h4
  · rfl
 obtain ⟨hin,_,t,ht,htl⟩:=zuK h1 h5;obtain ⟨g1,g2,_⟩:=zao h1;have:=(conf_prod g1).2
 have hok:okD (zan h a)=true:=by
  unfold atB at h6;simp only [qae]at h6;exact h6.1.2
 have hv:=zaD (zcM hok).2.2;have hH:getH h a=hdOf (zan h a):=by rw [e2,(zm0 h1 h5 h6).2]
 refine ⟨h1,h4,e2,h5,h6,by omega,by omega,?_,?_,?_⟩
 · rw [hH];exact hv.2.2.1
 · rw [hH];exact hv.2.2.2.1
 · rw [e2];intro c;exact h3 ⟨h4,c⟩
theorem zow {xs l:List Int} {i:Nat} (h:WB xs) (hl:WB l):WB (splice xs i l):=by
 intro x hx;unfold splice at hx;rcases qao.1 hx with hx | hx
 · exact h x (qb2 hx)
 · rcases qao.1 hx with hx | hx
   · exact hl x hx
   · exact h x (qb8 hx)
theorem zdw {xs l:List Int} {a:Int} (h:WB xs) (hl:WB l):WB (zay xs a l):=by
 unfold zay;split
 · exact zow h hl
 · exact WB.nil
def zch (k n m:Int):List Int:=zcW k n m::List.replicate n.toNat 0
def zgH (h:Hp) (a k n m:Int):Int:=if zaC k n m=true/\okH h=true then ze1 h.words a (zch k n m) else 1
def zjK (h:Hp) (a k n m:Int):Hp:=if zgH h a k n m=0 then { h with words:=zay h.words a (zch k n m) } else Hp.zero
theorem zep {k n m:Int}:(zch k n m).length=n.toNat+1:=by unfold zch;rw [qaP,qa2]
theorem zsm {k n m:Int} (h:zaC k n m=true) (hm:0<=m):WB (zch k n m):=by
 intro x hx;rcases qar.1 hx with rfl | hx
 · have:=zkg h hm;omega
 · exact WB.zeros _ x hx
def zvj (h:Hp) (a:Int):Int:=if getE h a=0 then znn h.words (a+1) (getH h a).n else getE h a
def ziI (h:Hp) (a:Int):List Int:=if getE h a=0 then zkx h.words (a+1) (getH h a).n else []
theorem zlw (pw np p o:Int):0<=zba pw np p o/\zba pw np p o<18446744073709551616:=by
 cases h:confB pw np
 · unfold zba;rw [h];simp
 · cases h1:inPg pw np p o
   · rw [(zod h h1).1];omega
   · rw [(zee h h1).1];have hc:=conf_prod h;obtain ⟨a1,a2,a3,a4⟩:=qas h1;obtain ⟨c1,c2,_⟩:=zal h;have e1:p*pw<=(np-1)*pw:=qaN (by omega) (by omega)
     have e2:(np-1)*pw=np*pw-pw:=by rw [Int.sub_mul,qbl]
     have e3:0<=p*pw:=qbb a1 (by omega)
     omega
theorem zdW {h:Hp} {a:Int} (e:atE h a=0):okH h=true/\zaC (atH h a).k (atH h a).n (atH h a).m=true/\0<=(atH h a).m/\(atH h a).m<4294967296/\0<=(atH h a).n/\(atH h a).n<=255:=by
 have h1:okH h=true:=by
  cases h1:okH h
  · unfold atE at e;rw [h1]at e;simp at e
  · rfl
 have h5:ofE h.pw h.np a=0:=by
  by_cases h5:ofE h.pw h.np a=0
  · exact h5
  · rw [(ziO h1 h5).1]at e;cases e
 have h6:atB h a=true:=by
  cases h6:atB h a
  · rw [(zpU h1 h5 h6).1]at e;cases e
  · rfl
 have hok:okD (zan h a)=true:=by
  unfold atB at h6;simp only [qae]at h6;exact h6.1.2
 have hv:=(zcM hok).2.2;have hp:=zaD hv;have hm:=zki hv;rw [(zm0 h1 h5 h6).2];exact ⟨h1,hv,Int.natCast_nonneg _,hm,hp.2.2.1,hp.2.2.2.1⟩
theorem zxc {h:Hp} {a:Int} (e:¬atE h a=0):atH h a=Hd.zero:=by unfold atH;exact if_neg e
def zcl (h:Hp) (i:Int) (big:Bool) (u o:Nat):Option (List Int) :=
 if _hlt:o<u then
  if atE h (zba h.pw h.np i o)=0 then
   if big then some [zba h.pw h.np i o]
   else (zcl h i big u (o+((atH h (zba h.pw h.np i o)).n.toNat+1))).map (zba h.pw h.np i o :: ·)
  else none
 else some []
 termination_by u-o
theorem zbT {h:Hp} {i:Int} {big:Bool} {u o:Nat} (hlt:¬o<u):zcl h i big u o=some []:=by
 rw [zcl,dif_neg hlt]
theorem zdd {h:Hp} {i:Int} {big:Bool} {u o:Nat} (hlt:o<u) (e:¬atE h (zba h.pw h.np i o)=0):zcl h i big u o=none:=by
 rw [zcl,dif_pos hlt,if_neg e]
theorem zdX {h:Hp} {i:Int} {u o:Nat} (hlt:o<u) (e:atE h (zba h.pw h.np i o)=0):zcl h i true u o=some [zba h.pw h.np i o]:=by
 rw [zcl,dif_pos hlt,if_pos e,if_pos rfl]
theorem zdi {h:Hp} {i:Int} {u o:Nat} (hlt:o<u) (e:atE h (zba h.pw h.np i o)=0):zcl h i false u o=(zcl h i false u (o+((atH h (zba h.pw h.np i o)).n.toNat+1))).map (zba h.pw h.np i o :: ·):=by
 rw [zcl,dif_pos hlt,if_pos e,if_neg (by decide)]
def zcU (h:Hp) (i:Int) (big:Bool) (u o:Nat) (acc:List Int):Prop:=zcl h i big u 0=(zcl h i big u o).map (acc ++ ·)
theorem zcU.start (h:Hp) (i:Int) (big:Bool) (u:Nat):zcU h i big u 0 []:=by
 unfold zcU;cases zcl h i big u 0 <;> simp
theorem zcU.fin {h:Hp} {i:Int} {big:Bool} {u o:Nat} {acc:List Int} (hw:zcU h i big u o acc) (hlt:¬o<u):zcl h i big u 0=some acc:=by
 unfold zcU at hw;rw [hw,zbT hlt];simp
theorem zcU.bad {h:Hp} {i:Int} {big:Bool} {u o:Nat} {acc:List Int} (hw:zcU h i big u o acc) (hlt:o<u) (e:¬atE h (zba h.pw h.np i o)=0):zcl h i big u 0=none:=by
 unfold zcU at hw;rw [hw,zdd hlt e];rfl
theorem zcU.big {h:Hp} {i:Int} {u o:Nat} {acc:List Int} (hw:zcU h i true u o acc) (hlt:o<u) (e:atE h (zba h.pw h.np i o)=0):zcl h i true u 0=some (acc++[zba h.pw h.np i o]):=by
 unfold zcU at hw;rw [hw,zdX hlt e];rfl
theorem zcU.step {h:Hp} {i:Int} {u o:Nat} {acc:List Int} (hw:zcU h i false u o acc) (hlt:o<u) (e:atE h (zba h.pw h.np i o)=0):zcU h i false u (o+((atH h (zba h.pw h.np i o)).n.toNat+1)) (acc++[zba h.pw h.np i o]):=by
 unfold zcU at hw ⊢;rw [hw,zdi hlt e]
 cases zcl h i false u (o+((atH h (zba h.pw h.np i o)).n.toNat+1)) <;> simp
def pgAt (h:Hp) (i:Int):Pg:=h.pages.getD i.toNat Pg.zero
def zcK (h:Hp) (i:Int):Option (List Int):=zcl h i (decide ((pgAt h i).kind=2)) (pgAt h i).used.toNat 0
def zbq (h:Hp) (i:Int):Int:=if okH h then (if i<0\/h.pages.length<=i then 2 else if (pgAt h i).kind=0\/(pgAt h i).kind=3 then 0 else if (zcK h i).isSome then 0 else 19) else 1
def zaE (h:Hp) (i:Int):List Int:=if okH h then (if i<0\/h.pages.length<=i then [] else if (pgAt h i).kind=0\/(pgAt h i).kind=3 then [] else (zcK h i).getD []) else []
theorem znt {h:Hp} {i:Int} (h1:okH h=false):zbq h i=1/\zaE h i=[]:=by
 unfold zbq zaE;rw [if_neg (by simp [h1]),if_neg (by simp [h1])];exact ⟨rfl,rfl⟩
theorem zns {h:Hp} {i:Int} (h1:okH h=true) (h2:i<0\/h.pages.length<=i):zbq h i=2/\zaE h i=[]:=by
 unfold zbq zaE;rw [if_pos h1,if_pos h1,if_pos h2,if_pos h2];exact ⟨rfl,rfl⟩
theorem zfl {h:Hp} {i:Int} (h1:okH h=true) (h2:¬(i<0\/h.pages.length<=i)) (h3:(pgAt h i).kind=0\/(pgAt h i).kind=3):zbq h i=0/\zaE h i=[]:=by
 unfold zbq zaE;rw [if_pos h1,if_pos h1,if_neg h2,if_neg h2,if_pos h3,if_pos h3];exact ⟨rfl,rfl⟩
theorem zen {h:Hp} {i:Int} (h1:okH h=true) (h2:¬(i<0\/h.pages.length<=i)) (h3:¬((pgAt h i).kind=0\/(pgAt h i).kind=3)):zbq h i=(if (zcK h i).isSome then 0 else 19)/\zaE h i=(zcK h i).getD []:=by
 unfold zbq zaE;rw [if_pos h1,if_pos h1,if_neg h2,if_neg h2,if_neg h3,if_neg h3];exact ⟨rfl,rfl⟩
theorem zg2 {h:Hp} {i:Int} {l:List Int} (h1:okH h=true) (h2:¬(i<0\/h.pages.length<=i)) (h3:¬((pgAt h i).kind=0\/(pgAt h i).kind=3)) (h4:zcK h i=some l):zbq h i=0/\zaE h i=l:=by
 obtain ⟨e1,e2⟩:=zen h1 h2 h3;rw [e1,e2,h4];exact ⟨rfl,rfl⟩
theorem zoO {h:Hp} {i:Int} (h1:okH h=true) (h2:¬(i<0\/h.pages.length<=i)) (h3:¬((pgAt h i).kind=0\/(pgAt h i).kind=3)) (h4:zcK h i=none):zbq h i=19/\zaE h i=[]:=by
 obtain ⟨e1,e2⟩:=zen h1 h2 h3;rw [e1,e2,h4];exact ⟨rfl,rfl⟩
def zuC (h:Hp) (i o:Int):Int:=zap h.words (zba h.pw h.np i o)
theorem zr0 (h:Hp) (i:Int) (u:Nat):∀ (f o:Nat) (l:List Int),u-o<=f->zcl h i false u o=some l->l.length<=u-o
 | 0,o,l,hf,hl=>by
  rw [zbT (by omega)]at hl;cases hl;simp
 | f+1,o,l,hf,hl=>by
  by_cases hlt:o<u
  · by_cases e:atE h (zba h.pw h.np i o)=0
    · rw [zdi hlt e]at hl;cases hr:zcl h i false u (o+((atH h (zba h.pw h.np i o)).n.toNat+1)) with
      | none=>rw [hr]at hl;cases hl
      | some r=>
       rw [hr]at hl;cases hl
       have:=zr0 h i u f _ r (by omega) hr
       rw [qaP];omega
    · rw [zdd hlt e]at hl;cases hl
  · rw [zbT hlt]at hl;cases hl;simp
theorem zfm {h:Hp} {i:Int} (h1:okH h=true):(zaE h i).length<=64:=by
 by_cases h2:i<0\/h.pages.length<=i
 · rw [(zns h1 h2).2];simp
 · by_cases h3:(pgAt h i).kind=0\/(pgAt h i).kind=3
   · rw [(zfl h1 h2 h3).2];simp
   · rw [(zen h1 h2 h3).2];cases hw:zcK h i with
     | none=>simp
     | some l=>
      rw [Option.getD_some];unfold zcK at hw;by_cases h4:(pgAt h i).kind=2
      · rw [qab h4]at hw;by_cases hlt:0<(pgAt h i).used.toNat
        · by_cases e:atE h (zba h.pw h.np i ((0:Nat):Int))=0
          · rw [zdX hlt e]at hw;cases hw;simp
          · rw [zdd hlt e]at hw;cases hw
        · rw [zbT hlt]at hw;cases hw;simp
      · rw [qaj h4]at hw;have hlen:=zr0 h i _ _ _ _ (qan _) hw;obtain ⟨g1,-,-,-,-,-,hL⟩:=zao h1;have hpw:=(zal g1).2.1;have hil:i.toNat<h.pages.length:=by omega
        have hmem:pgAt h i∈h.pages:=by
         unfold pgAt;rw [zaq (qal hil)];exact qbS hil
        obtain ⟨-,-,-,-,-,k1,-,-,hk⟩:=zaM _ _ _ _ hL _ hmem;have:=k1 (by omega)
        omega
theorem zuD {h:Hp} {i:Int} (h1:okH h=true) (h2:¬(i<0\/h.pages.length<=i)) (h3:¬zbq h i=0):zbq h i=19:=by
 unfold zbq at h3 ⊢
 rw [if_pos h1,if_neg h2]at h3 ⊢
 split at h3
 · exact absurd rfl h3
 · rename_i h4;rw [if_neg h4];split at h3
   · exact absurd rfl h3
   · rename_i h5;rw [if_neg h5]
def zbE (h:Hp) (k:Nat):List Int:=(List.range k).flatMap (fun (j:Nat)=>zaE h j)
def zib (h:Hp):Bool:=(List.range h.pages.length).all (fun (j:Nat)=>decide (zbq h j=0))
def zca (h:Hp):Int:=if okH h then (if zib h then 0 else 19) else 1
def zat (h:Hp):List Int:=if okH h then (if zib h then zbE h h.pages.length else []) else []
theorem zmv {h:Hp} (h1:okH h=false):zca h=1/\zat h=[]:=by
 unfold zca zat;rw [if_neg (by simp [h1]),if_neg (by simp [h1])];exact ⟨rfl,rfl⟩
theorem zoD {h:Hp} {k:Nat} (h1:okH h=true) (hk:k<h.pages.length) (h2:¬zbq h k=0):zca h=19/\zat h=[]:=by
 have hB:zib h=false:=by
  rw [<-qbA];intro c
  unfold zib at c;exact h2 (qas (qaQ.1 c k (qbv.2 hk)))
 unfold zca zat;rw [if_pos h1,if_pos h1,if_neg (by simp [hB]),if_neg (by simp [hB])];exact ⟨rfl,rfl⟩
theorem zdj {h:Hp} (h1:okH h=true) (h2:∀ k:Nat,k<h.pages.length->zbq h k=0):zca h=0/\zat h=zbE h h.pages.length:=by
 have hB:zib h=true:=by
  unfold zib;exact qaQ.2 fun j hj=>qab (h2 j (qbv.1 hj))
 unfold zca zat;rw [if_pos h1,if_pos h1,if_pos hB,if_pos hB];exact ⟨rfl,rfl⟩
theorem zeB (h:Hp) (k:Nat):zbE h (k+1)=zbE h k++zaE h k:=by
 unfold zbE;rw [List.range_succ,List.flatMap_append];simp
theorem zfd {h:Hp} (h1:okH h=true):∀ k,(zbE h k).length<=64*k
 | 0=>by simp [zbE]
 | k+1=>by
  rw [zeB,qaz];have:=zfd h1 k
  have:=zfm (i:=k) h1
  omega
theorem zt7 (h:Hp) (i:Int) (big:Bool) (u:Nat):∀ (f o:Nat) (l:List Int),u-o<=f->zcl h i big u o=some l->WB l
 | 0,o,l,hf,hl=>by
  rw [zbT (by omega)]at hl;cases hl;exact WB.nil
 | f+1,o,l,hf,hl=>by
  by_cases hlt:o<u
  · by_cases e:atE h (zba h.pw h.np i o)=0
    · cases big
      · rw [zdi hlt e]at hl;cases hr:zcl h i false u (o+((atH h (zba h.pw h.np i o)).n.toNat+1)) with
        | none=>rw [hr]at hl;cases hl
        | some r=>
         rw [hr]at hl;cases hl
         intro x hx;rcases qar.1 hx with rfl | hx
         · exact zlw _ _ _ _
         · exact zt7 h i false u f _ r (by omega) hr x hx
      · rw [zdX hlt e]at hl;cases hl
        intro x hx;rw [qau.1 hx];exact zlw _ _ _ _
    · rw [zdd hlt e]at hl;cases hl
  · rw [zbT hlt]at hl;cases hl;exact WB.nil
theorem zr9 (h:Hp) (i:Int):WB (zaE h i):=by
 unfold zaE;split
 · split
   · exact WB.nil
   · split
     · exact WB.nil
     · cases hw:zcK h i with
       | none=>exact WB.nil
       | some l=>exact zt7 h i _ _ _ _ l (qan _) hw
 · exact WB.nil
theorem zmw (h:Hp):WB (zat h):=by
 unfold zat;split
 · split
   · intro x hx;obtain ⟨j,-,hj⟩:=List.mem_flatMap.1 hx;exact zr9 h j x hj
   · exact WB.nil
 · exact WB.nil
theorem zcY (h:Hp):(zat h).length<=4096:=by
 unfold zat;split
 · rename_i h1;split
   · have:=zfd h1 h.pages.length
     obtain ⟨g1,_,g3,_⟩:=zao h1;have:=(zal g1).2.2.2.2
     omega
   · simp
 · simp
def zb8 (h:Hp) (l:List Int):List Int:=l.filter (fun a=>decide (¬(atH h a).k=0))
def zaf (h:Hp):List Int:=zb8 h (zat h)
theorem objs_in {h:Hp} {l:List Int} {k:Nat} {x:Int} (hx:l[k]?=some x) (hk:¬(atH h x).k=0):zb8 h (l.take (k+1))=zb8 h (l.take k)++[x]:=by
 unfold zb8;rw [zbt hx,qcj];simp [hk]
theorem zwk {h:Hp} {l:List Int} {k:Nat} {x:Int} (hx:l[k]?=some x) (hk:(atH h x).k=0):zb8 h (l.take (k+1))=zb8 h (l.take k):=by
 unfold zb8;rw [zbt hx,qcj];simp [hk]
theorem zwl (h:Hp) (l:List Int) (k:Nat):(zb8 h (l.take k)).length<=l.length:=by
 unfold zb8;exact qaF (qbM _ _) (by rw [qax];omega)
def zra (P:Int->Bool):List Int->Int
 | []=>0
 | x::r=>if P x then x else zra P r
theorem zwB {P:Int->Bool} {l:List Int} {k:Nat} {x:Int} (h:l[k]?=some x):zra P (l.drop k)=if P x then x else zra P (l.drop (k+1)):=by
 obtain ⟨hk,rfl⟩:=qah.1 h;rw [qaU hk,zra]
theorem zvg {P:Int->Bool} {l:List Int} {k:Nat} (h:l.length<=k):zra P (l.drop k)=0:=by
 rw [qbn h];rfl
theorem atH_m (h:Hp) (a:Int):0<=(atH h a).m/\(atH h a).m<4294967296:=by
 by_cases e:atE h a=0
 · have:=zdW e;exact ⟨this.2.2.1,this.2.2.2.1⟩
 · rw [zxc e];decide
def clsB (h:Hp) (i:Nat) (x:Int):Bool :=
 (decide ((pgAt h i).kind=1) && !decide (zaU (atH h x).k (atH h x).n (atH h x).m<=zej h.pw h.np)) || (decide ((pgAt h i).kind=2)&&decide ((atH h x).k=0))
def clsV (h:Hp) (i:Nat) (l:List Int):Int:=zra (clsB h i) l
def zaY (ps:List Pg):Nat->Nat
 | 0=>0
 | j+1=>if (ps.getD (j+1) Pg.zero).kind=3 then zaY ps j else j+1
theorem zpx (ps:List Pg):∀ i,zaY ps i<=i
 | 0=>qan _
 | j+1=>by unfold zaY;split;exact Nat.le_succ_of_le (zpx ps j);exact qan _
theorem zu8 {h:Hp} (h1:okH h=true):¬(h.pages.getD 0 Pg.zero).kind=3:=by
 obtain ⟨-,-,-,-,-,-,hL⟩:=zao h1;cases hp:h.pages with
 | nil=>simp [Pg.zero]
 | cons x r=>
  rw [hp,zaK]at hL;intro hk;have hk':x.kind=3:=hk
  unfold zcc at hL;rw [if_pos (Or.inl (by rw [hk'];simp))]at hL
  cases hL
def zcC (h:Hp) (x:Int):Int:=if (atH h x).k=0 then 1 else zaU (atH h x).k (atH h x).n (atH h x).m
def zvO (h:Hp) (i:Nat) (l:List Int) (t:Nat):Bool:=l.any fun x=>decide (x-4096-(i:Int)*h.pw<=t/\(t:Int)<x-4096-(i:Int)*h.pw+zcC h x)
def zh7 (h:Hp) (i:Nat) (l:List Int):List Bool:=(List.range h.pw.toNat).map (zvO h i l)
def zh8 (h:Hp) (i:Nat) (l:List Int) (x:Int) (z:Nat):List Bool:=(List.range h.pw.toNat).map fun t=>zvO h i l t || decide (x-4096-(i:Int)*h.pw<=t/\(t:Int)<x-4096-(i:Int)*h.pw+z)
theorem zoA (h:Hp) (i:Nat) (l:List Int) (x:Int) (z:Nat):(zh8 h i l x z).length=h.pw.toNat:=by unfold zh8;rw [qak,qcl]
theorem zsM (h:Hp) (i:Nat) (l:List Int) (x:Int):zh8 h i l x 0=zh7 h i l:=by
 unfold zh8 zh7;congr 1;funext t
 rw [show decide (x-4096-(i:Int)*h.pw<=t/\(t:Int)<x-4096-(i:Int)*h.pw+((0:Nat):Int))=false from qaj (by omega),Bool.or_false]
theorem zvN {h:Hp} {i:Nat} {l:List Int} {x:Int} {z T:Nat} (hT:x-4096-(i:Int)*h.pw+z=T) (hp:T<h.pw.toNat):(zh8 h i l x z).set T true=zh8 h i l x (z+1):=by
 apply qbj
 intro j;rw [qaO,zoA];unfold zh8;rw [qbs,qbs];by_cases hj:j<h.pw.toNat
 · rw [List.getElem?_range hj];by_cases hjT:T=j
   · subst hjT;rw [if_pos rfl,if_pos hp];simp only [qbF];rw [qab (by omega),Bool.or_true]
   · rw [if_neg hjT];simp only [qbF];congr 2
     exact decide_eq_decide.2 (by omega)
 · rw [qbO (by rw [qcl];omega),if_neg (by omega)]
   rfl
theorem zud {h:Hp} {i:Nat} {l:List Int} {x:Int} {z:Nat} (hT:x-4096-(i:Int)*h.pw+z<0\/h.pw<=x-4096-(i:Int)*h.pw+z):zh8 h i l x (z+1)=zh8 h i l x z:=by
 unfold zh8;apply List.map_congr_left
 intro t ht;have:=qbv.1 ht
 congr 1
 exact decide_eq_decide.2 (by omega)
theorem zue {h:Hp} {i:Nat} {l:List Int} {x:Int} {z:Nat} (hz:zcC h x=z):zh8 h i l x z=zh7 h i (l++[x]):=by
 unfold zh8 zh7;congr 1;funext t
 unfold zvO;rw [List.any_append,List.any_cons,List.any_nil,Bool.or_false,hz]
theorem zvM (h:Hp) (x:Int):1<=zcC h x/\zcC h x<=256:=by
 unfold zcC;split
 · omega
 · by_cases e:atE h x=0
   · have:=zdW e
     rw [zbs this.2.1];omega
   · rw [zxc e];decide
theorem zub (h:Hp) (i:Nat):zh7 h i []=List.replicate h.pw.toNat false:=by
 unfold zh7 zvO;rw [List.eq_replicate_iff];refine ⟨by rw [qak,qcl],fun b hb=>?_⟩
 obtain ⟨t,-,rfl⟩:=qay.1 hb
 rfl
theorem zqn (h:Hp) (i:Int) (big:Bool) (u:Nat):∀ (f o:Nat) (l:List Int),u-o<=f->zcl h i big u o=some l->∀ x∈l,atE h x=0/\∃ o':Nat,o<=o'/\o'<u/\x=zba h.pw h.np i o'
 | 0,o,l,hf,hl,x,hx=>by
  rw [zbT (by omega)]at hl;cases hl;cases hx
 | f+1,o,l,hf,hl,x,hx=>by
  by_cases hlt:o<u
  · by_cases e:atE h (zba h.pw h.np i o)=0
    · cases big
      · rw [zdi hlt e]at hl;cases hr:zcl h i false u (o+((atH h (zba h.pw h.np i o)).n.toNat+1)) with
        | none=>rw [hr]at hl;cases hl
        | some r=>
         rw [hr]at hl;cases hl
         rcases qar.1 hx with rfl | hx
         · exact ⟨e,o,qan _,hlt,rfl⟩
         · obtain ⟨a,o',b1,b2,b3⟩:=zqn h i false u f _ r (by omega) hr x hx
           exact ⟨a,o',by omega,b2,b3⟩
      · rw [zdX hlt e]at hl;cases hl
        rw [qau.1 hx];exact ⟨e,o,qan _,hlt,rfl⟩
    · rw [zdd hlt e]at hl;cases hl
  · rw [zbT hlt]at hl;cases hl;cases hx
theorem zbV {h:Hp} {i:Int} {x:Int} (hx:x∈zaE h i):atE h x=0:=by
 unfold zaE at hx;split at hx
 · split at hx
   · cases hx
   · split at hx
     · cases hx
     · cases hw:zcK h i with
       | none=>rw [hw]at hx;cases hx
       | some l=>
        rw [hw]at hx;exact (zqn h i _ _ _ _ l (qan _) hw x hx).1
 · cases hx
theorem zoa {h:Hp} {x:Int} (e:atE h x=0):4096<=x/\x<8192:=by
 have h1:=(zdW e).1;have h5:ofE h.pw h.np x=0:=by
  by_cases h5:ofE h.pw h.np x=0
  · exact h5
  · rw [(ziO h1 h5).1]at e;cases e
 obtain ⟨-,-,t,ht,htl⟩:=zuK h1 h5;obtain ⟨k1,k2,-⟩:=zao h1;have:=(conf_prod k1).2
 omega
theorem zaF {h:Hp} {x:Int} (hx:x∈zat h):atE h x=0:=by
 unfold zat at hx;split at hx
 · split at hx
   · unfold zbE at hx;obtain ⟨j,-,hj⟩:=List.mem_flatMap.1 hx;exact zbV hj
   · cases hx
 · cases hx
theorem zcp {h:Hp} {x:Int} (hx:x∈zaf h):atE h x=0/\¬(atH h x).k=0:=by
 unfold zaf zb8 at hx;obtain ⟨h1,h2⟩:=qbK.1 hx;exact ⟨zaF h1,qas h2⟩
def zfG (h:Hp) (i:Nat):Nat->List Bool->Int
 | _,[]=>0
 | k,b::r=>if b=false/\¬zuC h i k=0 then 4096+(i:Int)*h.pw+k else zfG h i (k+1) r
def zvo (h:Hp) (i:Nat):Int:=zfG h i 0 (zh7 h i (zaE h (zaY h.pages i)))
theorem dirt_at {h:Hp} {i:Nat} {l:List Bool} {k:Nat} {b:Bool} (hb:l[k]?=some b):zfG h i k (l.drop k)=if b=false/\¬zuC h i k=0 then 4096+(i:Int)*h.pw+k else zfG h i (k+1) (l.drop (k+1)):=by
 obtain ⟨hk,rfl⟩:=qah.1 hb;rw [qaU hk,zfG]
theorem zwE {h:Hp} {i:Nat} {l:List Bool} {k:Nat} (hk:l.length<=k):zfG h i k (l.drop k)=0:=by
 rw [qbn hk];rfl
theorem zuc (h:Hp) (i:Nat) (l:List Int):(zh7 h i l).length=h.pw.toNat:=by unfold zh7;rw [qak,qcl]
structure Fd where
 fault:Int
 page:Int
 addr:Int
 deriving DecidableEq
def Fd.none:Fd:=⟨0,0,0⟩
def zv8 (h:Hp) (i:Nat):Fd :=
 if ¬(pgAt h i).kind=0/\¬(pgAt h i).space=h.space then ⟨2,i,0⟩
 else if ¬zbq h i=0 then ⟨3,i,0⟩
 else if ¬clsV h i (zaE h i)=0 then ⟨5,i,clsV h i (zaE h i)⟩
 else if ¬zvo h i=0 then ⟨4,i,zvo h i⟩ else Fd.none
theorem getH_m (h:Hp) (a:Int):0<=(getH h a).m/\(getH h a).m<4294967296:=by
 by_cases e:getE h a=0
 · rw [(znT e).2.2.1];exact atH_m h a
 · rw [zhp e];decide
theorem zrc (h:Hp) (a:Int):(ziI h a).length<=h.words.length:=by
 unfold ziI;split
 · exact zus _ _ _
 · simp
def zcb (all:List Int) (x:Hd):Nat->List Int->Option Nat
 | _,[]=>none
 | k,f::r=>if ptrB x.k x.n x.m k=true/\¬f=0/\¬f∈all then some k else zcb all x (k+1) r
theorem bad_at {all:List Int} {x:Hd} {l:List Int} {k:Nat} {f:Int} (hf:l[k]?=some f):zcb all x k (l.drop k)=if ptrB x.k x.n x.m k=true/\¬f=0/\¬f∈all then some k else zcb all x (k+1) (l.drop (k+1)):=by
 obtain ⟨hk,rfl⟩:=qah.1 hf;rw [qaU hk,zcb]
theorem bad_end {all:List Int} {x:Hd} {l:List Int} {k:Nat} (hk:l.length<=k):zcb all x k (l.drop k)=none:=by
 rw [qbn hk];rfl
def zuw (h:Hp) (a:Int):Fd:=⟨6,ofI h.pw h.np a,a⟩
def zff (h:Hp) (all:List Int):List Int->Fd
 | []=>Fd.none
 | x::r=>match zcb all (getH h x) 0 (ziI h x) with | some k=>zuw h (x+1+k) | none=>zff h all r
def zfh (h:Hp):Fd:=zff h (zaf h) (zaf h)
theorem ptrs_at {h:Hp} {all l:List Int} {k:Nat} {x:Int} (hx:l[k]?=some x):zff h all (l.drop k)=match zcb all (getH h x) 0 (ziI h x) with | some k=>zuw h (x+1+k) | none=>zff h all (l.drop (k+1)):=by
 obtain ⟨hk,rfl⟩:=qah.1 hx;rw [qaU hk,zff]
theorem zv3 {h:Hp} {all l:List Int} {k:Nat} (hk:l.length<=k):zff h all (l.drop k)=Fd.none:=by
 rw [qbn hk];rfl
def zcf (h:Hp):Nat->Nat->Fd
 | _,0=>Fd.none
 | i,n+1=>if ¬(zv8 h i).fault=0 then zv8 h i else zcf h (i+1) n
def zaP:List Pg->Nat
 | []=>0
 | x::r=>(if x.kind=1/\0<x.pins then 1 else 0)+zaP r
theorem zhA:∀ a b:List Pg,zaP (a++b)=zaP a+zaP b
 | [],b=>by simp [zaP]
 | x::r,b=>by rw [qaJ,zaP,zaP,zhA r b];omega
theorem zlp {ps:List Pg} {k:Nat} {x:Pg} (h:ps[k]?=some x):zaP (ps.take (k+1))=zaP (ps.take k)+if x.kind=1/\0<x.pins then 1 else 0:=by
 rw [zbt h,zhA];simp [zaP]
theorem zpL:∀ ps:List Pg,zaP ps<=ps.length
 | []=>qan _
 | x::r=>by have:=zpL r;unfold zaP;rw [qaP];split <;> omega
def zls (h:Hp):Fd :=
 if okH h then
  (if ¬(zcf h 0 h.pages.length).fault=0 then zcf h 0 h.pages.length
   else if ¬(zfh h).fault=0 then zfh h
   else if h.np / 4<zaP h.pages then ⟨7,0,0⟩ else Fd.none)
 else ⟨1,0,0⟩
def zva (h:Hp):Bool:=decide ((zls h).fault=0)
theorem ztv {h:Hp} (e:(zls h).fault=0):zls h=Fd.none:=by
 unfold zls at e ⊢
 split at e
 · rename_i h1;rw [if_pos h1];split at e
   · contradiction
   · rename_i h2;rw [if_neg h2];split at e
     · contradiction
     · rename_i h3;rw [if_neg h3];split at e
       · cases e
       · rename_i h4;rw [if_neg h4]
 · cases e
def zig (h:Hp) (l:List Int):Bool:=zva h&&l.all fun x=>decide (x=0\/x∈zaf h)
theorem all_at {P:Int->Bool} {l:List Int} {k:Nat} {x:Int} (hx:l[k]?=some x):(l.drop k).all P=(P x&&(l.drop (k+1)).all P):=by
 obtain ⟨hk,rfl⟩:=qah.1 hx;rw [qaU hk,List.all_cons]
def ziP (pw np k n m:Int):Bool:=zaC k n m&&decide (¬k=0)&&decide (¬zax pw np (zaU k n m) = -1)
theorem zoF (ps:List Pg):∀ (k:Nat) (r:Int×Int),r∈zct ps k->∀ t:Nat,r.1<=t->(t:Int)<r.1+r.2->∃ x,ps[t]?=some x/\x.kind=0
 | 0,r,h=>by simp [zct]at h
 | k+1,r,h=>by
  have ih:=zoF ps k;cases hx:ps[k]? with
  | none=>rw [zct,hx]at h;exact ih r h
  | some x=>
   rw [zeD hx]at h;by_cases h0:x.kind=0
   · rcases zif (zct ps k) with e | ⟨pre,q,e⟩
     · rw [e,zeE h0]at h;simp at h;subst h
       intro t h1 h2;obtain rfl:t=k:=by simp only at h1 h2;omega
       exact ⟨x,hx,h0⟩
     · by_cases he:q.1+q.2=k
       · rw [e,zd0 h0 he]at h;rcases qao.1 h with h | h
         · exact ih r (by rw [e];exact qa3 _ h)
         · simp at h;subst h
           intro t h1 h2;by_cases ht:t=k
           · subst ht;exact ⟨x,hx,h0⟩
           · exact ih q (by rw [e];simp) t h1 (by simp only at h2;omega)
       · rw [e,zeF h0 he]at h;rcases qao.1 h with h | h
         · exact ih r (by rw [e];exact h)
         · simp at h;subst h
           intro t h1 h2;obtain rfl:t=k:=by simp only at h1 h2;omega
           exact ⟨x,hx,h0⟩
   · rw [zfU h0]at h;exact ih r h
theorem zht {k:Int}:∀ l:List (Int×Int),zbu k l = -1\/∃ r∈l,zbu k l=r.1/\1<=k/\k<=r.2
 | []=>Or.inl rfl
 | r::t=>by
  unfold zbu;split
  · rename_i h;exact Or.inr ⟨r,by simp,rfl,h⟩
  · rcases zht t with h | ⟨q,hq,h⟩
    · exact Or.inl h
    · exact Or.inr ⟨q,by simp [hq],h⟩
theorem zc6 {ps:List Pg} {k:Int} (h:0<=zaB ps k):1<=k/\zaB ps k+k<=ps.length/\∀ t:Nat,zaB ps k<=t->(t:Int)<zaB ps k+k->∃ x,ps[t]?=some x/\x.kind=0:=by
 rw [zld]at h ⊢
 rcases zht (k:=k) (zqu ps) with e | ⟨r,hr,e,h1,h2⟩
 · omega
 · rw [e];have hb:=zqt ps ps.length r hr;exact ⟨h1,by omega,fun t a b=>zoF ps ps.length r hr t a (by omega)⟩
def zjr (h:Hp):Pg:=h.pages.getD h.bump.toNat Pg.zero
def newB (h:Hp) (n:Int):Bool:=decide (h.bump<0\/¬(zjr h).space=h.space\/h.pw<(zjr h).used+n\/zgh h.pw h.np<zbS h.pages)
def zdF (h:Hp):Bool:=decide (zaB h.pages 1<0\/zgh h.pw h.np<=zbS h.pages)
def zb3 (h:Hp) (n:Int):Bool:=!(newB h n&&zdF h)
def ze2 (h:Hp) (n:Int):Int:=if newB h n then zaB h.pages 1 else h.bump
def zbJ (h:Hp) (n:Int):List Pg:=if newB h n then zcJ h.pages (zaB h.pages 1) h.space else h.pages
def zf2 (ps:List Pg) (j:Nat) (n:Int):List Pg:=ps.set j ⟨(ps.getD j Pg.zero).kind,(ps.getD j Pg.zero).space,(ps.getD j Pg.zero).used+n,(ps.getD j Pg.zero).pins⟩
def zjg (h:Hp) (n:Int):Hp:={ h with pages:=zf2 (zbJ h n) (ze2 h n).toNat n,bump:=ze2 h n }
def zgZ (h:Hp) (n:Int):Int:=4096+ze2 h n*h.pw+((zbJ h n).getD (ze2 h n).toNat Pg.zero).used
def zeO (h:Hp) (k:Int):Bool:=decide (¬(zaB h.pages k<0\/zgh h.pw h.np<zbS h.pages+k))
def zk3 (h:Hp) (n k:Int):Hp:={ h with pages:=zec h.pw h.np h.pages (zaB h.pages k) h.space n }
def zjl (h:Hp) (k:Int):Int:=4096+zaB h.pages k*h.pw
theorem zu2 {pw np:Int} {ps:List Pg} {i sp n:Int} (h:1<=zax pw np n/\0<=sp/\sp<=1):zec pw np ps i sp n=zgs ps i (zax pw np n) ⟨2,sp,n,0⟩ ⟨3,sp,0,0⟩/\zgG pw np ps i sp n=zjA ps i (zax pw np n):=by
 unfold zec zgG;rw [if_pos h,if_pos h];exact ⟨rfl,rfl⟩
theorem small_spec {h:Hp} {n:Int} (h1:okH h=true) (hok:zb3 h n=true) :
 ∃ j:Nat,∃ x:Pg,ze2 h n=j/\j<h.pages.length/\(zbJ h n).length=h.pages.length/\(zbJ h n)[j]?=some x/\x.kind=1/\0<=x.used/\x.used<=h.pw/\x.space=h.space /\
  ((newB h n=true/\zbJ h n=h.pages.set j ⟨1,h.space,0,0⟩/\x=⟨1,h.space,0,0⟩/\zid h.pages (zaB h.pages 1) h.space=0/\∃ y,h.pages[j]?=some y/\y.kind=0)\/(newB h n=false/\zbJ h n=h.pages/\x.used+n<=h.pw)):=by
 obtain ⟨g1,g2,g3,g4,g5,g6,g7⟩:=zao h1;obtain ⟨k1,k2,-,k4,k5⟩:=zal g1;unfold zb3 at hok;cases hn:newB h n
 · have hd:=qa7 hn;have hb0:0<=h.bump:=by omega
   have hbb:=qas g6;have hbs:h.bump<h.pages.length/\(h.pages.getD h.bump.toNat Pg.zero).kind=1:=by
    rcases hbb with h | h
    · omega
    · exact ⟨h.2.1,h.2.2⟩
   have hx:h.pages[h.bump.toNat]?=some (h.pages[h.bump.toNat]'(by omega)):=qal _
   have hgd:=zaq hx;have hmem:=zaM _ _ _ _ g7 _ (qaw hx);rw [hgd]at hbs;have hbp:zjr h=h.pages[h.bump.toNat]'(by omega):=hgd
   rw [hbp]at hd;refine ⟨h.bump.toNat,h.pages[h.bump.toNat]'(by omega),by unfold ze2;rw [hn];simp;omega,by omega,by unfold zbJ;rw [hn];rfl,by unfold zbJ;rw [hn];exact hx,hbs.2,(hmem.2.2.2.2.2.1 hbs.2).1,(hmem.2.2.2.2.2.1 hbs.2).2,?_,Or.inr ⟨rfl,by unfold zbJ;rw [hn];rfl,by omega⟩⟩
   have:¬¬(h.pages[h.bump.toNat]'(by omega)).space=h.space:=fun c=>hd (Or.inr (Or.inl c))
   exact Classical.not_not.1 this
 · rw [hn,qaR]at hok;have hf:zdF h=false:=by simpa using hok
   have hd:=qa7 hf;have hF:0<=zaB h.pages 1:=by omega
   obtain ⟨-,f1,f2⟩:=zc6 hF;obtain ⟨y,hy,hy0⟩:=f2 (zaB h.pages 1).toNat (by omega) (by omega)
   have hlt:(zaB h.pages 1).toNat<h.pages.length:=(qah.1 hy).1;have hfree:zcr h.pages (zaB h.pages 1).toNat 1=true:=by
    have:=zb4 (ps:=h.pages) (i:=(zaB h.pages 1).toNat) (k:=0) (x:=y) (by rw [qbd];exact hy)
    rw [zcz,hy0]at this;simpa using this
   obtain ⟨t1,t2⟩:=zia (x:=⟨1,h.space,0,0⟩) (y:=Pg.zero) hlt (show (zaB h.pages 1).toNat+1<=h.pages.length by omega) hfree
   have eF:(((zaB h.pages 1).toNat:Nat):Int)=zaB h.pages 1:=by omega
   rw [eF]at t1 t2;have hps:zbJ h n=h.pages.set (zaB h.pages 1).toNat ⟨1,h.space,0,0⟩:=by
    unfold zbJ zcJ;rw [hn,if_pos rfl,if_pos ⟨g4,g5⟩];rw [show ((1:Nat):Int)=1 from rfl]at t1
    rw [t1];apply qbj
    intro i;have hl:(put h.pages (zaB h.pages 1).toNat 1 Pg.zero).length=h.pages.length:=zd8 (by omega)
    rw [qaO,qaO,hl];split
    · rfl
    · rw [zdo (by omega) (by omega)]
   have hpe:zid h.pages (zaB h.pages 1) h.space=0:=by
    unfold zid;rw [if_pos ⟨g4,g5⟩];exact t2
   refine ⟨(zaB h.pages 1).toNat,⟨1,h.space,0,0⟩,by unfold ze2;rw [hn];exact eF.symm,hlt,by rw [hps,List.length_set],by rw [hps,qaO];simp [hlt],rfl,by simp,by simp only;omega,rfl,Or.inl ⟨rfl,hps,rfl,hpe,y,hy,hy0⟩⟩
theorem zti {h:Hp} {n k:Int} (h1:okH h=true) (hk:zax h.pw h.np n=k) (hok:zeO h k=true) :
 ∃ j kk:Nat,zaB h.pages k=j/\k=kk/\1<=kk/\j+kk<=h.pages.length/\zcr h.pages j kk=true/\(∀ t:Nat,j<=t->t<j+kk->∃ x,h.pages[t]?=some x/\x.kind=0) /\
  zec h.pw h.np h.pages (zaB h.pages k) h.space n=(put h.pages j kk ⟨3,h.space,0,0⟩).set j ⟨2,h.space,n,0⟩/\zgG h.pw h.np h.pages (zaB h.pages k) h.space n=0:=by
 obtain ⟨g1,g2,g3,g4,g5,g6,g7⟩:=zao h1;have hd:=qas hok;have hF:0<=zaB h.pages k:=by omega
 obtain ⟨f0,f1,f2⟩:=zc6 hF;obtain ⟨j,hj⟩:=qaT hF;obtain ⟨kk,hkk⟩:=qaT (show 0<=k by omega)
 have hfr:∀ t:Nat,j<=t->t<j+kk->∃ x,h.pages[t]?=some x/\x.kind=0:=fun t a b=>f2 t (by omega) (by omega)
 have hfree:∀ z:Nat,z<=kk->zcr h.pages j z=true:=by
  intro z;induction z with
  | zero=>intro _;exact zcz _ _
  | succ z ih=>
   intro hz;obtain ⟨x,hx,hx0⟩:=hfr (j+z) (by omega) (by omega)
   rw [zb4 hx,ih (by omega),hx0];rfl
 obtain ⟨t1,t2⟩:=zia (x:=⟨2,h.space,n,0⟩) (y:=⟨3,h.space,0,0⟩) (show j<h.pages.length by omega) (show j+kk<=h.pages.length by omega) (hfree kk (qan _))
 refine ⟨j,kk,hj,hkk,by omega,by omega,hfree kk (qan _),hfr,?_,?_⟩
 · unfold zec;rw [hk,if_pos ⟨by omega,g4,g5⟩,hj,hkk];exact t1
 · unfold zgG;rw [hk,if_pos ⟨by omega,g4,g5⟩,hj,hkk];exact t2
theorem zfu (pw np n:Int):zax pw np n<=4:=by
 unfold zax zeL;repeat' split
 all_goals omega
theorem znN (pw np n:Int) : -1<=zax pw np n:=by
 unfold zax zeL;repeat' split
 all_goals omega
def zgg (h:Hp) (k n m:Int):Bool:=okH h&&ziP h.pw h.np k n m
def zsf (h:Hp) (k n m:Int):Bool:=decide (0<zax h.pw h.np (zaU k n m))
def zkY (h:Hp) (k n m:Int):Bool:=if zsf h k n m then zeO h (zax h.pw h.np (zaU k n m)) else zb3 h (zaU k n m)
def zkZ (h:Hp) (k n m:Int):Hp:=if zsf h k n m then zk3 h (zaU k n m) (zax h.pw h.np (zaU k n m)) else zjg h (zaU k n m)
def znL (h:Hp) (k n m:Int):Int:=if zsf h k n m then zjl h (zax h.pw h.np (zaU k n m)) else zgZ h (zaU k n m)
def zcA (h:Hp) (k n m:Int):Int:=if zgg h k n m then (if zkY h k n m then 0 else 3) else 1
def zdv (h:Hp) (k n m:Int):Hp:=if zcA h k n m=0 then zjK (zkZ h k n m) (znL h k n m) k n m else Hp.zero
def zfH (h:Hp) (k n m:Int):Int:=if zcA h k n m=0 then znL h k n m else 0
structure Wk where
 h:Hp
 old:List Int
 taken:List Int
 queue:List Int
 sc:Int
 r0:Int
 r1:Int
 r2:Int
 r3:Int
 r4:Int
 r5:Int
def Wk.zero:Wk:=⟨Hp.zero,[],[],[],0,0,0,0,0,0,0⟩
def zd9 (x:Wk) (i:Int):Bool:=match x.h.pages[i.toNat]? with
 | some g=>decide (0<=i)&&(decide (g.kind=1) && !decide (g.space=x.h.space) && !decide (i∈x.taken))
 | none=>false
def zdM (x:Wk) (a:Int):Wk:={ x with queue:=x.queue++[a],r1:=wrap64 (x.r1+1) }
theorem znh {ps:List Pg} {sp:Int} (h0:0<=sp) (h1:sp<=1) (hF:0<=zaB ps 1) :
 (zaB ps 1).toNat<ps.length/\zcJ ps (zaB ps 1) sp=ps.set (zaB ps 1).toNat ⟨1,sp,0,0⟩/\∃ y,ps[(zaB ps 1).toNat]?=some y/\y.kind=0:=by
 obtain ⟨-,f1,f2⟩:=zc6 hF;obtain ⟨y,hy,hy0⟩:=f2 (zaB ps 1).toNat (by omega) (by omega)
 have hlt:(zaB ps 1).toNat<ps.length:=(qah.1 hy).1;have hfree:zcr ps (zaB ps 1).toNat 1=true:=by
  have:=zb4 (ps:=ps) (i:=(zaB ps 1).toNat) (k:=0) (x:=y) (by rw [qbd];exact hy)
  rw [zcz,hy0]at this;simpa using this
 obtain ⟨t1,t2⟩:=zia (x:=⟨1,sp,0,0⟩) (y:=Pg.zero) hlt (show (zaB ps 1).toNat+1<=ps.length by omega) hfree
 have eF:(((zaB ps 1).toNat:Nat):Int)=zaB ps 1:=by omega
 rw [eF]at t1 t2;refine ⟨hlt,?_,y,hy,hy0⟩;unfold zcJ;rw [if_pos ⟨h0,h1⟩];rw [show ((1:Nat):Int)=1 from rfl]at t1
 rw [t1];apply qbj
 intro i;have hl:(put ps (zaB ps 1).toNat 1 Pg.zero).length=ps.length:=zd8 (by omega)
 rw [qaO,qaO,hl];split
 · rfl
 · rw [zdo (by omega) (by omega)]
def zdH (x:Wk) (n:Int):Bool:=match x.taken.getLast? with | some l=>decide ((x.h.pages.getD l.toNat Pg.zero).used+n<=x.h.pw) | none=>false
def plJ (x:Wk) (n:Int):Int:=if zdH x n then x.taken.getLast?.getD (-1) else zaB x.h.pages 1
def plB (x:Wk) (n:Int):Bool:=zdH x n || decide (0<=zaB x.h.pages 1)
def plPs (x:Wk) (n:Int):List Pg:=if zdH x n then x.h.pages else zcJ x.h.pages (zaB x.h.pages 1) (1-x.h.space)
def plT (x:Wk) (n:Int):List Int:=if zdH x n then x.taken else x.taken++[zaB x.h.pages 1]
def plW (x:Wk) (n:Int):Wk:={ x with h:={ x.h with pages:=zf2 (plPs x n) (plJ x n).toNat n },taken:=plT x n }
def plA (x:Wk) (n:Int):Int:=4096+plJ x n*x.h.pw+((plPs x n).getD (plJ x n).toNat Pg.zero).used
structure PlOK (x:Wk):Prop where
 pw0:16<=x.h.pw
 pw1:x.h.pw<=64
 np0:1<=x.h.pages.length
 np1:x.h.pages.length<=64
 sp0:0<=x.h.space
 sp1:x.h.space<=1
 tk:x.taken.length<=1000
 last:∀ l,x.taken.getLast?=some l->∃ k:Nat,l=k/\∃ g,x.h.pages[k]?=some g/\0<=g.used/\g.used<=x.h.pw
theorem zfV {x:Wk} {n:Int} (hx:PlOK x) (hb:plB x n=true) :
 ∃ j:Nat,∃ y:Pg,plJ x n=j/\j<x.h.pages.length/\(plPs x n).length=x.h.pages.length/\(plPs x n)[j]?=some y/\0<=y.used/\y.used<=x.h.pw /\
  ((zdH x n=true/\plPs x n=x.h.pages/\x.taken.getLast?=some (j:Int)/\y.used+n<=x.h.pw)\/(zdH x n=false/\zaB x.h.pages 1=j/\plPs x n=x.h.pages.set j ⟨1,1-x.h.space,0,0⟩/\y=⟨1,1-x.h.space,0,0⟩/\∃ z,x.h.pages[j]?=some z/\z.kind=0)):=by
 cases hr:zdH x n
 · unfold plB at hb;rw [hr,Bool.false_or]at hb;have hF:=qas hb;have s0:=hx.sp0;have s1:=hx.sp1;have p0:=hx.pw0;obtain ⟨f1,f2,z,f3,f4⟩:=znh (ps:=x.h.pages) (sp:=1-x.h.space) (by omega) (by omega) hF
   have e1:plPs x n=x.h.pages.set (zaB x.h.pages 1).toNat ⟨1,1-x.h.space,0,0⟩:=by unfold plPs;rw [hr];exact f2
   refine ⟨(zaB x.h.pages 1).toNat,⟨1,1-x.h.space,0,0⟩,by unfold plJ;rw [hr];simp;omega,f1,by rw [e1,List.length_set],by rw [e1,qaO,if_pos rfl,if_pos f1],by simp,by simp only;omega,Or.inr ⟨rfl,by omega,e1,rfl,z,f3,f4⟩⟩
 · have h1:=hr;unfold zdH at h1;cases hl:x.taken.getLast? with
   | none=>rw [hl]at h1;cases h1
   | some l=>
    rw [hl]at h1;obtain ⟨k,rfl,g,g1,g2,g3⟩:=hx.last l hl;have hk:=(qah.1 g1).1;have h2:=qas h1;rw [qad,zaq g1]at h2;have e1:plPs x n=x.h.pages:=by unfold plPs;rw [hr];rfl
    exact ⟨k,g,by unfold plJ;rw [hr,hl];rfl,hk,by rw [e1],by rw [e1];exact g1,g2,g3,Or.inl ⟨rfl,e1,rfl,h2⟩⟩
def evWd (x:Wk) (a:Int):Int:=zap x.h.words a
def evI (x:Wk) (a:Int):Int:=ofI x.h.pw x.h.np a
def evN (x:Wk) (a:Int):Int:=zaU (decK (evWd x a).toNat) (decN (evWd x a).toNat) (decM (evWd x a).toNat)
def zhx (x:Wk) (a:Int):Bool:=decide ((x.h.pages.getD (evI x a).toNat Pg.zero).kind=2)
def spc (ps:List Pg) (i k:Nat) (sp:Int):List Pg:=ps.mapIdx fun j y=>if i<=j/\j<k then ⟨y.kind,sp,y.used,y.pins⟩ else y
def zco (ps:List Pg) (i:Nat):Nat:=i+1+((ps.drop (i+1)).takeWhile fun y=>decide (y.kind=3)).length
def zcy (x:Wk) (i:Nat):Wk:={ x with h:={ x.h with pages:=spc x.h.pages i (zco x.h.pages i) (1-x.h.space) } }
def zlq (x:Wk) (a:Int):List Int:=zay (zeM x.h.words (plA x (evN x a)) a (evN x a)) a [fwdV (plA x (evN x a))]
def zbA (x:Wk) (a:Int):Wk:={ plW x (evN x a) with h:={ (plW x (evN x a)).h with words:=zlq x a },queue:=x.queue++[plA x (evN x a)],r0:=wrap64 (x.r0+1) }
def evC (x:Wk) (a:Int):Nat :=
 if a=0\/a∈x.queue then 0 else if ¬a∈x.old then 1 else if okT (evWd x a).toNat then 2
 else if ¬ofE x.h.pw x.h.np a=0\/(x.h.pages.length:Int)<=evI x a then 3
 else if zd9 x (evI x a) then 4 else if zhx x a then 5 else if plB x (evN x a) then 7 else 6
def evE (x:Wk) (a:Int):Int:=match evC x a with | 1=>19 | 3=>19 | 6=>3 | _=>0
def evA (x:Wk) (a:Int):Int:=match evC x a with | 0=>a | 2=>tgtV (evWd x a).toNat | 4=>a | 5=>a | 7=>plA x (evN x a) | _=>0
def evW (x:Wk) (a:Int):Wk:=match evC x a with | 0=>x | 2=>x | 4=>zdM x a | 5=>zdM (zcy x (evI x a).toNat) a | 7=>zbA x a | _=>Wk.zero
theorem zfx {xs:List Int} (h:WB xs) (a:Int):∃ k:Nat,zap xs a=k/\k<18446744073709551616:=by
 have hx:0<=zap xs a/\zap xs a<18446744073709551616:=by
  unfold zap;split
  · rw [qaA];cases hg:xs[(a-4096).toNat]? with
    | none=>simp
    | some v=>simpa using h v (qaw hg)
  · simp
 exact ⟨(zap xs a).toNat,by omega,by omega⟩
theorem zvp (x:Nat):0<=decM x/\decM x<4294967296:=by
 unfold decM;split
 · unfold dM;have:x / 65536 % 4294967296<4294967296:=Nat.mod_lt _ (by omega);omega
 · omega
theorem evN_bd (x:Wk) (a:Int):0<=evN x a/\evN x a<=1000:=by
 unfold evN zaU;split
 · rename_i h;unfold zaC at h;have:=qas h
   omega
 · omega
theorem zuy {x:Wk} {n:Int} (hx:PlOK x) (hb:plB x n=true):0<=plA x n/\plA x n<18446744073709551616:=by
 obtain ⟨j,y,s1,s2,s3,s4,s5,s6,-⟩:=zfV hx hb;have k1:=hx.pw0;have k2:=hx.pw1;have k3:=hx.np1;have hJ0:0<=(j:Int)*x.h.pw:=qbb (by omega) (by omega)
 have hJ1:(j:Int)*x.h.pw<=64*64:=qcm (by omega) k2 (by omega) (by omega)
 unfold plA;rw [s1,qad,zaq s4];omega
theorem zsh (xs:List Int) (t f n:Int):(zeM xs t f n).length<=xs.length:=by
 unfold zeM;split
 · simp
 · split
   · rename_i h0 h;have h1:=qas h.1;rw [zcZ (by rw [qax,qaL];omega)]
     exact qan _
   · simp
theorem wb_move {xs:List Int} (h:WB xs) (t f n:Int):WB (zeM xs t f n):=by
 unfold zeM;split
 · exact WB.nil
 · split
   · exact zow h (fun v hv=>h v (qb8 (qb2 hv)))
   · exact WB.nil
theorem zxb {x:Wk} {a:Int} (hx:PlOK x) (hb:plB x (evN x a)=true) (h:WB x.h.words):WB (zbA x a).h.words:=by
 show WB (zay (zeM x.h.words _ a _) a [fwdV _])
 refine zdw (wb_move h _ _ _) (fun v hv=>?_)
 simp only [qau]at hv;subst hv;have:=zuy hx hb
 unfold fwdV;split <;> omega
theorem zgX {α:Type} {p:α->Bool}:∀ (L:List α) (n:Nat),n<=L.length->(∀ j y,j<n->L[j]?=some y->p y=true)->(∀ y,L[n]?=some y->p y=false)->(L.takeWhile p).length=n
 | [],n,hn,_,_=>by simp at hn;subst hn;rfl
 | y::r,0,_,_,h=>by rw [qcs,h y rfl];rfl
 | y::r,n+1,hn,ha,h=>by
  rw [qcs,ha 0 y (by omega) rfl]
  simp only [if_true,qaP];rw [zgX r n (by simpa using hn) (fun j z hj hz=>ha (j+1) z (by omega) (by simpa using hz)) (fun z hz=>h z (by simpa using hz))]
theorem zsP {ps:List Pg} {i k:Nat} (h1:i+1<=k) (h2:k<=ps.length) (h3:∀ l y,i<l->l<k->ps[l]?=some y->y.kind=3) (h4:∀ y,ps[k]?=some y->¬y.kind=3):zco ps i=k:=by
 unfold zco;rw [zgX (ps.drop (i+1)) (k-(i+1)) (by rw [qaL];omega) (fun j y hj hy=>qab (h3 (i+1+j) y (by omega) (by omega) (by rw [qa6]at hy;exact hy))) (fun y hy=>qaj (h4 y (by rw [qa6]at hy;rw [show i+1+(k-(i+1))=k by omega]at hy;exact hy)))]
 omega
theorem zum (ps:List Pg) (i k:Nat) (sp:Int):(spc ps i k sp).length=ps.length:=by unfold spc;simp
theorem zic {ps:List Pg} {i k j:Nat} {sp:Int} {y:Pg} (h:ps[j]?=some y):(spc ps i k sp)[j]?=some (if i<=j/\j<k then ⟨y.kind,sp,y.used,y.pins⟩ else y):=by
 unfold spc;rw [qcw,h];rfl
theorem zng {ps:List Pg} {i k j:Nat} {sp:Int} (h:ps[j]?=none):(spc ps i k sp)[j]?=none:=by
 unfold spc;rw [qcw,h];rfl
theorem zr3 {ps:List Pg} {i k:Nat} {sp:Int} {y:Pg} (hi:i<=k) (h:ps[k]?=some y):(spc ps i k sp).set k ⟨y.kind,sp,y.used,y.pins⟩=spc ps i (k+1) sp:=by
 apply qbj
 intro j;rw [qaO,zum];have hk:=(qah.1 h).1;by_cases e:k=j
 · subst e;rw [if_pos rfl,if_pos hk,zic h,if_pos ⟨hi,by omega⟩]
 · rw [if_neg e];cases hj:ps[j]? with
   | none=>rw [zng hj,zng hj]
   | some z=>
    rw [zic hj,zic hj];by_cases c:i<=j/\j<k
    · rw [if_pos c,if_pos ⟨c.1,by omega⟩]
    · rw [if_neg c,if_neg (by omega)]
theorem zul {ps:List Pg} {i:Nat} {sp:Int}:spc ps i i sp=ps:=by
 apply qbj
 intro j;cases hj:ps[j]? with
 | none=>rw [zng hj]
 | some z=>rw [zic hj,if_neg (by omega)]
theorem zs7 {pw np a:Int} (h:ofE pw np a=0):0<=ofI pw np a:=by
 cases hv:confB pw np with
 | false=>have:=(zwj (a:=a) hv).2.2;omega
 | true=>
  cases hi:inAr pw np a with
  | false=>have:=(ze4 hv hi).2.2;omega
  | true=>
   obtain ⟨h1,-,-⟩:=zis hv hi;have h2:=zal hv;unfold inAr at hi;have h3:=qas hi;rw [h1];exact qbU (by omega) (by omega)
def evH (x:Wk) (a:Int):Hd:=⟨decK (evWd x a).toNat,decN (evWd x a).toNat,decM (evWd x a).toNat⟩
structure FwOK (x:Wk):Prop where
 pl:PlOK x
 wl:x.h.words.length<=100000
 ql:x.queue.length<=1000000
def zcs (x:Wk) (A:Int):Wk:={ evW x (zap x.h.words A) with h:={ (evW x (zap x.h.words A)).h with words:=zay (evW x (zap x.h.words A)).h.words A [evA x (zap x.h.words A)] } }
def stGo:Wk->Int->List Int->Wk×Int
 | x,_,[]=>(x,0)
 | x,A,i::r=>if evE x (zap x.h.words (A+1+i))=0 then stGo (zcs x (A+1+i)) A r else (Wk.zero,evE x (zap x.h.words (A+1+i)))
def StOK:Wk->Int->List Int->Prop
 | _,_,[]=>True
 | x,A,i::r=>FwOK x/\(evE x (zap x.h.words (A+1+i))=0->StOK (zcs x (A+1+i)) A r)
def stL (x:Wk) (A:Int):List Int:=zem (evH x A).k (evH x A).n (evH x A).m
def stW (x:Wk) (A:Int):Wk:={ (stGo x A (stL x A)).1 with sc:=wrap64 ((stGo x A (stL x A)).1.sc+1),r5:=wrap64 (wrap64 ((stGo x A (stL x A)).1.r5+1)+(stL x A).length) }
def stE (x:Wk) (A:Int):Int:=(stGo x A (stL x A)).2
theorem stL_bd {x:Wk} {A i:Int} (h:i∈stL x A):0<=i/\i<=1000:=by
 unfold stL zem at h;split at h
 · rename_i hv;unfold zdm at h;have h1:=(qbK.1 h).1;obtain ⟨j,hj,rfl⟩:=qay.1 h1;have h2:=qbv.1 hj;unfold zaC at hv;have h3:=qas hv;have h4:Int.ofNat j=(j:Int):=rfl
   omega
 · cases h
theorem evA_bd {x:Wk} {a:Int} (hx:PlOK x) (h0:0<=a) (h1:a<18446744073709551616):0<=evA x a/\evA x a<18446744073709551616:=by
 unfold evA;split
 · exact ⟨h0,h1⟩
 · unfold tgtV;split
   · rename_i h;unfold okT at h;rw [qae]at h;have h2:=qas h.2;omega
   · omega
 · exact ⟨h0,h1⟩
 · exact ⟨h0,h1⟩
 · rename_i h;refine zuy hx ?_;unfold evC at h;split at h
   · omega
   split at h
   · omega
   split at h
   · omega
   split at h
   · omega
   split at h
   · omega
   split at h
   · omega
   split at h
   · assumption
   · omega
 · omega
theorem wb_next {x:Wk} {A:Int} (hx:PlOK x) (hw:WB x.h.words) (hy:WB (evW x (zap x.h.words A)).h.words):WB (zcs x A).h.words:=by
 obtain ⟨k,h1,h2⟩:=zfx hw A;refine zdw hy (fun v hv=>?_)
 simp only [qau]at hv;subst hv;exact evA_bd hx (by omega) (by omega)
theorem evW_wl {x:Wk} {n:Nat} (h:x.h.words.length<=n) (a:Int):(evW x a).h.words.length<=n:=by
 unfold evW;split
 · exact h
 · exact h
 · exact h
 · exact h
 · show (zay (zeM x.h.words _ a _) a [_]).length<=n
   unfold zay;split
   · rename_i hk;have h1:=qas hk;rw [zcZ (by omega)]
     exact qaF (zsh _ _ _ _) h
   · simp
 · exact qa8 _
def allV:Nat->Wk->Wk×Int
 | 0,x=>(x,0)
 | f+1,x=>match x.queue[x.sc.toNat]? with
  | none=>(x,0)
  | some A=>if stE x A=0 then allV f (stW x A) else (Wk.zero,stE x A)
def zvH:Nat->Wk->Prop
 | 0,_=>False
 | f+1,x=>∃ k:Nat,x.sc=k/\k<=1000000/\(x.queue[k]?=none\/∃ A,x.queue[k]?=some A/\0<=A/\A<=1000000/\x.h.words.length<=100000/\StOK x A (stL x A)/\(stE x A=0->(stW x A).sc=((k+1:Nat):Int)/\zvH f (stW x A)))
theorem zoc {f:Nat} {x:Wk} {k:Nat} (hk:x.sc=k) (h:x.queue[k]?=none):allV (f+1) x=(x,0):=by
 unfold allV;rw [hk,qad,h]
theorem zrm {f:Nat} {x:Wk} {k:Nat} {A:Int} (hk:x.sc=k) (h:x.queue[k]?=some A):allV (f+1) x=if stE x A=0 then allV f (stW x A) else (Wk.zero,stE x A):=by
 rw [allV,hk,qad,h]
def zbF (sp:Int) (l:List Pg):Bool:=l.all fun t=>decide (t.kind=3/\t.space=sp)
def zfb (pw np:Int) (ps:List Pg):Nat->Int
 | 0=>0
 | i+1=>if (ps.getD i Pg.zero).kind=2 then max 0 (zax pw np (ps.getD i Pg.zero).used-1) else max 0 (zfb pw np ps i-1)
theorem zj1 (sp:Int):∀ (l:List Pg) (m:Nat),m<=zgt sp l↔(m<=l.length/\zbF sp (l.take m)=true)
 | [],m=>by
  rw [zgt];constructor
  · intro h;obtain rfl:m=0:=by omega
    exact ⟨qan _,rfl⟩
  · rintro ⟨h,-⟩;exact h
 | x::r,0=>by simp [zbF]
 | x::r,m+1=>by
  rw [zgt,qcn,qaP];have ih:=zj1 sp r m;have e:zbF sp (x::r.take m)=(decide (x.kind=3/\x.space=sp)&&zbF sp (r.take m)):=rfl
  rw [e,qae,qaa];by_cases h:x.kind=3/\x.space=sp
  · rw [if_pos h];constructor
    · intro a;obtain ⟨a1,a2⟩:=ih.1 (by omega)
      exact ⟨by omega,h,a2⟩
    · rintro ⟨a1,-,a2⟩;have:=ih.2 ⟨by omega,a2⟩
      omega
  · rw [if_neg h];constructor
    · intro a;omega
    · rintro ⟨-,a,-⟩;exact absurd a h
theorem zsA {pw np:Int} {ps:List Pg} {i:Nat} {x:Pg} (hx:ps[i]?=some x) {r:List Pg} {d:Int} (h:zcc pw np x r (zfb pw np ps i)=some d):d=zfb pw np ps (i+1):=by
 rw [zfb,zaq hx];unfold zcc at h;split at h
 · cases h
 · split at h
   · rename_i k0;rw [if_neg (by omega)]
     split at h
     · exact (Option.some.inj h).symm
     · cases h
   · split at h
     · rename_i k1;rw [if_neg (by omega)]
       split at h
       · cases h
       · exact (Option.some.inj h).symm
     · split at h
       · rename_i k2;rw [if_pos k2];split at h
         · cases h
         · exact (Option.some.inj h).symm
       · rename_i k2;rw [if_neg k2];split at h
         · split at h
           · exact (Option.some.inj h).symm
           · cases h
         · cases h
theorem zkC {pw np:Int} {ps:List Pg} (h:zaK pw np ps 0=true):∀ i,i<=ps.length->zaK pw np (ps.drop i) (zfb pw np ps i)=true
 | 0,_=>by rw [qca];exact h
 | i+1,hi=>by
  have ih:=zkC h i (by omega)
  have hx:ps[i]?=some (ps[i]'(by omega)):=qal _
  rw [qaU (by omega),zaK]at ih
  cases hs:zcc pw np (ps[i]'(by omega)) (ps.drop (i+1)) (zfb pw np ps i) with
  | none=>rw [hs]at ih;cases ih
  | some d=>rw [hs]at ih;rw [<-zsA hx hs];exact ih
def osz (h:Hp) (a:Int):Int:=(atH h a).n+1
def zdx (h:Hp) (g:Pg):Int:=if g.kind=2 then zax h.pw h.np g.used else 1
theorem zft {pw np n:Int} (h:1<=zax pw np n):n<=zax pw np n*pw/\zax pw np n<=4/\confB pw np=true/\1<=n:=by
 by_cases hc:confB pw np=true/\1<=n
 · rw [zgD hc.1 hc.2]at h ⊢
   refine ⟨?_,?_,hc.1,hc.2⟩
   · unfold zeL at h ⊢
     repeat' split
     all_goals first | omega | (exfalso;simp_all)
   · unfold zeL at h ⊢
     repeat' split
     all_goals omega
 · rw [zgE (by
    by_cases h1:confB pw np=true
    · right;have:¬1<=n:=fun h2=>hc ⟨h1,h2⟩;omega
    · left;simpa using h1)]at h
   omega
theorem zdL {pw np:Int} {ps:List Pg} (h:zaK pw np ps 0=true) {i:Nat} {g:Pg} (hg:ps[i]?=some g) (hk:g.kind=2) :
 1<=zax pw np g.used/\(i:Int)+zax pw np g.used<=ps.length/\∀ t:Nat,i<t->(t:Int)<i+zax pw np g.used->∃ y,ps[t]?=some y/\y.kind=3/\y.space=g.space:=by
 have hi:i<ps.length:=(qah.1 hg).1;have h1:=zkC h i (by omega)
 have e:ps.drop i=g::ps.drop (i+1):=by
  obtain ⟨hlt,rfl⟩:=qah.1 hg;exact qaU hlt
 rw [e,zaK]at h1;have h2:¬(zax pw np g.used<1\/(zgt g.space (ps.drop (i+1)):Int)<zax pw np g.used-1):=by
  intro hb;have:zcc pw np g (ps.drop (i+1)) (zfb pw np ps i)=none:=by
   unfold zcc;split
   · rfl
   · rw [if_neg (by omega:¬g.kind=0),if_neg (by omega:¬g.kind=1)]
  rw [this]at h1;cases h1
 have h3:(zax pw np g.used-1).toNat<=zgt g.space (ps.drop (i+1)):=by omega
 obtain ⟨h4,h5⟩:=(zj1 _ _ _).1 h3;rw [qaL]at h4;refine ⟨by omega,by omega,fun t ht ht2=>?_⟩
 have h6:t<ps.length:=by omega
 refine ⟨ps[t],qal h6,?_⟩;unfold zbF at h5;rw [qaQ]at h5;have h7:=h5 ps[t] (by
  rw [List.mem_iff_getElem?];refine ⟨t-(i+1),?_⟩;rw [qa5,if_pos (by omega),qa6]
  rw [show i+1+(t-(i+1))=t from by omega,qal h6])
 exact qas h7
structure Begins (h:Hp) (a:Int) (i j:Nat) (g:Pg):Prop where
 ok:okH h=true
 oi:ofI h.pw h.np a=i
 il:i<h.pages.length
 jl:(j:Int)<h.pw
 ad:a=4096+i*h.pw+j
 pg:h.pages[i]?=some g
 od:okD (zan h a)=true
 hd:atH h a=hdOf (zan h a)
 sz:osz h a=dN (zan h a)+1
 kd:(g.kind=1/\j+osz h a<=g.used/\g.used<=h.pw)\/(g.kind=2/\j=0/\osz h a=g.used/\1<=zax h.pw h.np g.used)
 wl:a+osz h a<=4096+h.words.length
theorem zb9 {h:Hp} {a:Int} (e:atE h a=0):∃ i j g,Begins h a i j g:=by
 have h1:okH h=true:=by
  cases h1:okH h
  · unfold atE at e;rw [h1]at e;simp at e
  · rfl
 have h5:ofE h.pw h.np a=0:=by
  by_cases h5:ofE h.pw h.np a=0
  · exact h5
  · unfold atE at e;rw [if_pos h1,if_neg h5]at e;cases e
 have h6:atB h a=true:=by
  cases h6:atB h a
  · unfold atE at e;rw [if_pos h1,if_pos h5,h6]at e;simp at e
  · rfl
 obtain ⟨hin,⟨i,j,e1,e2,hi,hj,ha⟩,t,ht,htl⟩:=zuK h1 h5;have hg:h.pages[i]?=some h.pages[i]:=qal hi
 have hp:zcu h a=h.pages[i]:=by unfold zcu;rw [e1,qad];exact zaq hg
 have hh:atH h a=hdOf (zan h a):=by unfold atH;rw [if_pos e]
 have hz:osz h a=dN (zan h a)+1:=by unfold osz;rw [hh];rfl
 unfold atB at h6;rw [hp,e2]at h6;simp only [qae,qaa]at h6;obtain ⟨⟨⟨k1,k2⟩,k3⟩,k4⟩:=h6;obtain ⟨c1,c2,c3,c4,c5,c6,c7⟩:=zao h1;obtain ⟨p1,p2,p3,p4,p5⟩:=zal c1;have hm:=zaM _ _ _ _ c7 _ (qaw hg);have pp:=zaZ (p:=i) c1 (by omega) (by omega)
 have kd:(h.pages[i].kind=1/\j+osz h a<=h.pages[i].used/\h.pages[i].used<=h.pw)\/(h.pages[i].kind=2/\j=0/\osz h a=h.pages[i].used/\1<=zax h.pw h.np h.pages[i].used):=by
  rcases k1 with k1 | k1
  · left
    rw [if_pos k1]at k4;have:=qas k4
    have h9:=hm.2.2.2.2.2.1 k1;refine ⟨k1,by rw [hz];omega,h9.2⟩
  · right
    rw [if_neg (by omega)]at k4
    obtain ⟨m1,m2⟩:=qas k4;refine ⟨k1,by omega,by rw [hz];exact m2,hm.2.2.2.2.2.2.1 k1⟩
 refine ⟨i,j,h.pages[i],h1,e1,hi,hj,ha,hg,k3,hh,hz,kd,?_⟩;rcases kd with ⟨k,l,m⟩ | ⟨k,l,m,n⟩
 · omega
 · obtain ⟨t1,t2,t3⟩:=zdL c7 hg k;obtain ⟨f1,f2,-⟩:=zft n;have:(i:Int)*h.pw+zax h.pw h.np h.pages[i].used*h.pw<=h.np*h.pw:=by
    rw [<-qbr];exact qaN (by omega) (by omega)
   omega
theorem Begins.pos {h:Hp} {a:Int} {i j:Nat} {g:Pg} (b:Begins h a i j g):1<=osz h a/\4096<=a:=by
 obtain ⟨c1,c2,c3,c4,c5,c6,c7⟩:=zao b.ok;obtain ⟨p1,p2,p3,p4,p5⟩:=zal c1;have pp:=zaZ (p:=i) c1 (by omega) (by have:=b.il;omega)
 have:=b.sz
 have:=b.ad
 omega
theorem Begins.upto {h:Hp} {a:Int} {i j:Nat} {g:Pg} (b:Begins h a i j g):1<=zdx h g/\4096+(i:Int)*h.pw<=a/\a+osz h a<=4096+((i:Int)+zdx h g)*h.pw/\∀ t:Nat,i<t->(t:Int)<i+zdx h g->∃ y,h.pages[t]?=some y/\y.kind=3:=by
 obtain ⟨c1,c2,c3,c4,c5,c6,c7⟩:=zao b.ok;obtain ⟨p1,p2,p3,p4,p5⟩:=zal c1;have ha:=b.ad;rw [qbr];rcases b.kd with ⟨k,l,m⟩ | ⟨k,l,m,n⟩
 · have e:zdx h g=1:=by unfold zdx;rw [if_neg (by omega)]
   rw [e,qbl];exact ⟨by omega,by omega,by omega,fun t h1 h2=>by omega⟩
 · have e:zdx h g=zax h.pw h.np g.used:=by unfold zdx;rw [if_pos k]
   obtain ⟨f1,f2,-⟩:=zft n;obtain ⟨t1,t2,t3⟩:=zdL c7 b.pg k;rw [e];refine ⟨by omega,by omega,by omega,fun t h1 h2=>?_⟩
   obtain ⟨y,h3,h4,-⟩:=t3 t h1 h2;exact ⟨y,h3,h4⟩
theorem zpT {h:Hp} {a b:Int} {i j k l:Nat} {g f:Pg} (ha:Begins h a i j g) (hb:Begins h b k l f) (hik:i<k):a+osz h a<=b:=by
 obtain ⟨u1,u2,u3,u4⟩:=ha.upto;obtain ⟨v1,v2,v3,v4⟩:=hb.upto;obtain ⟨c1,-⟩:=zao ha.ok;obtain ⟨p1,p2,p3,p4,p5⟩:=zal c1;have h1:¬(k:Int)<i+zdx h g:=fun hlt=>by
  obtain ⟨y,y1,y2⟩:=u4 k hik hlt;rw [hb.pg]at y1;injection y1 with y1
  subst y1;rcases hb.kd with ⟨z,-⟩ | ⟨z,-⟩ <;> omega
 have:((i:Int)+zdx h g)*h.pw<=(k:Int)*h.pw:=qaN (by omega) (by omega)
 omega
theorem zaH {h:Hp} {a:Int} {i j:Nat} {g:Pg} (ha:Begins h a i j g) {k:Nat} {f:Pg} (hf:h.pages[k]?=some f) (hk:f.kind=0):a+osz h a<=4096+(k:Int)*h.pw\/4096+(k:Int)*h.pw+h.pw<=a:=by
 obtain ⟨u1,u2,u3,u4⟩:=ha.upto;obtain ⟨c1,-⟩:=zao ha.ok;obtain ⟨p1,p2,p3,p4,p5⟩:=zal c1;have hne:i≠k:=fun e=>by
  subst e;have:=ha.pg
  rw [hf]at this;injection this with this
  subst this;rcases ha.kd with ⟨z,-⟩ | ⟨z,-⟩ <;> omega
 by_cases hik:i<k
 · left
   have h1:¬(k:Int)<i+zdx h g:=fun hlt=>by
    obtain ⟨y,y1,y2⟩:=u4 k hik hlt;rw [hf]at y1;injection y1 with y1
    subst y1;omega
   have:((i:Int)+zdx h g)*h.pw<=(k:Int)*h.pw:=qaN (by omega) (by omega)
   omega
 · right
   have e1:((k:Int)+1)*h.pw<=(i:Int)*h.pw:=qaN (by omega) (by omega)
   rw [qbr,qbl]at e1;omega
theorem zkh (h:Hp) (i:Nat) (u:Nat) (hc:confB h.pw h.np=true) (hi:(i:Int)<h.np) (hu:(u:Int)<=h.pw):∀ (f o:Nat) (l:List Int),u-o<=f->zcl h i false u o=some l ->
 (∀ a∈l,4096+(i:Int)*h.pw+o<=a)/\l.Pairwise (fun a b=>a+osz h a<=b)
 | f,o,l,hf,hl=>by
  by_cases hlt:o<u
  · have he:atE h (zba h.pw h.np i o)=0:=by
     by_cases he:atE h (zba h.pw h.np i o)=0
     · exact he
     · rw [zdd hlt he]at hl;cases hl
    have hA:zba h.pw h.np i o=4096+(i:Int)*h.pw+o:=(zee hc (by unfold inPg;exact qab (by omega))).1
    rw [zdi hlt he]at hl;obtain ⟨l2,hl2,rfl⟩:=qbV.1 hl;match f,hf with
    | f+1,hf=>
     have hn:=(zdW he).2.2.2.2.1;obtain ⟨s1,s2⟩:=zkh h i u hc hi hu f _ l2 (by omega) hl2
     refine ⟨fun a ha=>?_,List.pairwise_cons.2 ⟨fun b hb=>?_,s2⟩⟩
     · rcases qar.1 ha with rfl | ha
       · omega
       · have:=s1 a ha;omega
     · have:=s1 b hb
       unfold osz;omega
    | 0,hf=>omega
  · rw [zbT hlt]at hl;obtain rfl:=Option.some.inj hl;exact ⟨fun a ha=>(by cases ha),List.Pairwise.nil⟩
theorem zjj {h:Hp} (h1:okH h=true) (i:Nat) (hi:i<h.pages.length):(zaE h i).Pairwise (fun a b=>a+osz h a<=b)/\∀ a∈zaE h i,∃ j g,Begins h a i j g:=by
 obtain ⟨c1,c2,c3,c4,c5,c6,c7⟩:=zao h1;obtain ⟨p1,p2,p3,p4,p5⟩:=zal c1;have hg:h.pages[i]?=some h.pages[i]:=qal hi
 have hpg:pgAt h i=h.pages[i]:=by unfold pgAt;rw [qad];exact zaq hg
 have hm:=zaM _ _ _ _ c7 _ (qaw hg);have hno:¬((i:Int)<0\/(h.pages.length:Int)<=i):=by omega
 by_cases h3:(pgAt h i).kind=0\/(pgAt h i).kind=3
 · rw [(zfl h1 hno h3).2];exact ⟨List.Pairwise.nil,fun a ha=>by cases ha⟩
 · rw [(zen h1 hno h3).2];rw [hpg]at h3;have hk:h.pages[i].kind=1\/h.pages[i].kind=2:=by omega
   cases hw:zcK h i with
   | none=>exact ⟨List.Pairwise.nil,fun a ha=>by cases ha⟩
   | some l=>
    rw [Option.getD_some];unfold zcK at hw;rw [hpg]at hw;have hat:=zqn h i _ _ _ 0 l (qan _) hw;have hbg:∀ a∈l,∃ j g,Begins h a i j g:=fun a ha=>by
     obtain ⟨e1,o,o1,o2,o3⟩:=hat a ha;obtain ⟨i2,j,g,hb⟩:=zb9 e1;have hi2:i2=i:=by
      have h4:=hb.oi;rw [o3]at h4;cases hpi:inPg h.pw h.np i o with
      | false=>
       have h8:=(zod c1 hpi).1;have:=hb.pos.2
       omega
      | true=>
       obtain ⟨a1,a2,a3⟩:=zkJ c1 hpi;rw [(zee c1 hpi).1,(zis c1 a1).1,a2]at h4;omega
     subst hi2;exact ⟨j,g,hb⟩
    refine ⟨?_,hbg⟩;rcases hk with hk | hk
    · rw [show decide (h.pages[i].kind=2)=false from qaj (by omega)]at hw
      have h9:=hm.2.2.2.2.2.1 hk;exact (zkh h i _ c1 (by omega) (by omega) _ 0 l (qan _) hw).2
    · rw [show decide (h.pages[i].kind=2)=true from qab hk]at hw
      by_cases hlt:0<h.pages[i].used.toNat
      · by_cases he:atE h (zba h.pw h.np i ((0:Nat):Int))=0
        · rw [zdX hlt he]at hw;obtain rfl:=Option.some.inj hw;exact List.pairwise_singleton _ _
        · rw [zdd hlt he]at hw;cases hw
      · rw [zbT hlt]at hw;obtain rfl:=Option.some.inj hw;exact List.Pairwise.nil
theorem zdE {h:Hp} (h1:okH h=true):∀ k:Nat,k<=h.pages.length->(zbE h k).Pairwise (fun a b=>a+osz h a<=b)/\∀ a∈zbE h k,∃ i j g,i<k/\Begins h a i j g
 | 0,_=>by
  have:zbE h 0=[]:=rfl
  rw [this];exact ⟨List.Pairwise.nil,fun a ha=>by cases ha⟩
 | k+1,hk=>by
  obtain ⟨s1,s2⟩:=zdE h1 k (by omega)
  obtain ⟨t1,t2⟩:=zjj h1 k (by omega)
  rw [zeB];refine ⟨List.pairwise_append.2 ⟨s1,t1,fun a ha b hb=>?_⟩,fun a ha=>?_⟩
  · obtain ⟨i,j,g,hi,hba⟩:=s2 a ha;obtain ⟨l,f,hbb⟩:=t2 b hb;exact zpT hba hbb hi
  · rcases qao.1 ha with ha | ha
    · obtain ⟨i,j,g,hi,hba⟩:=s2 a ha;exact ⟨i,j,g,by omega,hba⟩
    · obtain ⟨j,g,hba⟩:=t2 a ha;exact ⟨k,j,g,by omega,hba⟩
theorem zde (h:Hp):(zaf h).Pairwise (fun a b=>a+osz h a<=b):=by
 unfold zaf zb8;refine List.Pairwise.filter _ ?_;unfold zat;by_cases h1:okH h=true
 · rw [if_pos h1];split
   · exact (zdE h1 _ (qan _)).1
   · exact List.Pairwise.nil
 · rw [if_neg h1];exact List.Pairwise.nil
theorem zfj {R:Int->Int->Prop}:∀ {l:List Int},l.Pairwise R->∀ {a b:Int},a∈l->b∈l->a=b\/R a b\/R b a
 | [],_,a,b,ha,_=>by cases ha
 | c::l,hp,a,b,ha,hb=>by
  obtain ⟨h1,h2⟩:=List.pairwise_cons.1 hp;rcases qar.1 ha with ha2 | ha2 <;> rcases qar.1 hb with hb2 | hb2
  · exact Or.inl (ha2.trans hb2.symm)
  · subst ha2;exact Or.inr (Or.inl (h1 _ hb2))
  · subst hb2;exact Or.inr (Or.inr (h1 _ ha2))
  · exact zfj h2 ha2 hb2
theorem zcN {h:Hp} {a b:Int} (ha:a∈zaf h) (hb:b∈zaf h) (hne:a≠b):a+osz h a<=b\/b+osz h b<=a :=
 (zfj (zde h) ha hb).resolve_left hne
theorem zai {h:Hp} {a:Int} (ha:a∈zaf h):∃ i j g,Begins h a i j g:=zb9 (zcp ha).1
theorem zaL {len:Nat} {a:Int} {n:Nat}:okA len a n=true↔4096<=a/\a+n<=4096+len:=by
 unfold okA;rw [qaa];omega
theorem zck (xs:List Int) {a:Int} (h:4096<=a):zap xs a=(xs[(a-4096).toNat]?).getD 0:=by
 unfold zap;by_cases hk:okA xs.length a 1=true
 · rw [if_pos hk,qaA]
 · rw [if_neg hk];have:xs[(a-4096).toNat]?=none:=by
    rw [qcp];have h2:¬(4096<=a/\a+(1:Nat)<=4096+xs.length):=fun c=>hk (zaL.2 c)
    omega
   rw [this];rfl
theorem zj5 (xs:List Int) {a:Int} (h:a<4096):zap xs a=0:=by
 unfold zap okA;rw [if_neg];simp only [qaa];omega
theorem zcD {xs l:List Int} {p:Int} (h:okA xs.length p l.length=true):(zay xs p l).length=xs.length:=by
 unfold zay;rw [if_pos h]
 have:=zaL.1 h
 exact zcZ (by omega)
theorem za4 {xs l:List Int} {p:Int} (h:okA xs.length p l.length=true) {a:Int} (ha:a<p\/p+l.length<=a):zap (zay xs p l) a=zap xs a:=by
 have h2:=zaL.1 h;by_cases h4:4096<=a
 · rw [zck _ h4,zck _ h4];unfold zay;rw [if_pos h,zei (by omega) (by omega)]
 · rw [zj5 _ (by omega),zj5 _ (by omega)]
theorem zdz {xs:List Int} {p v:Int} (h:okA xs.length p 1=true):zap (zay xs p [v]) p=v:=by
 have h2:=zaL.1 h;rw [zck _ h2.1];unfold zay;rw [if_pos (show okA xs.length p [v].length=true from h),zdl (by simp;omega) (qan _) (by simp),qbL];rfl
theorem znO {xs:List Int} {t f n:Int} (h0:0<=n) (ht:okA xs.length t n.toNat=true) (hf:okA xs.length f n.toNat=true):(zeM xs t f n).length=xs.length:=by
 unfold zeM;rw [if_neg (by omega),if_pos ⟨ht,hf⟩]
 have h1:=zaL.1 ht;have h2:=zaL.1 hf;refine zcZ ?_;rw [qax,qaL];omega
theorem zhl {xs:List Int} {t f n:Int} (h0:0<=n) (ht:okA xs.length t n.toNat=true) (hf:okA xs.length f n.toNat=true) {a:Int} (ha:a<t\/t+n<=a):zap (zeM xs t f n) a=zap xs a:=by
 have h1:=zaL.1 ht;have h2:=zaL.1 hf;by_cases h4:4096<=a
 · rw [zck _ h4,zck _ h4];unfold zeM;rw [if_neg (by omega),if_pos ⟨ht,hf⟩,zei (by rw [qax,qaL];omega) (by rw [qax,qaL];omega)]
 · rw [zj5 _ (by omega),zj5 _ (by omega)]
theorem zjk {xs:List Int} {t f n:Int} (h0:0<=n) (ht:okA xs.length t n.toNat=true) (hf:okA xs.length f n.toNat=true) {k:Int} (hk0:0<=k) (hk:k<n):zap (zeM xs t f n) (t+k)=zap xs (f+k):=by
 have h1:=zaL.1 ht;have h2:=zaL.1 hf;rw [zck _ (by omega),zck _ (by omega)]
 unfold zeM;rw [if_neg (by omega),if_pos ⟨ht,hf⟩,zdl (by rw [qax,qaL];omega) (by omega) (by rw [qax,qaL];omega),qa5,if_pos (by omega),qa6]
 congr 2;omega
def zbo (x:Wk) (q:Int):Prop:=∃ (k:Nat) (g:Pg),(k:Int)∈x.taken/\x.h.pages[k]?=some g/\4096+(k:Int)*x.h.pw<=q/\okD (evWd x q).toNat=true/\q+evN x q<=4096+(k:Int)*x.h.pw+g.used
def zcG (x:Wk) (a:Int):Bool:=decide (¬a∈x.queue) && !okT (evWd x a).toNat
structure Inv (h:Hp) (x:Wk):Prop where
 ok:okH h=true
 pw:x.h.pw=h.pw
 np:x.h.np=h.np
 sp:x.h.space=h.space
 old:x.old=zaf h
 wl:x.h.words.length=h.words.length
 pl:x.h.pages.length=h.pages.length
 tk:∀ t∈x.taken,∃ (k:Nat) (g0 g:Pg),t=(k:Int)/\h.pages[k]?=some g0/\g0.kind=0/\x.h.pages[k]?=some g/\g.kind=1/\0<=g.used/\g.used<=h.pw
 pg:∀ (k:Nat) (g0:Pg),h.pages[k]?=some g0->¬(k:Int)∈x.taken->∃ g,x.h.pages[k]?=some g/\g.kind=g0.kind/\g.used=g0.used
 tl:x.taken.length<=zbS x.h.pages
 un:∀ a∈zaf h,evWd x a=zap h.words a\/(okT (evWd x a).toNat=true/\¬a∈x.queue/\zd9 x (ofI h.pw h.np a)=false)
 qs:∀ q∈x.queue,q∈zaf h\/zbo x q
 dj:∀ q∈x.queue,∀ r∈x.queue,zbo x q->zbo x r->q≠r->q+evN x q<=r\/r+evN x r<=q
 cnt:x.queue.length+((zaf h).filter (zcG x)).length<=(zaf h).length
structure Later (x y:Wk):Prop where
 sc:y.sc=x.sc
 qu:∃ l,y.queue=x.queue++l
 hd:∀ q∈x.queue,evWd y q=evWd x q
theorem Later.refl (x:Wk):Later x x:=⟨rfl,⟨[],by simp⟩,fun _ _=>rfl⟩
theorem Later.mem {x y:Wk} (h:Later x y) {q:Int} (hq:q∈x.queue):q∈y.queue:=by
 obtain ⟨l,e⟩:=h.qu;rw [e];exact qa3 _ hq
theorem Later.trans {x y z:Wk} (h:Later x y) (k:Later y z):Later x z:=by
 refine ⟨k.sc.trans h.sc,?_,fun q hq=>(k.hd q (h.mem hq)).trans (h.hd q hq)⟩
 obtain ⟨l,e⟩:=h.qu;obtain ⟨m,f⟩:=k.qu;exact ⟨l++m,by rw [f,e,qaG]⟩
theorem zhw {x:Wk} {a:Int} (h:okD (evWd x a).toNat=true):evN x a=dN (evWd x a).toNat+1/\(evH x a).n=dN (evWd x a).toNat:=by
 have e:=zmX h;have v:=(zcM h).2.2;refine ⟨?_,?_⟩
 · unfold evN;rw [e.1,e.2.1,e.2.2,zbs v]
 · unfold evH;exact e.2.1
theorem zd1 {h:Hp} {x:Wk} {a:Int} (ha:a∈zaf h) (e:evWd x a=zap h.words a):okD (evWd x a).toNat=true/\evN x a=osz h a/\(evH x a).n+1=osz h a/\okT (evWd x a).toNat=false:=by
 obtain ⟨i,j,g,b⟩:=zai ha;have hp:=b.pos;have h1:(evWd x a).toNat=zan h a:=by
  rw [e,zck _ hp.2];unfold zan;rw [qaA]
 have h2:okD (evWd x a).toNat=true:=by rw [h1];exact b.od
 obtain ⟨e1,e2⟩:=zhw h2;have hs:=b.sz;rw [<-h1]at hs;refine ⟨h2,by omega,by omega,?_⟩
 rw [<-qbA];exact fun c=>apart _ ⟨h2,c⟩
theorem Inv.kept {h:Hp} {x:Wk} (I:Inv h x) {a:Int} (ha:a∈zaf h) (hq:a∈x.queue):evWd x a=zap h.words a :=
 (I.un a ha).elim id (fun c=>absurd hq c.2.1)
theorem Inv.conf {h:Hp} {x:Wk} (I:Inv h x):16<=h.pw/\h.pw<=64/\8<=h.np/\h.np<=64/\(h.words.length:Int)=h.np*h.pw/\(h.pages.length:Int)=h.np/\h.np*h.pw<=4096/\0<=h.space/\h.space<=1:=by
 obtain ⟨c1,c2,c3,c4,c5,c6,c7⟩:=zao I.ok;obtain ⟨p1,p2,p3,p4,p5⟩:=zal c1;exact ⟨p1,p2,p4,p5,c2,c3,(conf_prod c1).2,c4,c5⟩
theorem Inv.qlen {h:Hp} {x:Wk} (I:Inv h x):x.queue.length<=(zaf h).length/\(zaf h).length<=4096:=by
 refine ⟨by have:=I.cnt;omega,?_⟩
 unfold zaf zb8;exact qaF (qbM _ _) (zcY h)
theorem Inv.plok {h:Hp} {x:Wk} (I:Inv h x):PlOK x:=by
 obtain ⟨c1,c2,c3,c4,c5,c6,c7,c8,c9⟩:=I.conf;have h1:=I.pl;refine ⟨by rw [I.pw];exact c1,by rw [I.pw];exact c2,by omega,by omega,by rw [I.sp];exact c8,by rw [I.sp];exact c9,?_,fun l hl=>?_⟩
 · have h2:=I.tl;have h3:=zj7 x.h.pages;omega
 · obtain ⟨k,g0,g,e,-,-,h4,-,h5,h6⟩:=I.tk l (qcA hl);exact ⟨k,e,g,h4,h5,by rw [I.pw];exact h6⟩
theorem Inv.fwok {h:Hp} {x:Wk} (I:Inv h x):FwOK x:=by
 have h1:=I.conf;have h2:=I.wl;have h3:=I.qlen;exact ⟨I.plok,by omega,by omega⟩
theorem Inv.copy {h:Hp} {x:Wk} (I:Inv h x) {q:Int} (hc:zbo x q):∃ (k:Nat) (g0:Pg),h.pages[k]?=some g0/\g0.kind=0/\(k:Int)<h.np/\4096+(k:Int)*h.pw<=q/\q+evN x q<=4096+(k:Int)*h.pw+h.pw/\1<=evN x q/\okD (evWd x q).toNat=true:=by
 obtain ⟨k,g,h1,h2,h3,h4,h5⟩:=hc;obtain ⟨k2,g0,g2,e,f1,f2,f3,f4,f5,f6⟩:=I.tk _ h1;obtain rfl:k=k2:=by omega
 rw [h2]at f3;injection f3 with f3
 subst f3;have:=(zhw h4).1
 have h7:=(qah.1 f1).1;have h8:=I.conf;rw [I.pw]at h3 h5;exact ⟨k,g0,f1,f2,by omega,h3,by omega,by omega,h4⟩
theorem Inv.old_copy {h:Hp} {x:Wk} (I:Inv h x) {a q:Int} (ha:a∈zaf h) (hc:zbo x q):a+osz h a<=q\/q+evN x q<=a:=by
 obtain ⟨k,g0,h1,h2,h3,h4,h5,h6,h7⟩:=I.copy hc;obtain ⟨i,j,g,b⟩:=zai ha;have:=zaH b h1 h2
 omega
theorem Inv.inside {h:Hp} {x:Wk} (I:Inv h x) {A i:Int} (hA:A∈x.queue) (h0:0<=i) (h1:i<(evH x A).n) :
 okA x.h.words.length (A+1+i) 1=true/\(∀ a∈zaf h,A+1+i≠a)/\(∀ q∈x.queue,A+1+i≠q):=by
 have hcf:=I.conf;have hwl:=I.wl;rcases I.qs A hA with ho | hc
 · have e:=I.kept ho hA;obtain ⟨e1,e2,e3,e4⟩:=zd1 ho e;obtain ⟨i2,j2,g,b⟩:=zai ho;have hb:=b.pos;have hbl:=b.wl;have hold:∀ a∈zaf h,A+1+i≠a:=fun a ha eq=>by
    by_cases hne:A=a
    · omega
    · have h2:=zcN ho ha hne;obtain ⟨i3,j3,g3,b3⟩:=zai ha;have:=b3.pos
      omega
   refine ⟨zaL.2 (by omega),hold,fun q hq eq=>?_⟩
   rcases I.qs q hq with h2 | h2
   · exact hold q h2 eq
   · have h3:=I.old_copy ho h2;obtain ⟨k,g0,f1,f2,f3,f4,f5,f6,f7⟩:=I.copy h2;omega
 · obtain ⟨k,g0,f1,f2,f3,f4,f5,f6,f7⟩:=I.copy hc;obtain ⟨e1,e2⟩:=zhw f7;obtain ⟨c1,-⟩:=zao I.ok;have pp:=zaZ (p:=k) c1 (by omega) f3
   have hold:∀ a∈zaf h,A+1+i≠a:=fun a ha eq=>by
    have h3:=I.old_copy ha hc;obtain ⟨i3,j3,g3,b3⟩:=zai ha;have:=b3.pos
    omega
   refine ⟨zaL.2 (by omega),hold,fun q hq eq=>?_⟩
   rcases I.qs q hq with h2 | h2
   · exact hold q h2 eq
   · by_cases hne:A=q
     · omega
     · have h3:=I.dj A hA q hq hc h2 hne;obtain ⟨k2,g2,d1,d2,d3,d4,d5,d6,d7⟩:=I.copy h2;omega
theorem zle {p q:Int->Bool}:∀ {l:List Int},(∀ a∈l,p a=q a)->l.filter p=l.filter q
 | [],_=>rfl
 | a::l,h=>by
  rw [qb5,qb5,h a (qaX ..),zle (fun b hb=>h b (qaD _ hb))]
theorem zgI {p q:Int->Bool} {c:Int}:∀ {l:List Int},(∀ a∈l,q a=true->p a=true)->c∈l->p c=true->q c=false->(l.filter q).length+1<=(l.filter p).length
 | [],_,hc,_,_=>by cases hc
 | a::l,h,hc,hp,hq=>by
  have hle:∀ {m:List Int},(∀ a∈m,q a=true->p a=true)->(m.filter q).length<=(m.filter p).length:=by
   intro m;induction m with
   | nil=>intro _;exact qan _
   | cons b m ih=>
    intro hm;have h1:=ih (fun a ha=>hm a (qaD _ ha))
    have h2:=hm b (qaX ..);rw [qb5,qb5];cases hqb:q b
    · simp only [qbh,qbe];cases p b <;> simp <;> omega
    · rw [h2 hqb];simp;omega
  rw [qb5,qb5];rcases qar.1 hc with rfl | hc
  · rw [hp,hq];have:=hle (m:=l) (fun a ha=>h a (qaD _ ha))
    simp;omega
  · have h1:=zgI (fun a ha=>h a (qaD _ ha)) hc hp hq
    have h2:=h a (qaX ..);cases hqb:q a
    · simp only [qbh,qbe];cases p a <;> simp <;> omega
    · rw [h2 hqb];simp;omega
theorem Inv.write {h:Hp} {x:Wk} (I:Inv h x) {p v:Int} (hp:okA x.h.words.length p 1=true) (h1:∀ a∈zaf h,p≠a) (h2:∀ q∈x.queue,p≠q) :
 Inv h { x with h:={ x.h with words:=zay x.h.words p [v] } }/\Later x { x with h:={ x.h with words:=zay x.h.words p [v] } }:=by
 have hev:∀ a,p≠a->evWd { x with h:={ x.h with words:=zay x.h.words p [v] } } a=evWd x a:=fun a ha=>by
  unfold evWd;exact za4 (l:=[v]) hp (by simp only [qbt];omega)
 have hcp:∀ q∈x.queue,(zbo { x with h:={ x.h with words:=zay x.h.words p [v] } } q↔zbo x q):=fun q hq=>by
  unfold zbo evN;rw [hev q (h2 q hq)]
 have hn:∀ q∈x.queue,evN { x with h:={ x.h with words:=zay x.h.words p [v] } } q=evN x q:=fun q hq=>by
  unfold evN;rw [hev q (h2 q hq)]
 refine ⟨⟨I.ok,I.pw,I.np,I.sp,I.old,?_,I.pl,I.tk,I.pg,I.tl,fun a ha=>?_,fun q hq=>?_,fun q hq r hr cq cr hne=>?_,?_⟩,⟨rfl,⟨[],by simp⟩,fun q hq=>hev q (h2 q hq)⟩⟩
 · exact (zcD (l:=[v]) hp).trans I.wl
 · rw [hev a (h1 a ha)];exact I.un a ha
 · rcases I.qs q hq with c | c
   · exact Or.inl c
   · exact Or.inr ((hcp q hq).2 c)
 · rw [hn q hq,hn r hr];exact I.dj q hq r hr ((hcp q hq).1 cq) ((hcp r hr).1 cr) hne
 · rw [zle (q:=zcG x) (fun a ha=>by unfold zcG;rw [hev a (h1 a ha)])];exact I.cnt
theorem zk7:∀ {ps:List Pg} {k:Nat} {z y:Pg},ps[k]?=some z->zbS (ps.set k y)+(if z.kind=0 then 0 else 1)=zbS ps+(if y.kind=0 then 0 else 1)
 | [],k,z,y,h=>by simp at h
 | a::r,0,z,y,h=>by
  simp at h;subst h
  rw [List.set_cons_zero,zbS,zbS];omega
 | a::r,k+1,z,y,h=>by
  have ih:=zk7 (ps:=r) (k:=k) (z:=z) (y:=y) (by simpa using h)
  rw [List.set_cons_succ,zbS,zbS];omega
theorem zk8:∀ {ps qs:List Pg},ps.map (·.kind)=qs.map (·.kind)->zbS ps=zbS qs
 | [],[],_=>rfl
 | [],_::_,h=>by simp at h
 | _::_,[],h=>by simp at h
 | a::r,b::s,h=>by
  simp at h
  rw [zbS,zbS,h.1,zk8 (ps:=r) (qs:=s) h.2]
theorem Inv.place {h:Hp} {x:Wk} (I:Inv h x) {n:Int} (hn0:1<=n) (hn:n<=h.pw) (hb:plB x n=true):∃ (J:Nat) (u:Int) (g0 g1:Pg),
 plA x n=4096+(J:Int)*h.pw+u/\0<=u/\u+n<=h.pw/\(J:Int)<h.np/\h.pages[J]?=some g0/\g0.kind=0 /\
 (∀ k:Nat,k≠J->(plW x n).h.pages[k]?=x.h.pages[k]?)/\(plW x n).h.pages[J]?=some g1/\g1.kind=1/\g1.used=u+n /\
 (plW x n).h.pages.length=x.h.pages.length/\(J:Int)∈(plW x n).taken/\(∀ t,t∈(plW x n).taken↔t∈x.taken\/t=J)/\(plW x n).taken.length<=zbS (plW x n).h.pages /\
 ((J:Int)∈x.taken->∃ g,x.h.pages[J]?=some g/\g.used=u):=by
 have hcf:=I.conf;obtain ⟨J,y,p1,p2,p3,p4,p5,p6,p7⟩:=zfV I.plok hb;have hpl:=I.pl;have htl:=I.tl;have e1:(plW x n).h.pages=(plPs x n).set J ⟨y.kind,y.space,y.used+n,y.pins⟩:=by
  show zf2 (plPs x n) (plJ x n).toNat n=_
  unfold zf2;rw [p1,qad,zaq p4]
 have e2:(plW x n).taken=plT x n:=rfl
 have hA:plA x n=4096+(J:Int)*h.pw+y.used:=by
  unfold plA;rw [p1,qad,zaq p4,I.pw]
 rw [I.pw]at p6 p7;have hJ:(plW x n).h.pages[J]?=some ⟨y.kind,y.space,y.used+n,y.pins⟩:=by
  rw [e1,qaO];simp [p3,p2]
 have hu1:zbS (plW x n).h.pages=zbS (plPs x n):=by
  have:=zk7 (y:=⟨y.kind,y.space,y.used+n,y.pins⟩) p4
  rw [e1];simp only at this;omega
 rcases p7 with ⟨r1,r2,r3,r4⟩ | ⟨r1,r2,r3,r4,z,r5,r6⟩
 · have hm:(J:Int)∈x.taken:=qcA r3;obtain ⟨k2,g0,g,f0,f1,f2,f3,f4,f5,f6⟩:=I.tk _ hm;obtain rfl:J=k2:=by omega
   rw [r2]at p4;rw [f3]at p4;injection p4 with p4
   subst p4;have hT:(plW x n).taken=x.taken:=by rw [e2];unfold plT;rw [if_pos r1]
   refine ⟨J,g.used,g0,_,hA,f5,r4,by omega,f1,f2,fun k hk=>?_,hJ,f4,rfl,by rw [e1,List.length_set,p3],by rw [hT];exact hm,fun t=>?_,?_,fun _=>⟨g,f3,rfl⟩⟩
   · rw [e1,qbD (by omega),r2]
   · rw [hT];constructor
     · intro h;exact Or.inl h
     · rintro (h | rfl)
       · exact h
       · exact hm
   · rw [hu1,hT,r2];exact htl
 · have hnt:¬(J:Int)∈x.taken:=fun hm=>by
    obtain ⟨k2,g0,g,f0,f1,f2,f3,f4,f5,f6⟩:=I.tk _ hm;obtain rfl:J=k2:=by omega
    rw [r5]at f3;injection f3 with f3
    subst f3;omega
   have hlt:J<h.pages.length:=by omega
   obtain ⟨g,f1,f2,f3⟩:=I.pg J h.pages[J] (qal hlt) hnt;rw [r5]at f1;injection f1 with f1
   subst f1;have hT:(plW x n).taken=x.taken++[(J:Int)]:=by rw [e2];unfold plT;rw [r1,r2];rfl
   subst r4;refine ⟨J,0,h.pages[J],_,hA,qb4 _,by omega,by omega,qal hlt,by omega,fun k hk=>?_,hJ,rfl,rfl,by rw [e1,List.length_set,p3],by rw [hT];simp,fun t=>?_,?_,fun hm=>absurd hm hnt⟩
   · rw [e1,qbD (by omega),r3,qbD (by omega)]
   · rw [hT];simp
   · rw [hu1,hT,r3,qaz];have:=zk7 (y:=⟨1,1-x.h.space,0,0⟩) r5
     rw [if_pos r6,if_neg (by simp)]at this
     simp only [qbt];omega
theorem zs1 {x y:Wk} {i:Nat} (h1:y.h.pages[i]?=x.h.pages[i]?) (h2:y.h.space=x.h.space) (h3:(i:Int)∈y.taken↔(i:Int)∈x.taken):zd9 y i=zd9 x i:=by
 unfold zd9;rw [qad,h1,h2];cases x.h.pages[i]? with
 | none=>rfl
 | some g=>simp only [h3]
theorem Inv.begun {h:Hp} {x:Wk} (I:Inv h x) {a:Int} {i j:Nat} {g:Pg} (b:Begins h a i j g):¬(i:Int)∈x.taken:=fun hm=>by
 obtain ⟨k2,g0,g2,f0,f1,f2,-⟩:=I.tk _ hm;obtain rfl:i=k2:=by omega
 have:=b.pg
 rw [f1]at this;injection this with this
 subst this;rcases b.kd with ⟨k,-⟩ | ⟨k,-⟩ <;> omega
theorem znu {a:Int} (h0:0<=a) (h1:a<4294967296):okT (fwdV a).toNat=true:=by
 rw [(zw6 h1).1];refine okT_mk ?_ ?_ <;> omega
theorem Inv.keep {h:Hp} {x:Wk} (I:Inv h x) {a:Int} (ha:a∈zaf h) (hq:¬a∈x.queue) (ht:okT (evWd x a).toNat=false):Inv h (zdM x a)/\Later x (zdM x a):=by
 have e1:∀ b,evWd (zdM x a) b=evWd x b:=fun b=>rfl
 have e2:∀ b,evN (zdM x a) b=evN x b:=fun b=>rfl
 have e3:∀ b,zbo (zdM x a) b↔zbo x b:=fun b=>Iff.rfl
 have hm:∀ b,b∈(zdM x a).queue↔b∈x.queue\/b=a:=fun b=>by show b∈x.queue++[a]↔_;simp
 have hnc:∀ q,zbo x q->q≠a:=fun q hc e=>by
  subst e;have h1:=I.old_copy ha hc;obtain ⟨k,g0,f1,f2,f3,f4,f5,f6,f7⟩:=I.copy hc;obtain ⟨i,j,g,b⟩:=zai ha;have:=b.pos
  omega
 refine ⟨⟨I.ok,I.pw,I.np,I.sp,I.old,I.wl,I.pl,I.tk,I.pg,I.tl,fun b hb=>?_,fun q hqq=>?_,fun q hq2 r hr2 cq cr hne=>?_,?_⟩,⟨rfl,⟨[a],rfl⟩,fun _ _=>rfl⟩⟩
 · rcases I.un b hb with c | ⟨c1,c2,c3⟩
   · exact Or.inl c
   · refine Or.inr ⟨c1,fun hin=>?_,c3⟩
     rcases (hm b).1 hin with h2 | h2
     · exact c2 h2
     · subst h2;rw [ht]at c1;cases c1
 · rcases (hm q).1 hqq with h2 | h2
   · exact I.qs q h2
   · subst h2;exact Or.inl ha
 · have hq3:=((hm q).1 hq2).resolve_right (hnc q cq);have hr3:=((hm r).1 hr2).resolve_right (hnc r cr);exact I.dj q hq3 r hr3 cq cr hne
 · have h1:((zaf h).filter (zcG (zdM x a))).length+1<=((zaf h).filter (zcG x)).length:=by
    refine zgI (c:=a) (fun b hb hu=>?_) ha ?_ ?_
    · unfold zcG at hu ⊢
      simp only [qae,qaa]at hu ⊢;exact ⟨fun h2=>hu.1 ((hm b).2 (Or.inl h2)),hu.2⟩
    · unfold zcG;simp [hq,ht]
    · unfold zcG;rw [qaj (by simp [hm])];rfl
   have h2:(zdM x a).queue.length=x.queue.length+1:=by show (x.queue++[a]).length=_;simp
   have:=I.cnt
   omega
theorem zdY {P:Pg->Bool}:∀ {l:List Pg} {k:Nat},k<(l.takeWhile P).length->∃ y,l[k]?=some y/\P y=true
 | [],k,h=>by simp at h
 | a::l,k,h=>by
  rw [qcs]at h;split at h
  · rename_i hp;cases k with
    | zero=>exact ⟨a,rfl,hp⟩
    | succ k=>
     obtain ⟨y,h1,h2⟩:=zdY (l:=l) (k:=k) (by simpa using h)
     exact ⟨y,by simpa using h1,h2⟩
  · simp at h
theorem Inv.large {h:Hp} {x:Wk} (I:Inv h x) {i:Nat} {g:Pg} (hg:x.h.pages[i]?=some g) (hk:g.kind=2):Inv h (zcy x i)/\Later x (zcy x i)/\(∀ a,evWd (zcy x i) a=evWd x a)/\(zcy x i).queue=x.queue:=by
 have hat:∀ (k:Nat) (y:Pg),x.h.pages[k]?=some y->∃ s,(zcy x i).h.pages[k]?=some ⟨y.kind,s,y.used,y.pins⟩/\(¬(y.kind=2\/y.kind=3)->s=y.space):=fun k y hy=>by
  show ∃ s,(spc x.h.pages i (zco x.h.pages i) (1-x.h.space))[k]?=_/\_
  unfold spc;rw [qcw,hy];simp only [qbF];by_cases hr:i<=k/\k<zco x.h.pages i
  · rw [if_pos hr];refine ⟨1-x.h.space,rfl,fun hno=>?_⟩
    exfalso
    apply hno
    by_cases e:k=i
    · subst e;rw [hg]at hy;injection hy with hy;subst hy;exact Or.inl hk
    · right
      unfold zco at hr;obtain ⟨z,z1,z2⟩:=zdY (l:=x.h.pages.drop (i+1)) (k:=k-(i+1)) (P:=fun y=>decide (y.kind=3)) (by omega)
      rw [qa6,show i+1+(k-(i+1))=k from by omega,hy]at z1
      injection z1 with z1
      subst z1;exact qas z2
  · rw [if_neg hr];exact ⟨y.space,rfl,fun _=>rfl⟩
 have hkd:(zcy x i).h.pages.map (·.kind)=x.h.pages.map (·.kind):=by
  apply qbj
  intro k;rw [qbs,qbs];cases hy:x.h.pages[k]? with
  | some y=>
   obtain ⟨s,h1,-⟩:=hat k y hy;rw [h1];rfl
  | none=>
   have:(zcy x i).h.pages[k]?=none:=by
    show (spc x.h.pages i (zco x.h.pages i) (1-x.h.space))[k]?=none
    unfold spc;rw [qcw,hy];rfl
   rw [this]
 have hln:(zcy x i).h.pages.length=x.h.pages.length:=by
  have:=congrArg List.length hkd
  rwa [qak,qak]at this
 have hcp:∀ q,zbo (zcy x i) q->zbo x q:=fun q ⟨k,g2,c1,c2,c3,c4,c5⟩=>by
  cases hy:x.h.pages[k]? with
  | some y=>
   obtain ⟨s,h1,-⟩:=hat k y hy;rw [h1]at c2;injection c2 with c2
   exact ⟨k,y,c1,hy,c3,c4,by subst c2;exact c5⟩
  | none=>
   have h1:=qcp.1 hy;have h2:=(qah.1 c2).1;omega
 refine ⟨⟨I.ok,I.pw,I.np,I.sp,I.old,I.wl,hln.trans I.pl,fun t ht=>?_,fun k g0 hg0 hnt=>?_,?_,fun a ha=>?_,fun q hq=>?_,fun q hq r hr cq cr hne=>I.dj q hq r hr (hcp q cq) (hcp r cr) hne,I.cnt⟩,⟨rfl,⟨[],by simp [zcy]⟩,fun _ _=>rfl⟩,fun _=>rfl,rfl⟩
 · obtain ⟨k,g0,g2,f0,f1,f2,f3,f4,f5,f6⟩:=I.tk t ht;obtain ⟨s,h1,-⟩:=hat k g2 f3;exact ⟨k,g0,_,f0,f1,f2,h1,f4,f5,f6⟩
 · obtain ⟨g2,f1,f2,f3⟩:=I.pg k g0 hg0 hnt;obtain ⟨s,h1,-⟩:=hat k g2 f1;exact ⟨_,h1,f2,f3⟩
 · rw [zk8 hkd];exact I.tl
 · rcases I.un a ha with c | ⟨c1,c2,c3⟩
   · exact Or.inl c
   · refine Or.inr ⟨c1,c2,?_⟩;obtain ⟨i2,j2,g2,b⟩:=zai ha;rw [b.oi]at c3 ⊢
     obtain ⟨y,f1,f2,f3⟩:=I.pg i2 g2 b.pg (I.begun b);obtain ⟨s,h1,h2⟩:=hat i2 y f1;unfold zd9 at c3 ⊢
     rw [qad,f1]at c3;rw [qad,h1];simp only at c3 ⊢
     by_cases hk1:y.kind=1
     · rw [h2 (by omega)];exact c3
     · rw [qaj hk1];simp
 · rcases I.qs q hq with c | ⟨k,y,c1,c2,c3,c4,c5⟩
   · exact Or.inl c
   · obtain ⟨s,h1,-⟩:=hat k y c2;exact Or.inr ⟨k,_,c1,h1,c3,c4,c5⟩
theorem Inv.copied {h:Hp} {x:Wk} (I:Inv h x) {a:Int} (ha:a∈zaf h) (hq:¬a∈x.queue) (ht:okT (evWd x a).toNat=false) (hpr:zd9 x (evI x a)=false) (hbig:zhx x a=false) (hpl:plB x (evN x a)=true) :
 Inv h (zbA x a)/\Later x (zbA x a):=by
 obtain ⟨c1,c2,c3,c4,c5,c6,c7,c8,c9⟩:=I.conf;obtain ⟨i,j,g,b⟩:=zai ha;have hbp:=b.pos;have hbw:=b.wl;have hwl:=I.wl;have e0:evWd x a=zap h.words a:=(I.un a ha).elim id (fun c=>by rw [ht]at c;exact absurd c.1 (by decide))
 obtain ⟨e1,e2,e3,-⟩:=zd1 ha e0;have hoi:evI x a=i:=by unfold evI;rw [I.pw,I.np];exact b.oi
 obtain ⟨y,f1,f2,f3⟩:=I.pg i g b.pg (I.begun b);have hk1:g.kind=1:=by
  rcases b.kd with ⟨k,-⟩ | ⟨k,-⟩
  · exact k
  · unfold zhx at hbig;rw [hoi,qad,zaq f1]at hbig;have:=qa7 hbig
    omega
 have hn:evN x a<=h.pw:=by
  rcases b.kd with ⟨k,l,m⟩ | ⟨k,-⟩ <;> omega
 have hn0:1<=evN x a:=by omega
 obtain ⟨J,u,g0,g1,hA,hu0,hun,hJ,hg0,hk0,hoth,hg1,hk11,hu1,hplen,hJt,htk,htl,hru⟩:=I.place hn0 hn hpl;obtain ⟨N,hN⟩:∃ N,evN x a=N:=⟨_,rfl⟩
 obtain ⟨T,hT⟩:∃ T,plA x N=T:=⟨_,rfl⟩
 rw [hN]at hA hn hn0 hun hoth hg1 hu1 hplen hJt htk htl e2 hpl;rw [hT]at hA;have hpp:=zaZ (p:=(J:Int)) (zao I.ok).1 (by omega) hJ
 have hfree:=zaH b hg0 hk0;have ka:okA x.h.words.length T N.toNat=true:=zaL.2 (by omega)
 have kb:okA x.h.words.length a N.toNat=true:=zaL.2 (by omega)
 have kc:okA (zeM x.h.words T a N).length a [fwdV T].length=true:=by rw [znO (by omega) ka kb];exact zaL.2 (by simp only [qbt];omega)
 have hW:(zbA x a).h.words=zay (zeM x.h.words T a N) a [fwdV T]:=by
  show zlq x a=_
  unfold zlq;rw [hN,hT]
 have hQ:(zbA x a).queue=x.queue++[T]:=by show x.queue++[plA x (evN x a)]=_;rw [hN,hT]
 have hP:(zbA x a).h.pages=(plW x N).h.pages:=by show (plW x (evN x a)).h.pages=_;rw [hN]
 have hTk:(zbA x a).taken=(plW x N).taken:=by show (plW x (evN x a)).taken=_;rw [hN]
 have hpw:(zbA x a).h.pw=h.pw:=I.pw
 have hself:evWd (zbA x a) a=fwdV T:=by unfold evWd;rw [hW];exact zdz kc
 have hout:∀ p,p≠a->(p<T\/T+N<=p)->evWd (zbA x a) p=evWd x p:=fun p h1 h2=>by
  unfold evWd;rw [hW,za4 kc (by simp only [qbt];omega)]
  exact zhl (by omega) ka kb (by omega)
 have hnew:evWd (zbA x a) T=evWd x a:=by
  unfold evWd;rw [hW,za4 kc (by simp only [qbt];omega)]
  have:=zjk (k:=0) (by omega) ka kb (qb4 _) (by omega)
  simpa using this
 have hold:∀ c∈zaf h,c≠a->evWd (zbA x a) c=evWd x c:=fun c hc hne=>by
  obtain ⟨i3,j3,g3,b3⟩:=zai hc;have h1:=zaH b3 hg0 hk0;have h2:=b3.pos;exact hout c hne (by omega)
 have hbelow:∀ q,zbo x q->q+evN x q<=T\/T+N<=q:=fun q hc=>by
  have hc2:=hc;obtain ⟨k,y2,d1,d2,d3,d4,d5⟩:=hc;obtain ⟨k3,y0,y3,l0,l1,l2,l3,l4,l5,l6⟩:=I.tk _ d1;obtain rfl:k=k3:=by omega
  rw [d2]at l3;injection l3 with l3
  subst l3;rw [I.pw]at d3 d5;by_cases hkJ:k=J
  · subst hkJ;obtain ⟨g5,m1,m2⟩:=hru d1;rw [d2]at m1;injection m1 with m1
    subst m1;left;omega
  · by_cases hlt:k<J
    · left
      have:((k:Int)+1)*h.pw<=(J:Int)*h.pw:=qaN (by omega) (by omega)
      rw [qbr,qbl]at this;omega
    · right
      have:((J:Int)+1)*h.pw<=(k:Int)*h.pw:=qaN (by omega) (by omega)
      rw [qbr,qbl]at this;omega
 have hcopy:∀ q,zbo x q->evWd (zbA x a) q=evWd x q/\q≠a/\q≠T:=fun q hc=>by
  have h1:=hbelow q hc;obtain ⟨k,y0,l1,l2,l3,l4,l5,l6,l7⟩:=I.copy hc;have h2:=I.old_copy ha hc;have hne:q≠a:=by omega
  exact ⟨hout q hne (by omega),hne,by omega⟩
 have hcopyN:∀ q,zbo x q->evN (zbA x a) q=evN x q:=fun q hc=>by unfold evN;rw [(hcopy q hc).1]
 have hqd:∀ q∈x.queue,evWd (zbA x a) q=evWd x q:=fun q h1=>by
  rcases I.qs q h1 with h2 | h2
  · exact hold q h2 (fun e=>hq (by rw [<-e];exact h1))
  · exact (hcopy q h2).1
 have hcc:∀ q,zbo x q->zbo (zbA x a) q:=fun q hc=>by
  have h9:=hcopyN q hc;have h8:=(hcopy q hc).1;have hc2:=hc;obtain ⟨k,y2,d1,d2,d3,d4,d5⟩:=hc;by_cases hkJ:k=J
  · subst hkJ;obtain ⟨g5,m1,m2⟩:=hru d1;rw [d2]at m1;injection m1 with m1
    subst m1;refine ⟨k,g1,by rw [hTk];exact hJt,by rw [hP];exact hg1,by rw [hpw];rw [I.pw]at d3;exact d3,by rw [h8];exact d4,?_⟩
    rw [h9,hpw];rw [I.pw]at d5;omega
  · refine ⟨k,y2,by rw [hTk];exact (htk _).2 (Or.inl d1),by rw [hP,hoth k hkJ];exact d2,by rw [hpw];rw [I.pw]at d3;exact d3,by rw [h8];exact d4,?_⟩
    rw [h9,hpw];rw [I.pw]at d5;exact d5
 have hback:∀ q∈x.queue,zbo (zbA x a) q->zbo x q:=fun q h1 hc=>by
  rcases I.qs q h1 with h2 | h2
  · exfalso
    obtain ⟨k,y2,d1,d2,d3,d4,d5⟩:=hc;obtain ⟨i3,j3,g3,b3⟩:=zai h2;have hb3:=b3.pos;rw [hpw]at d3 d5;have hge:1<=evN (zbA x a) q:=by have:=(zhw d4).1;omega
    rw [hTk]at d1;rw [hP]at d2;rcases (htk _).1 d1 with d1 | d1
    · obtain ⟨k3,y0,y3,l0,l1,l2,l3,l4,l5,l6⟩:=I.tk _ d1;obtain rfl:k=k3:=by omega
      have h6:=zaH b3 l1 l2;have hul:y2.used<=h.pw:=by
       by_cases hkJ:k=J
       · subst hkJ;rw [hg1]at d2;injection d2 with d2;subst d2;omega
       · rw [hoth k hkJ,l3]at d2;injection d2 with d2;subst d2;exact l6
      omega
    · obtain rfl:k=J:=by omega
      have h6:=zaH b3 hg0 hk0;rw [hg1]at d2;injection d2 with d2;subst d2
      omega
  · exact h2
 have hTN:evN (zbA x a) T=N:=by unfold evN;rw [hnew];exact hN
 refine ⟨⟨I.ok,I.pw,I.np,I.sp,I.old,?_,?_,fun t h1=>?_,fun k g5 h1 h2=>?_,?_,fun c hc=>?_,fun q h1=>?_,fun q h1 r h2 cq cr hne=>?_,?_⟩,⟨rfl,⟨[T],hQ⟩,hqd⟩⟩
 · rw [hW,zcD kc,znO (by omega) ka kb];exact hwl
 · rw [hP,hplen];exact I.pl
 · rw [hTk]at h1;rw [hP];by_cases hkJ:t=J
   · exact ⟨J,g0,g1,hkJ,hg0,hk0,hg1,hk11,by omega,by omega⟩
   · obtain ⟨k3,y0,y3,l0,l1,l2,l3,l4,l5,l6⟩:=I.tk _ (((htk t).1 h1).resolve_right hkJ);exact ⟨k3,y0,y3,l0,l1,l2,by rw [hoth k3 (by omega)];exact l3,l4,l5,l6⟩
 · rw [hTk]at h2;rw [hP];have hnt:¬(k:Int)∈x.taken:=fun h3=>h2 ((htk _).2 (Or.inl h3))
   have hkJ:k≠J:=fun e=>h2 ((htk _).2 (Or.inr (by rw [e])))
   obtain ⟨y5,l1,l2,l3⟩:=I.pg k g5 h1 hnt;exact ⟨y5,by rw [hoth k hkJ];exact l1,l2,l3⟩
 · rw [hTk,hP];exact htl
 · have hstab:∀ i5 j5 g5,Begins h c i5 j5 g5->zd9 (zbA x a) i5=zd9 x i5:=fun i5 j5 g5 b5=>by
    have hnt:=I.begun b5;have hkJ:i5≠J:=fun e=>by
     subst e;have:=b5.pg
     rw [hg0]at this;injection this with this
     subst this;rcases b5.kd with ⟨k,-⟩ | ⟨k,-⟩ <;> omega
    refine zs1 (by rw [hP];exact hoth i5 hkJ) rfl ?_
    rw [hTk,htk];constructor
    · rintro (h | h)
      · exact h
      · omega
    · exact Or.inl
   obtain ⟨i5,j5,g5,b5⟩:=zai hc;by_cases hca:c=a
   · subst hca;right
     refine ⟨by rw [hself];exact znu (by omega) (by omega),fun h1=>?_,?_⟩
     · rw [hQ]at h1;rcases qao.1 h1 with h1 | h1
       · exact hq h1
       · have:=qau.1 h1;omega
     · rw [b5.oi,hstab _ _ _ b5];have:evI x c=i5:=by unfold evI;rw [I.pw,I.np];exact b5.oi
       rw [<-this];exact hpr
   · rw [hold c hc hca];rcases I.un c hc with h1 | ⟨h1,h2,h3⟩
     · exact Or.inl h1
     · refine Or.inr ⟨h1,fun h4=>?_,by rw [b5.oi]at h3 ⊢;rw [hstab _ _ _ b5];exact h3⟩
       rw [hQ]at h4;rcases qao.1 h4 with h4 | h4
       · exact h2 h4
       · have h5:=qau.1 h4;have h6:=zaH b5 hg0 hk0;have h7:=b5.pos;omega
 · rw [hQ]at h1;rcases qao.1 h1 with h1 | h1
   · rcases I.qs q h1 with h2 | h2
     · exact Or.inl h2
     · exact Or.inr (hcc q h2)
   · have h5:=qau.1 h1;subst h5;refine Or.inr ⟨J,g1,by rw [hTk];exact hJt,by rw [hP];exact hg1,by rw [hpw];omega,by rw [hnew];exact e1,?_⟩
     rw [hTN,hpw];omega
 · rw [hQ]at h1 h2;rcases qao.1 h1 with m1 | m1 <;> rcases qao.1 h2 with m2 | m2
   · have cq2:=hback q m1 cq;have cr2:=hback r m2 cr;rw [hcopyN q cq2,hcopyN r cr2];exact I.dj q m1 r m2 cq2 cr2 hne
   · have h5:=qau.1 m2;have cq2:=hback q m1 cq;rw [h5,hcopyN q cq2,hTN];exact hbelow q cq2
   · have h5:=qau.1 m1;have cr2:=hback r m2 cr;rw [h5,hcopyN r cr2,hTN];exact (hbelow r cr2).symm
   · exact absurd ((qau.1 m1).trans (qau.1 m2).symm) hne
 · have h1:((zaf h).filter (zcG (zbA x a))).length+1<=((zaf h).filter (zcG x)).length:=by
    refine zgI (c:=a) (fun c hc hu=>?_) ha ?_ ?_
    · unfold zcG at hu ⊢
      by_cases hca:c=a
      · subst hca;rw [hself,znu (by omega) (by omega)]at hu
        simp at hu
      · rw [hold c hc hca]at hu;simp only [qae,qaa]at hu ⊢;exact ⟨fun h2=>hu.1 (by rw [hQ];exact qa3 _ h2),hu.2⟩
    · unfold zcG;simp [hq,ht]
    · unfold zcG;rw [hself,znu (by omega) (by omega)];simp
   have h2:(zbA x a).queue.length=x.queue.length+1:=by rw [hQ];simp
   have:=I.cnt
   omega
theorem Inv.forward {h:Hp} {x:Wk} (I:Inv h x) {a:Int} (he:evE x a=0):Inv h (evW x a)/\Later x (evW x a):=by
 unfold evE at he;unfold evW;by_cases h0:a=0\/a∈x.queue
 · have hc:evC x a=0:=by unfold evC;rw [if_pos h0]
   rw [hc];exact ⟨I,Later.refl x⟩
 have hq:¬a∈x.queue:=fun c=>h0 (Or.inr c)
 by_cases ho:¬a∈x.old
 · have hc:evC x a=1:=by unfold evC;rw [if_neg h0,if_pos ho]
   rw [hc]at he;exact absurd he (by decide)
 replace ho:a∈x.old:=Classical.not_not.1 ho
 have ho2:a∈zaf h:=by rw [<-I.old];exact ho
 by_cases ht:okT (evWd x a).toNat=true
 · have hc:evC x a=2:=by unfold evC;rw [if_neg h0,if_neg (by simpa using ho),if_pos ht]
   rw [hc];exact ⟨I,Later.refl x⟩
 replace ht:okT (evWd x a).toNat=false:=by simpa using ht
 by_cases h3:¬ofE x.h.pw x.h.np a=0\/(x.h.pages.length:Int)<=evI x a
 · have hc:evC x a=3:=by unfold evC;rw [if_neg h0,if_neg (by simpa using ho),if_neg (by simp [ht]),if_pos h3]
   rw [hc]at he;exact absurd he (by decide)
 cases hpr:zd9 x (evI x a) with
 | true=>
  have hc:evC x a=4:=by unfold evC;rw [if_neg h0,if_neg (by simpa using ho),if_neg (by simp [ht]),if_neg h3,if_pos hpr]
  rw [hc];exact I.keep ho2 hq ht
 | false=>
  cases hbig:zhx x a with
  | true=>
   have hc:evC x a=5:=by unfold evC;rw [if_neg h0,if_neg (by simpa using ho),if_neg (by simp [ht]),if_neg h3,if_neg (by simp [hpr]),if_pos hbig]
   rw [hc];obtain ⟨i,j,g,b⟩:=zai ho2;have hoi:evI x a=i:=by unfold evI;rw [I.pw,I.np];exact b.oi
   obtain ⟨y,f1,f2,f3⟩:=I.pg i g b.pg (I.begun b);have hk:y.kind=2:=by
    unfold zhx at hbig;rw [hoi,qad,zaq f1]at hbig;exact qas hbig
   rw [hoi,qad];obtain ⟨I2,L2,e1,e2⟩:=I.large f1 hk;obtain ⟨I3,L3⟩:=I2.keep ho2 (by rw [e2];exact hq) (by rw [e1];exact ht)
   exact ⟨I3,L2.trans L3⟩
  | false=>
   cases hpp:plB x (evN x a) with
   | true=>
    have hc:evC x a=7:=by unfold evC;rw [if_neg h0,if_neg (by simpa using ho),if_neg (by simp [ht]),if_neg h3,if_neg (by simp [hpr]),if_neg (by simp [hbig]),if_pos hpp]
    rw [hc];exact I.copied ho2 hq ht hpr hbig hpp
   | false=>
    have hc:evC x a=6:=by unfold evC;rw [if_neg h0,if_neg (by simpa using ho),if_neg (by simp [ht]),if_neg h3,if_neg (by simp [hpr]),if_neg (by simp [hbig]),if_neg (by simp [hpp])]
    rw [hc]at he;exact absurd he (by decide)
def zaJ:Wk->List Int->List Int->Wk×List Int×Int
 | x,acc,[]=>(x,acc,0)
 | x,acc,r::rs=>if evE x r=0 then zaJ (evW x r) (acc++[evA x r]) rs else (Wk.zero,[],evE x r)
def zos:Wk->List Int->Prop
 | _,[]=>True
 | x,r::rs=>FwOK x/\(0<=r/\r<18446744073709551616)/\(evE x r=0->zos (evW x r) rs)
def zbX (h:Hp):Wk:=⟨{ h with pages:=h.pages.map fun g=>if g.kind=1/\0<g.pins then ⟨g.kind,1-h.space,g.used,g.pins⟩ else g },zaf h,[],[],0,0,0,0,0,0,0⟩
def zfC (x:Wk) (a:Int):Bool:=zd9 x (ofI x.h.pw x.h.np a) && !decide (a∈x.queue)
def zfB (x:Wk) (a:Int):List Int:=encV 0 (evH x a).n 0::List.replicate (evH x a).n.toNat 0
def zau (x:Wk) (a:Int):Wk:=if zfC x a then { x with h:={ x.h with words:=zay x.h.words a (zfB x a) },r2:=wrap64 (x.r2+1) } else x
def zaG (x:Wk):Wk:=x.old.foldl zau x
theorem zpH {x y:Wk} (L:Later x y) {q:Int} (hq:q∈x.queue):evH y q=evH x q:=by
 unfold evH;rw [L.hd q hq]
theorem st_ok {h:Hp} {A:Int}:∀ (l:List Int) (x:Wk),Inv h x->A∈x.queue->(∀ i∈l,0<=i/\i<(evH x A).n)->StOK x A l/\((stGo x A l).2=0->Inv h (stGo x A l).1/\Later x (stGo x A l).1)
 | [],x,I,hA,_=>⟨trivial,fun _=>⟨I,Later.refl x⟩⟩
 | i::r,x,I,hA,hl=>by
  obtain ⟨h0,h1⟩:=hl i (qaX ..);have key:evE x (zap x.h.words (A+1+i))=0->Inv h (zcs x (A+1+i))/\Later x (zcs x (A+1+i)):=fun he=>by
   obtain ⟨I2,L2⟩:=I.forward he;have hA2:=L2.mem hA;obtain ⟨k1,k2,k3⟩:=I2.inside hA2 h0 (by rw [zpH L2 hA];exact h1)
   obtain ⟨I3,L3⟩:=I2.write (v:=evA x (zap x.h.words (A+1+i))) k1 k2 k3
   exact ⟨I3,L2.trans L3⟩
  have hrec:∀ he:evE x (zap x.h.words (A+1+i))=0,StOK (zcs x (A+1+i)) A r/\((stGo (zcs x (A+1+i)) A r).2=0->Inv h (stGo (zcs x (A+1+i)) A r).1/\Later (zcs x (A+1+i)) (stGo (zcs x (A+1+i)) A r).1):=fun he=>by
   obtain ⟨I3,L3⟩:=key he;exact st_ok r _ I3 (L3.mem hA) (fun j hj=>by rw [zpH L3 hA];exact hl j (qaD _ hj))
  refine ⟨⟨I.fwok,fun he=>(hrec he).1⟩,fun hz=>?_⟩
  rw [stGo]at hz ⊢
  by_cases he:evE x (zap x.h.words (A+1+i))=0
  · rw [if_pos he]at hz ⊢
    obtain ⟨I4,L4⟩:=(hrec he).2 hz;exact ⟨I4,(key he).2.trans L4⟩
  · rw [if_neg he]at hz;exact absurd hz he
theorem stL_in {x:Wk} {A i:Int} (hi:i∈stL x A):0<=i/\i<(evH x A).n:=by
 have h:=zkz hi;unfold ptrB at h;simp only [qae,qaa]at h;exact ⟨h.1.1.2,h.1.2⟩
theorem Inv.queue_bd {h:Hp} {x:Wk} (I:Inv h x) {A:Int} (hA:A∈x.queue):4096<=A/\A<=9000:=by
 rcases I.qs A hA with c | c
 · have:=zoa (zcp c).1;omega
 · obtain ⟨k,g0,f1,f2,f3,f4,f5,f6,f7⟩:=I.copy c;have h1:=I.conf;have h2:=zaZ (p:=(k:Int)) (zao I.ok).1 (by omega) f3
   omega
theorem Inv.reports {h:Hp} {x:Wk} (I:Inv h x) (s a b c d e f:Int):Inv h { x with sc:=s,r0:=a,r1:=b,r2:=c,r3:=d,r4:=e,r5:=f } :=
 ⟨I.ok,I.pw,I.np,I.sp,I.old,I.wl,I.pl,I.tk,I.pg,I.tl,I.un,I.qs,I.dj,I.cnt⟩
theorem zvy {h:Hp}:∀ (f:Nat) (x:Wk) (k:Nat),Inv h x->x.sc=k->k<=x.queue.length->(zaf h).length+1<=k+f->zvH f x/\((allV f x).2=0->Inv h (allV f x).1)
 | 0,x,k,I,hk,hq,hf=>by have:=I.qlen;omega
 | f+1,x,k,I,hk,hq,hf=>by
  have hql:=I.qlen;cases hA:x.queue[k]? with
  | none=>
   refine ⟨⟨k,hk,by omega,Or.inl hA⟩,fun _=>?_⟩
   rw [zoc hk hA];exact I
  | some A=>
   have hAm:=qaw hA;have hkl:=(qah.1 hA).1;have hbd:=I.queue_bd hAm;obtain ⟨s1,s2⟩:=st_ok (stL x A) x I hAm (fun i hi=>stL_in hi)
   have key:stE x A=0->Inv h (stW x A)/\(stW x A).sc=((k+1:Nat):Int)/\k+1<=(stW x A).queue.length:=fun he=>by
    obtain ⟨I2,L2⟩:=s2 he;refine ⟨I2.reports _ _ _ _ _ _ _,?_,?_⟩
    · show wrap64 ((stGo x A (stL x A)).1.sc+1)=_
      rw [L2.sc,hk];unfold wrap64;omega
    · show k+1<=(stGo x A (stL x A)).1.queue.length
      obtain ⟨l,e⟩:=L2.qu;rw [e,qaz];omega
   have hrec:=fun he:stE x A=0=>zvy f (stW x A) (k+1) (key he).1 (key he).2.1 (key he).2.2 (by omega)
   refine ⟨⟨k,hk,by omega,Or.inr ⟨A,hA,by omega,by omega,I.fwok.wl,s1,fun he=>⟨(key he).2.1,(hrec he).1⟩⟩⟩,fun hz=>?_⟩
   rw [zrm hk hA]at hz ⊢
   by_cases he:stE x A=0
   · rw [if_pos he]at hz ⊢;exact (hrec he).2 hz
   · rw [if_neg he]at hz;exact absurd hz he
theorem znk {h:Hp}:∀ (rs:List Int) (x:Wk) (acc:List Int),Inv h x->(∀ r∈rs,0<=r/\r<18446744073709551616)->zos x rs/\((zaJ x acc rs).2.2=0->Inv h (zaJ x acc rs).1/\Later x (zaJ x acc rs).1/\(zaJ x acc rs).2.1.length=acc.length+rs.length)
 | [],x,acc,I,_=>⟨trivial,fun _=>⟨I,Later.refl x,rfl⟩⟩
 | r::rs,x,acc,I,hl=>by
  have hrec:∀ he:evE x r=0,_:=fun he=>znk rs (evW x r) (acc++[evA x r]) (I.forward he).1 (fun q hq=>hl q (qaD _ hq))
  refine ⟨⟨I.fwok,hl r (qaX ..),fun he=>(hrec he).1⟩,fun hz=>?_⟩
  rw [zaJ]at hz ⊢
  by_cases he:evE x r=0
  · rw [if_pos he]at hz ⊢
    obtain ⟨I2,L2,e2⟩:=(hrec he).2 hz;refine ⟨I2,(I.forward he).2.trans L2,?_⟩;rw [e2];simp only [qaz,qaP,qb3];omega
  · rw [if_neg he]at hz;exact absurd hz he
theorem zhD {h:Hp} (h1:okH h=true):Inv h (zbX h):=by
 refine ⟨h1,rfl,rfl,rfl,rfl,rfl,by show (List.map _ _).length=_;rw [qak],fun t ht=>(by cases ht),fun k g0 hg hn=>?_,qa8 _,fun a ha=>Or.inl rfl,fun q hq=>(by cases hq),fun q hq=>(by cases hq),?_⟩
 · refine ⟨if g0.kind=1/\0<g0.pins then ⟨g0.kind,1-h.space,g0.used,g0.pins⟩ else g0,?_,?_,?_⟩
   · show (List.map _ _)[k]?=_;rw [qbs,hg];rfl
   · split <;> rfl
   · split <;> rfl
 · show 0+_<=_
   have:=qbM (zcG (zbX h)) (zaf h)
   omega
theorem zjo (x:Wk) (a:Int):(zau x a).h.pw=x.h.pw/\(zau x a).h.np=x.h.np/\(zau x a).h.pages=x.h.pages/\(zau x a).h.space=x.h.space/\(zau x a).taken=x.taken/\(zau x a).queue=x.queue/\(zau x a).old=x.old/\(zau x a).h.bump=x.h.bump:=by
 unfold zau;split <;> exact ⟨rfl,rfl,rfl,rfl,rfl,rfl,rfl,rfl⟩
theorem zhu (x:Wk) (a b:Int):zfC (zau x a) b=zfC x b:=by
 obtain ⟨e1,e2,e3,e4,e5,e6,-,-⟩:=zjo x a;unfold zfC zd9;rw [e1,e2,e3,e4,e5,e6]
theorem znZ {h:Hp}:∀ (l:List Int) (x:Wk),l.Pairwise (fun a b=>a+osz h a<=b)->(∀ a∈l,a∈zaf h)->x.h.words.length=h.words.length->(∀ a∈l,zfC x a=true->evWd x a=zap h.words a)->(l.foldl zau x).h.words.length=h.words.length
 | [],x,_,_,e,_=>e
 | a::l,x,hp,hm,e,hev=>by
  obtain ⟨p1,p2⟩:=List.pairwise_cons.1 hp;rw [qbT];by_cases hb:zfC x a=true
  · have h1:=hev a (qaX ..) hb;have ha:=hm a (qaX ..);obtain ⟨e1,e2,e3,-⟩:=zd1 ha h1;obtain ⟨i,j,g,b⟩:=zai ha;have hpos:=b.pos;have hwl:=b.wl;have hln:((zfB x a).length:Int)=osz h a:=by unfold zfB;rw [qaP,qa2];omega
    have hok:okA x.h.words.length a (zfB x a).length=true:=zaL.2 (by omega)
    have hW:(zau x a).h.words=zay x.h.words a (zfB x a):=by unfold zau;rw [if_pos hb]
    refine znZ l _ p2 (fun c hc=>hm c (qaD _ hc)) (by rw [hW,zcD hok];exact e) (fun c hc hf=>?_)
    rw [zhu]at hf;have h2:=hev c (qaD _ hc) hf;have h3:=p1 c hc;rw [<-h2];unfold evWd;rw [hW,za4 hok (by omega)]
  · have hW:zau x a=x:=by unfold zau;rw [if_neg hb]
    rw [hW];exact znZ l x p2 (fun c hc=>hm c (qaD _ hc)) e (fun c hc hf=>hev c (qaD _ hc) hf)
theorem Inv.fill {h:Hp} {x:Wk} (I:Inv h x):(zaG x).h.words.length=h.words.length:=by
 unfold zaG;rw [I.old];refine znZ _ x (zde h) (fun a ha=>ha) I.wl (fun a ha hf=>?_)
 unfold zfC at hf;simp only [qae,qap,qaf]at hf;rcases I.un a ha with c | ⟨-,-,c3⟩
 · exact c
 · rw [I.pw,I.np]at hf;rw [c3]at hf;exact absurd hf.1 (by decide)
structure Wd where
 h:Hp
 st:List Int
 wk:List Int
def bgB (h:Hp) (k:Nat):Bool:=decide ((h.pages.getD k Pg.zero).kind=1)&&decide (0<(h.pages.getD k Pg.zero).pins)
def bgPs (h:Hp):Nat->List Pg
 | 0=>h.pages
 | k+1=>if bgB h k then (bgPs h k).set k ⟨(h.pages.getD k Pg.zero).kind,1-h.space,(h.pages.getD k Pg.zero).used,(h.pages.getD k Pg.zero).pins⟩ else bgPs h k
theorem zke (h:Hp):∀ k,(bgPs h k).length=h.pages.length
 | 0=>rfl
 | k+1=>by rw [bgPs];split <;> simp [zke h k]
theorem zri (h:Hp):∀ (k j:Nat) (g:Pg),h.pages[j]?=some g->(bgPs h k)[j]?=some (if j<k/\g.kind=1/\0<g.pins then ⟨g.kind,1-h.space,g.used,g.pins⟩ else g)
 | 0,j,g,hg=>by rw [if_neg (by omega)];exact hg
 | k+1,j,g,hg=>by
  have ih:=zri h k j g hg;have hj:=(qah.1 hg).1;rw [bgPs];by_cases hb:bgB h k=true
  · rw [if_pos hb,qaO,zke];unfold bgB at hb;simp only [qae,qaa]at hb;by_cases e:k=j
    · subst e;rw [zaq hg]at hb ⊢
      rw [if_pos rfl,if_pos hj,if_pos ⟨by omega,hb.1,hb.2⟩]
    · rw [if_neg e,ih];by_cases c:j<k/\g.kind=1/\0<g.pins
      · rw [if_pos c,if_pos ⟨by omega,c.2⟩]
      · rw [if_neg c,if_neg (fun c2=>c ⟨by omega,c2.2⟩)]
  · rw [if_neg hb,ih];by_cases c:j<k/\g.kind=1/\0<g.pins
    · rw [if_pos c,if_pos ⟨by omega,c.2⟩]
    · rw [if_neg c,if_neg];rintro ⟨c1,c2⟩;by_cases e:j=k
      · subst e;apply hb
        unfold bgB;rw [zaq hg];simp [c2]
      · exact c ⟨by omega,c2⟩
theorem zwM (h:Hp):bgPs h h.pages.length=(zbX h).h.pages:=by
 apply qbj
 intro j;show _=(List.map _ h.pages)[j]?
 rw [qbs];cases hg:h.pages[j]? with
 | none=>
  have:(bgPs h h.pages.length)[j]?=none:=by
   rw [qcp,zke];exact qcp.1 hg
  rw [this];rfl
 | some g=>
  rw [zri h _ j g hg];have hj:=(qah.1 hg).1;simp only [qbF];by_cases c:g.kind=1/\0<g.pins
  · rw [if_pos ⟨hj,c⟩,if_pos c]
  · rw [if_neg (fun c2=>c c2.2),if_neg c]
def zlg (x:Wk) (k:Nat):Wk:=(x.old.take k).foldl zau x
theorem zrb {x:Wk} {k:Nat} {a:Int} (h:x.old[k]?=some a):zlg x (k+1)=zau (zlg x k) a:=by
 unfold zlg;rw [zbt h,List.foldl_append];rfl
theorem zeq:∀ (l:List Int) (x:Wk),(l.foldl zau x).h.pw=x.h.pw/\(l.foldl zau x).h.np=x.h.np/\(l.foldl zau x).h.pages=x.h.pages/\(l.foldl zau x).h.space=x.h.space/\(l.foldl zau x).taken=x.taken/\(l.foldl zau x).queue=x.queue/\(l.foldl zau x).old=x.old/\(l.foldl zau x).h.bump=x.h.bump
 | [],x=>⟨rfl,rfl,rfl,rfl,rfl,rfl,rfl,rfl⟩
 | a::l,x=>by
  obtain ⟨e1,e2,e3,e4,e5,e6,e7,e8⟩:=zeq l (zau x a);have h:(zau x a).h.pw=x.h.pw/\(zau x a).h.np=x.h.np/\(zau x a).h.pages=x.h.pages/\(zau x a).h.space=x.h.space/\(zau x a).taken=x.taken/\(zau x a).queue=x.queue/\(zau x a).old=x.old/\(zau x a).h.bump=x.h.bump:=by
   unfold zau;split <;> exact ⟨rfl,rfl,rfl,rfl,rfl,rfl,rfl,rfl⟩
  obtain ⟨f1,f2,f3,f4,f5,f6,f7,f8⟩:=h;exact ⟨e1.trans f1,e2.trans f2,e3.trans f3,e4.trans f4,e5.trans f5,e6.trans f6,e7.trans f7,e8.trans f8⟩
theorem zt5 (xs:List Int) (a:Int) (l:List Int):(zay xs a l).length<=xs.length:=by
 unfold zay;split
 · rename_i hk;have h1:=qas hk;rw [zcZ (by omega)];exact qan _
 · exact qa8 _
theorem zvm (n:Int):0<=encV 0 n 0/\encV 0 n 0<18446744073709551616:=by
 unfold encV;split
 · rename_i h;have:=zkg h (qb4 0)
   omega
 · omega
def frB (x:Wk) (k:Nat):Bool:=!decide ((x.h.pages.getD k Pg.zero).kind=0)&&decide ((x.h.pages.getD k Pg.zero).space=x.h.space)
def frPs (x:Wk):Nat->List Pg
 | 0=>x.h.pages
 | k+1=>if frB x k then (frPs x k).set k Pg.zero else frPs x k
def frWs (x:Wk):Nat->List Int
 | 0=>x.h.words
 | k+1=>if frB x k then splice (frWs x k) (k*x.h.pw.toNat) (List.replicate x.h.pw.toNat 0) else frWs x k
def frR (x:Wk):Nat->Int
 | 0=>x.r3
 | k+1=>if frB x k then wrap64 (frR x k+1) else frR x k
def ztn (x:Wk):Wk:={ x with h:={ x.h with pages:=frPs x x.h.pages.length,words:=frWs x x.h.pages.length },r3:=frR x x.h.pages.length }
theorem zhr (x:Wk):∀ k,(frPs x k).length=x.h.pages.length
 | 0=>rfl
 | k+1=>by rw [frPs];split <;> simp [zhr x k]
theorem zq9 (x:Wk):∀ (k j:Nat),k<=j->(frPs x k)[j]?=x.h.pages[j]?
 | 0,_,_=>rfl
 | k+1,j,h=>by
  rw [frPs];split
  · rw [qbD (by omega),zq9 x k j (by omega)]
  · exact zq9 x k j (by omega)
theorem zij {k m n:Nat} {pw:Int} (h0:0<=pw) (hk:k<m) (hn:(n:Int)=m*pw):k*pw.toNat+pw.toNat<=n:=by
 obtain ⟨q,rfl⟩:∃ q:Nat,pw=q:=⟨pw.toNat,by omega⟩
 rw [qad];have h1:(k+1)*q<=m*q:=qaM _ (by omega)
 rw [qaI,qa1]at h1;have h2:((m*q:Nat):Int)=n:=by rw [qcd];exact hn.symm
 omega
theorem zhq (x:Wk) (h0:0<=x.h.pw) (hw:(x.h.words.length:Int)=x.h.pages.length*x.h.pw):∀ k,k<=x.h.pages.length->(frWs x k).length=x.h.words.length
 | 0,_=>rfl
 | k+1,hk=>by
  have ih:=zhq x h0 hw k (by omega)
  rw [frWs];split
  · rw [zcZ (by rw [qa2,ih];exact zij h0 (by omega) hw)];exact ih
  · exact ih
theorem zvc (x:Wk) (hw:WB x.h.words):∀ k,WB (frWs x k)
 | 0=>hw
 | k+1=>by
  have ih:=zvc x hw k;rw [frWs];split
  · intro v hv;unfold splice at hv;rcases qao.1 hv with h | h
    · exact ih v (qb2 h)
    · rcases qao.1 h with h | h
      · have:=(List.mem_replicate.1 h).2;omega
      · exact ih v (qb8 h)
  · exact ih
def zhF (x:Wk) (a:Int):Int:=if a∈x.queue then a else tgtV (evWd x a).toNat
def zf7 (x:Wk) (a:Int):Int:=if a=0 then 0 else zhF x a
def zeu (x:Wk) (r a:Int):Int:=if a=0 then r else if zhF x a=0 then wrap64 (r+1) else r
def ziM (h:Hp) (st:List Int):Wk×List Int×Int:=zaJ (zbX h) [] st
def zhC (h:Hp) (st:List Int):Wk×Int:=allV ((zaf h).length+1) (ziM h st).1
def zbM (h:Hp) (st wk:List Int):Wk:={ (zhC h st).1 with r4:=wk.foldl (zeu (zhC h st).1) (zhC h st).1.r4 }
def zrf (h:Hp) (st wk:List Int):Wk:=ztn (zaG (zbM h st wk))
def zet (h:Hp) (st wk:List Int):Int:=if okH h then (if zig h st&&zig h wk then (if (ziM h st).2.2=0 then (zhC h st).2 else (ziM h st).2.2) else 19) else 1
def ziN (h:Hp) (st wk:List Int):Hp:={ (zrf h st wk).h with space:=1-(zrf h st wk).h.space,bump:=((zrf h st wk).taken.getLast?).getD (-1) }
def zlr (h:Hp) (st:List Int):List Int:=(ziM h st).2.1
def zpN (h:Hp) (st wk:List Int):List Int:=wk.map (zf7 (zhC h st).1)
def putV (x:Wd) (k n m:Int):Wd:=⟨zdv x.h k n m,x.st++[zfH x.h k n m],x.wk⟩
inductive MStep:Wd->Wd->Prop
 | none (x:Wd):MStep x x
 | put (x:Wd) (k n m:Int):1<=k->k<=3->0<=n->n<=100->0<=m->m<4096->zcA x.h k n m=0->MStep x (putV x k n m)
 | link (x:Wd) (a i b:Int):a∈0::(x.st++x.wk)->getE x.h a=0->0<=i->i<(getH x.h a).n->0<=b->b<18446744073709551616->(ptrB (getH x.h a).k (getH x.h a).n (getH x.h a).m i=true->b∈0::(x.st++x.wk))->MStep x { x with h:=setV x.h a i b }
 | pin (x:Wd) (a:Int) (i:Nat) (g:Pg) (p:Int):a∈0::(x.st++x.wk)->ofE x.h.pw x.h.np a=0->ofI x.h.pw x.h.np a=i->x.h.pages[i]?=some g->((0<g.pins/\p=g.pins-1)\/(p=g.pins+1/\(0<g.pins\/g.kind=2\/(zaP x.h.pages:Int)<x.h.np / 4)))->MStep x { x with h:={ x.h with pages:=x.h.pages.set i ⟨g.kind,g.space,g.used,p⟩ } }
 | drop (x:Wd) (i:Nat) (r:Int) (b:Bool):x.st[i]?=some r->MStep x ⟨x.h,x.st.take i++x.st.drop (i+1),if b then x.wk++[r] else x.wk⟩
 | collect (x:Wd):zet x.h x.st x.wk=0->MStep x ⟨ziN x.h x.st x.wk,zlr x.h x.st,zpN x.h x.st x.wk⟩
 | dup (x:Wd) (a:Int):a∈0::(x.st++x.wk)->MStep x ⟨x.h,x.st++[a],x.wk⟩
inductive Made:Nat->Wd->Prop
 | empty (pw np:Int):(pw=16\/pw=20\/pw=32)->(np=8\/np=12\/np=16\/np=20\/np=24)->Made 0 ⟨zmc pw np,[],[]⟩
 | step (n:Nat) (x y:Wd):Made n x->MStep x y->Made (n+1) y
theorem mem_u64 {st wk:List Int} (h1:WB st) (h2:WB wk) {a:Int} (h:a∈0::(st++wk)):0<=a/\a<18446744073709551616:=by
 simp only [qar,qao]at h;rcases h with rfl | h | h
 · exact ⟨by omega,by omega⟩
 · exact h1 _ h
 · exact h2 _ h
theorem zsd {pw np a:Int} (h:ofE pw np a=0):confB pw np=true/\0<=ofI pw np a/\ofI pw np a<np:=by
 have h1:confB pw np=true:=by
  cases hv:confB pw np with
  | false=>have:=(zwj (a:=a) hv).2.2;omega
  | true=>rfl
 have h2:inAr pw np a=true:=by
  cases hi:inAr pw np a with
  | false=>have:=(ze4 h1 hi).2.2;omega
  | true=>rfl
 have h3:=zal h1;refine ⟨h1,zs7 h,?_⟩;rw [(zis h1 h2).1];unfold inAr at h2;have h4:=qas h2;exact qco (by omega) (by omega)
structure Lens (n:Nat) (x:Wd):Prop where
 conf:confB x.h.pw x.h.np=true
 words:(x.h.words.length:Int)=x.h.np*x.h.pw
 pages:(x.h.pages.length:Int)=x.h.np
 st:WB x.st
 wk:WB x.wk
 stn:x.st.length<=n
 wkn:x.wk.length<=n
 pins:∀ g∈x.h.pages,0<=g.pins/\g.pins<=n
theorem zmU {h:Hp} {a i:Int} (hg:getE h a=0) (h0:0<=i) (h1:i<(getH h a).n):zjp h a i=0/\okA h.words.length (a+1+i) 1=true:=by
 obtain ⟨g1,g2,g3,-,-,g6,-,-,-,-⟩:=znT hg;obtain ⟨k,j,g,b⟩:=zb9 g2;have h2:=b.wl;have h3:osz h a=(atH h a).n+1:=rfl
 rw [g3]at h1;have hk:okA h.words.length (a+1+i) 1=true:=zaL.2 ⟨by omega,by omega⟩
 refine ⟨?_,hk⟩;unfold zjp;rw [if_pos hg,if_neg (by rw [g3];omega)]
 unfold zk2;rw [if_pos hk]
theorem Lens.up {n:Nat} {x:Wd} (h:Lens n x):Lens (n+1) x :=
 ⟨h.conf,h.words,h.pages,h.st,h.wk,by have:=h.stn;omega,by have:=h.wkn;omega,fun g hg=>by have:=h.pins g hg;omega⟩
theorem zth {pw np:Int} (h1:pw=16\/pw=20\/pw=32) (h2:np=8\/np=12\/np=16\/np=20\/np=24):Lens 0 ⟨zmc pw np,[],[]⟩:=by
 have hc:confB pw np=true:=zvr (by omega)
 have hp:=conf_prod hc;rw [(znM hc).1];refine ⟨hc,?_,?_,WB.nil,WB.nil,qan _,qan _,fun g hg=>?_⟩
 · show ((List.replicate (np*pw).toNat (0:Int)).length:Int)=np*pw
   rw [qa2];omega
 · show ((List.replicate np.toNat Pg.zero).length:Int)=np
   rw [qa2];omega
 · obtain ⟨-,rfl⟩:=List.mem_replicate.1 hg;exact ⟨by decide,by decide⟩
theorem zuZ {n:Nat} {x:Wd} (h:Lens n x) {a i b:Int} (hg:getE x.h a=0) (h0:0<=i) (h1:i<(getH x.h a).n) (b0:0<=b) (b1:b<18446744073709551616):Lens (n+1) { x with h:=setV x.h a i b }:=by
 obtain ⟨h2,h3⟩:=zmU hg h0 h1;have e:setV x.h a i b={ x.h with words:=zay x.h.words (a+1+i) [b] }:=by unfold setV;exact if_pos h2
 rw [e];have hl:(zay x.h.words (a+1+i) [b]).length=x.h.words.length:=zcD (l:=[b]) h3
 refine ⟨h.conf,?_,h.pages,h.st,h.wk,by have:=h.stn;show x.st.length<=_;omega,by have:=h.wkn;show x.wk.length<=_;omega,fun g hg=>by have:=h.pins g hg;omega⟩
 show ((zay x.h.words (a+1+i) [b]).length:Int)=x.h.np*x.h.pw
 rw [hl];exact h.words
theorem zwq {n:Nat} {x:Wd} (h:Lens n x) {i:Nat} {g:Pg} {p:Int} (hg:x.h.pages[i]?=some g) (hp:(0<g.pins/\p=g.pins-1)\/p=g.pins+1):Lens (n+1) { x with h:={ x.h with pages:=x.h.pages.set i ⟨g.kind,g.space,g.used,p⟩ } }:=by
 have h1:=h.pins g (qaw hg);refine ⟨h.conf,h.words,?_,h.st,h.wk,by have:=h.stn;show x.st.length<=_;omega,by have:=h.wkn;show x.wk.length<=_;omega,fun f hf=>?_⟩
 · show ((x.h.pages.set i _).length:Int)=x.h.np
   rw [List.length_set];exact h.pages
 · rcases List.mem_or_eq_of_mem_set hf with h2 | rfl
   · have:=h.pins f h2;omega
   · show 0<=p/\p<=((n+1:Nat):Int);omega
theorem zu0 {n:Nat} {x:Wd} (h:Lens n x) {i:Nat} {r:Int} (b:Bool) (hr:x.st[i]?=some r):Lens (n+1) ⟨x.h,x.st.take i++x.st.drop (i+1),if b then x.wk++[r] else x.wk⟩:=by
 have hrb:=h.st r (qaw hr);refine ⟨h.conf,h.words,h.pages,fun y hy=>?_,fun y hy=>?_,?_,?_,fun g hg=>by have:=h.pins g hg;omega⟩
 · rcases qao.1 hy with h2 | h2
   · exact h.st y (qb2 h2)
   · exact h.st y (qb8 h2)
 · cases b with
   | false=>exact h.wk y hy
   | true=>
    rcases qao.1 hy with h2 | h2
    · exact h.wk y h2
    · rw [qau.1 h2];exact hrb
 · have:=h.stn
   show (x.st.take i++x.st.drop (i+1)).length<=n+1
   rw [qaz,qax,qaL];omega
 · have:=h.wkn
   cases b with
   | false=>show x.wk.length<=_;omega
   | true=>show (x.wk++[r]).length<=_;rw [qaz];simp;omega
theorem zwr {n:Nat} {x:Wd} (h:Lens n x) {a:Int} (ha:a∈0::(x.st++x.wk)):Lens (n+1) ⟨x.h,x.st++[a],x.wk⟩:=by
 have hab:=mem_u64 h.st h.wk ha;refine ⟨h.conf,h.words,h.pages,fun y hy=>?_,h.wk,?_,by have:=h.wkn;show x.wk.length<=_;omega,fun g hg=>by have:=h.pins g hg;omega⟩
 · rcases qao.1 hy with h2 | h2
   · exact h.st y h2
   · rw [qau.1 h2];exact hab
 · have:=h.stn
   show (x.st++[a]).length<=_
   rw [qaz];simp;omega
def zsH:Prop:=∀ (n:Nat) (x:Wd) (k l m:Int),n<=400->Made n x->Lens n x->1<=k->k<=3->0<=l->l<=100->0<=m->m<4096->zcA x.h k l m=0->Lens (n+1) (putV x k l m)
def zjz:Prop:=∀ (n:Nat) (x:Wd),n<=400->Made n x->Lens n x->zet x.h x.st x.wk=0->Lens (n+1) ⟨ziN x.h x.st x.wk,zlr x.h x.st,zpN x.h x.st x.wk⟩
theorem zws (hP:zsH) (hC:zjz):∀ n x,Made n x->n<=400->Lens n x:=by
 intro n x hm;induction hm with
 | empty pw np h1 h2=>exact fun _=>zth h1 h2
 | step n x y hm hs ih=>
  intro hn;have h:=ih (by omega)
  cases hs with
  | none=>exact h.up
  | put k l m h1 h2 h3 h4 h5 h6 h7=>exact hP n x k l m (by omega) hm h h1 h2 h3 h4 h5 h6 h7
  | link a i b h1 h2 h3 h4 h5 h6 h7=>exact zuZ h h2 h3 h4 h5 h6
  | pin a i g p h1 h2 h3 h4 h5=>exact zwq h h4 (by rcases h5 with h5 | h5;exact Or.inl h5;exact Or.inr h5.1)
  | drop i r b h1=>exact zu0 h b h1
  | collect h1=>exact hC n x (by omega) hm h h1
  | dup a h1=>exact zwr h h1
def PinL (B:Int) (ps:List Pg):Prop:=∀ g∈ps,0<=g.pins/\g.pins<=B
theorem PinL.nil (B:Int):PinL B []:=fun g h=>by cases h
theorem PinL.set {B:Int} {ps:List Pg} (h:PinL B ps) {g:Pg} (hg:0<=g.pins/\g.pins<=B) (i:Nat):PinL B (ps.set i g):=fun f hf=>by
 rcases List.mem_or_eq_of_mem_set hf with h2 | rfl
 · exact h f h2
 · exact hg
theorem PinL.getD {B:Int} {ps:List Pg} (h:PinL B ps) (hB:0<=B) (i:Nat):0<=(ps.getD i Pg.zero).pins/\(ps.getD i Pg.zero).pins<=B:=by
 rw [qaA];cases e:ps[i]? with
 | none=>exact ⟨qb4 _,hB⟩
 | some g=>exact h g (qaw e)
theorem PinL.use {B:Int} {ps:List Pg} (h:PinL B ps) (hB:0<=B) (j:Nat) (n:Int):PinL B (zf2 ps j n) :=
 h.set (g:=⟨(ps.getD j Pg.zero).kind,(ps.getD j Pg.zero).space,(ps.getD j Pg.zero).used+n,(ps.getD j Pg.zero).pins⟩) (h.getD hB j) j
theorem PinL.puts {B:Int} {b:Pg} (hb:0<=b.pins/\b.pins<=B) (k:Nat) (ps:List Pg) (i:Nat) (h:PinL B ps):PinL B (put ps i k b):=fun g hg=>by
 unfold put at hg;rcases qao.1 hg with h1 | h1
 · rcases qao.1 h1 with h2 | h2
   · exact h g (qb2 h2)
   · obtain ⟨-,rfl⟩:=List.mem_replicate.1 h2;exact hb
 · exact h g (qb8 h1)
theorem PinL.take {B:Int} {ps:List Pg} (h:PinL B ps) (hB:0<=B) (i k:Int) {a b:Pg} (ha:a.pins=0) (hb:b.pins=0):PinL B (zgs ps i k a b):=by
 unfold zgs;split
 · split
   · exact (PinL.puts (by rw [hb];omega) _ _ _ h).set (by rw [ha];omega) _
   · exact PinL.nil B
 · exact PinL.nil B
theorem PinL.spc {B:Int} {ps:List Pg} (h:PinL B ps) (i k:Nat) (sp:Int):PinL B (spc ps i k sp):=fun g hg=>by
 obtain ⟨j,hj,rfl⟩:=List.mem_mapIdx.1 hg;have:=h ps[j] (qbS hj)
 split <;> exact this
theorem zuA {B:Int} (hB:0<=B) {x:Wk} (h:PinL B x.h.pages) (a:Int):PinL B (evW x a).h.pages:=by
 unfold evW;split
 · exact h
 · exact h
 · exact h
 · exact h.spc _ _ _
 · show PinL B (zf2 (plPs x (evN x a)) _ _)
   refine PinL.use ?_ hB _ _;unfold plPs;split
   · exact h
   · unfold zcJ;split
     · exact h.take hB _ _ rfl rfl
     · exact PinL.nil B
 · exact PinL.nil B
theorem zs3 {B:Int} (hB:0<=B) {x:Wk} (h:PinL B x.h.pages) (p:Int):PinL B (zcs x p).h.pages:=zuA hB h _
theorem zr7 {B:Int} (hB:0<=B):∀ (l:List Int) (x:Wk) (A:Int),PinL B x.h.pages->PinL B (stGo x A l).1.h.pages
 | [],_,_,h=>h
 | i::r,x,A,h=>by
  rw [stGo];split
  · exact zr7 hB r _ A (zs3 hB h _)
  · exact PinL.nil B
theorem zr8 {B:Int} (hB:0<=B):∀ (f:Nat) (x:Wk),PinL B x.h.pages->PinL B (allV f x).1.h.pages
 | 0,_,h=>h
 | f+1,x,h=>by
  unfold allV;split
  · exact h
  · split
    · exact zr8 hB f _ (zr7 hB _ x _ h)
    · exact PinL.nil B
theorem zoN {B:Int} (hB:0<=B):∀ (rs:List Int) (x:Wk) (acc:List Int),PinL B x.h.pages->PinL B (zaJ x acc rs).1.h.pages
 | [],_,_,h=>h
 | r::rs,x,acc,h=>by
  rw [zaJ];split
  · exact zoN hB rs _ _ (zuA hB h r)
  · exact PinL.nil B
theorem zuB {B:Int} {h:Hp} (hp:PinL B h.pages):PinL B (zbX h).h.pages:=fun g hg=>by
 obtain ⟨f,hf,rfl⟩:=qay.1 (show g∈List.map _ h.pages from hg)
 have:=hp f hf
 split <;> exact this
theorem zlf:∀ (l:List Int) (x:Wk),(l.foldl zau x).h.pages=x.h.pages/\(l.foldl zau x).h.pw=x.h.pw/\(l.foldl zau x).h.np=x.h.np
 | [],_=>⟨rfl,rfl,rfl⟩
 | a::l,x=>by
  obtain ⟨e1,e2,e3⟩:=zlf l (zau x a);obtain ⟨f1,f2,f3,-⟩:=zjo x a;exact ⟨e1.trans f3,e2.trans f1,e3.trans f2⟩
theorem znr {B:Int} (hB:0<=B) {x:Wk} (h:PinL B x.h.pages):∀ k,PinL B (frPs x k)
 | 0=>h
 | k+1=>by
  rw [frPs];split
  · exact (znr hB h k).set ⟨qb4 _,hB⟩ k
  · exact znr hB h k
theorem zwX (n:Nat):0<=tgtV n/\tgtV n<18446744073709551616:=by
 unfold tgtV;split
 · rename_i h;have:=zoT h
   omega
 · omega
theorem evA_in {h:Hp} {x:Wk} (I:Inv h x) {a:Int} (ha:0<=a/\a<18446744073709551616) (he:evE x a=0):0<=evA x a/\evA x a<18446744073709551616:=by
 have I2:=(I.forward he).1;unfold evA;split
 · exact ha
 · exact zwX _
 · exact ha
 · exact ha
 · rename_i h7;have hq:plA x (evN x a)∈(evW x a).queue:=by
    have e:evW x a=zbA x a:=by unfold evW;rw [h7];rfl
    rw [e];exact qbm _ (qau.2 rfl)
   have:=I2.queue_bd hq
   omega
 · omega
theorem zr4 {h:Hp}:∀ (rs:List Int) (x:Wk) (acc:List Int),Inv h x->WB rs->WB acc->WB (zaJ x acc rs).2.1
 | [],_,_,_,_,h=>h
 | r::rs,x,acc,I,hl,ha=>by
  rw [zaJ];by_cases he:evE x r=0
  · rw [if_pos he];refine zr4 rs _ _ (I.forward he).1 (fun q hq=>hl q (qaD _ hq)) (fun q hq=>?_)
    rcases qao.1 hq with h1 | h1
    · exact ha q h1
    · rw [qau.1 h1];exact evA_in I (hl r (qaX ..)) he
  · rw [if_neg he];exact WB.nil
theorem zn4:zjz:=by
 intro n x hn hm L hc;have hE:okH x.h=true/\(ziM x.h x.st).2.2=0/\(zhC x.h x.st).2=0:=by
  unfold zet at hc;split at hc
  · rename_i h1;split at hc
    · split at hc
      · rename_i h3;exact ⟨h1,h3,hc⟩
      · rename_i h3;exact absurd hc h3
    · exact absurd hc (by decide)
  · exact absurd hc (by decide)
 obtain ⟨h1,h2,h3⟩:=hE;obtain ⟨-,hr⟩:=znk x.st (zbX x.h) [] (zhD h1) L.st;obtain ⟨I7,L7,e7⟩:=hr h2;have hsc7:(zaJ (zbX x.h) [] x.st).1.sc=((0:Nat):Int):=L7.sc
 obtain ⟨-,ha⟩:=zvy ((zaf x.h).length+1) (zaJ (zbX x.h) [] x.st).1 0 I7 hsc7 (qa8 _) (by omega)
 have I8:Inv x.h (zhC x.h x.st).1:=ha h3;have I9:Inv x.h (zbM x.h x.st x.wk):=I8.reports _ _ _ _ _ _ _;have hB:(0:Int)<=n:=by omega
 have p8:PinL n (zhC x.h x.st).1.h.pages:=zr8 hB _ _ (zoN hB _ _ _ (zuB L.pins));obtain ⟨f1,f2,f3⟩:=zlf (zbM x.h x.st x.wk).old (zbM x.h x.st x.wk);have hfl:=I9.fill;have hpl:(zaG (zbM x.h x.st x.wk)).h.pages.length=x.h.pages.length:=by
  rw [show (zaG (zbM x.h x.st x.wk)).h.pages=(zbM x.h x.st x.wk).h.pages from f1];exact I9.pl
 have hpw:(zaG (zbM x.h x.st x.wk)).h.pw=x.h.pw:=(show (zaG (zbM x.h x.st x.wk)).h.pw=(zbM x.h x.st x.wk).h.pw from f2).trans I9.pw
 have hnp:(zaG (zbM x.h x.st x.wk)).h.np=x.h.np:=(show (zaG (zbM x.h x.st x.wk)).h.np=(zbM x.h x.st x.wk).h.np from f3).trans I9.np
 have hcf:=zal L.conf;have hfw:=zhq (zaG (zbM x.h x.st x.wk)) (by rw [hpw];omega) (by rw [hfl,hpl,hpw,L.pages];exact L.words) (zaG (zbM x.h x.st x.wk)).h.pages.length (qan _)
 refine ⟨?_,?_,?_,?_,fun a ha=>?_,?_,?_,?_⟩
 · show confB (zaG (zbM x.h x.st x.wk)).h.pw (zaG (zbM x.h x.st x.wk)).h.np=true
   rw [hpw,hnp];exact L.conf
 · show ((frWs (zaG (zbM x.h x.st x.wk)) (zaG (zbM x.h x.st x.wk)).h.pages.length).length:Int)=(zaG (zbM x.h x.st x.wk)).h.np*(zaG (zbM x.h x.st x.wk)).h.pw
   rw [hfw,hfl,hpw,hnp];exact L.words
 · show ((frPs (zaG (zbM x.h x.st x.wk)) (zaG (zbM x.h x.st x.wk)).h.pages.length).length:Int)=(zaG (zbM x.h x.st x.wk)).h.np
   rw [zhr,hpl,hnp];exact L.pages
 · exact zr4 x.st (zbX x.h) [] (zhD h1) L.st WB.nil
 · obtain ⟨b,hb,rfl⟩:=qay.1 ha;have hbb:=L.wk b hb;unfold zf7 zhF;split
   · omega
   · split
     · exact hbb
     · exact zwX _
 · have:=L.stn
   show (zaJ (zbX x.h) [] x.st).2.1.length<=_
   rw [e7];simp;omega
 · have:=L.wkn
   show (List.map _ x.wk).length<=_
   rw [qak];omega
 · intro g hg;have:=znr hB (x:=zaG (zbM x.h x.st x.wk)) (by rw [show (zaG (zbM x.h x.st x.wk)).h.pages=(zbM x.h x.st x.wk).h.pages from f1];exact p8) _ g hg
   omega
theorem zuT {pw n:Int} (h1:16<=pw) (h2:pw<=64) (h3:pw / 4<n) (h4:n<=4*pw):zeL pw n=(n+pw-1) / pw:=by
 have hd:∀ k:Int,(k-1)*pw<n->n<=k*pw->(n+pw-1) / pw=k:=by
  intro k a b;have e1:(k-1)*pw=k*pw-pw:=by rw [Int.sub_mul,qbl]
  have e2:(n+pw-1)=(n+pw-1-k*pw)+k*pw:=by omega
  rw [e2,qct _ _ (by omega),qcE (by omega) (by omega)];omega
 unfold zeL;rw [if_neg (by omega)]
 split
 · rw [hd 1 (by omega) (by omega)]
 · split
   · rw [hd 2 (by omega) (by omega)]
   · split
     · rw [hd 3 (by omega) (by omega)]
     · rw [hd 4 (by omega) (by omega)]
def zcI (n:Int):Bool:=decide (n=0\/n=1)
def zpD (x:Pg):Bool:=decide (x.space=0/\x.used=0/\x.pins=0)
def zc1 (pw:Int) (x:Pg):Bool:=zcI x.space&&decide (0<=x.used/\x.used<=pw)&&zea x.pins
def zbK (pw np:Int) (ps:List Pg):Nat->Int->Bool
 | 0,_=>false
 | m+1,b=>if (ps.getD m Pg.zero).kind=2 then decide (b<zax pw np (ps.getD m Pg.zero).used) else zbK pw np ps m (b+1)
def zfo (pw np:Int) (ps:List Pg) (i:Nat):Bool:=zbK pw np ps i 1
def zdZ (pw np:Int) (ps:List Pg) (i:Nat) (x:Pg):Bool:=decide (x.used=0/\x.pins=0)&&zfo pw np ps i
def zcq (pw np:Int) (ps:List Pg) (i:Nat) (x:Pg):Bool :=
 zcI x.space&&decide (1<=zax pw np x.used)&&zea x.pins&&decide ((i:Int)+zax pw np x.used<=ps.length)&&zbF x.space ((ps.drop (i+1)).take ((zax pw np x.used).toNat-1))
def zbr (pw np:Int) (ps:List Pg) (i:Nat) (x:Pg):Bool :=
 if x.kind=0 then zpD x else if x.kind=1 then zc1 pw x else if x.kind=2 then zcq pw np ps i x else if x.kind=3 then zdZ pw np ps i x else false
def zaO (pw np:Int) (ps:List Pg):Nat->List Pg->Bool
 | _,[]=>true
 | i,x::r=>zbr pw np ps i x&&zaO pw np ps (i+1) r
def zbi (pw np:Int) (ps:List Pg):Bool:=zaO pw np ps 0 ps
theorem zsQ {pw np:Int} {ps:List Pg} {i:Nat} {x:Pg} (h:ps[i]?=some x):zaO pw np ps i (ps.drop i)=(zbr pw np ps i x&&zaO pw np ps (i+1) (ps.drop (i+1))):=by
 obtain ⟨hi,rfl⟩:=qah.1 h;rw [qaU hi,zaO]
theorem zui {pw np:Int} {ps:List Pg} {i:Nat} (h:ps.length<=i):zaO pw np ps i (ps.drop i)=true:=by
 rw [qbn h,zaO]
def zih (pw np:Int) (nw:Nat) (ps:List Pg) (sp b:Int):Bool :=
 confB pw np&&decide ((nw:Int)=np*pw)&&decide ((ps.length:Int)=np)&&zcI sp&&zdV ps b&&zbi pw np ps
theorem zr6 {ps:List Pg} {i k:Nat} {x y:Pg} (h:i+k<=ps.length) (h1:1<=k):(put ps i k y).set i x=put (ps.set i x) (i+1) (k-1) y:=by
 have hl:(ps.set i x).length=ps.length:=List.length_set
 apply qbj
 intro j;rw [qaO];have hp:(put ps i k y).length=ps.length:=zd8 h
 by_cases hj:i=j
 · rw [if_pos hj,if_pos (by omega),zdo (by omega) (Or.inr (by omega)),qaO,if_pos hj,if_pos (by omega)]
 · rw [if_neg hj];by_cases h2:i+1<=j/\j<i+k
   · rw [zky h (by omega) (by omega),zky (by omega) h2.1 (by omega)]
   · rw [zdo h (by omega),zdo (by omega) (by omega),qaO,if_neg hj]
theorem zeC {sp:Int}:zcI sp=true↔0<=sp/\sp<=1:=by
 unfold zcI;rw [qaa];omega
theorem zgY (pw np:Int) (ps:List Pg):∀ (l:List Pg) (i:Nat),zaO pw np ps i l=true↔∀ j x,l[j]?=some x->zbr pw np ps (i+j) x=true
 | [],i=>by simp [zaO]
 | y::r,i=>by
  rw [zaO,qae,zgY pw np ps r (i+1)];constructor
  · rintro ⟨h1,h2⟩ j x hx;cases j with
    | zero=>simp at hx;subst hx;exact h1
    | succ j=>rw [qbZ]at hx;have:=h2 j x hx;rwa [show i+1+j=i+(j+1) by omega]at this
  · intro h;refine ⟨h 0 y rfl,fun j x hx=>?_⟩
    have:=h (j+1) x (by rw [qbZ];exact hx)
    rwa [show i+(j+1)=i+1+j by omega]at this
theorem za8 {pw np:Int} {ps:List Pg}:zbi pw np ps=true↔∀ i x,ps[i]?=some x->zbr pw np ps i x=true:=by
 unfold zbi;rw [zgY];simp only [qaY]
theorem zb0 {sp:Int} {ps:List Pg} {i m:Nat}:zbF sp ((ps.drop i).take m)=true↔∀ t,i<=t->t<i+m->∀ z,ps[t]?=some z->z.kind=3/\z.space=sp:=by
 unfold zbF;rw [qaQ];constructor
 · intro h t h1 h2 z hz;have hm:z∈(ps.drop i).take m:=by
    refine qaw (i:=t-i) ?_
    rw [qa5,if_pos (by omega),qa6,show i+(t-i)=t by omega];exact hz
   exact qas (h z hm)
 · intro h z hz;obtain ⟨j,hj⟩:=List.getElem?_of_mem hz;rw [qa5]at hj;split at hj
   · rename_i hjm;rw [qa6]at hj;exact qab (h (i+j) (by omega) (by omega) z hj)
   · cases hj
theorem zcL (pw np:Int) (ps:List Pg):∀ (t:Nat) (b:Int),zbK pw np ps t b=true↔∃ l,l<t/\(ps.getD l Pg.zero).kind=2/\(∀ m,l<m->m<t->¬(ps.getD m Pg.zero).kind=2)/\b+(t-1-l:Int)<zax pw np (ps.getD l Pg.zero).used
 | 0,b=>by
  rw [zbK];constructor
  · intro h;cases h
  · rintro ⟨l,h,-⟩;omega
 | t+1,b=>by
  rw [zbK];by_cases h2:(ps.getD t Pg.zero).kind=2
  · rw [if_pos h2];constructor
    · intro h;have:=qas h
      exact ⟨t,by omega,h2,fun m a c=>by omega,by omega⟩
    · rintro ⟨l,h3,h4,h5,h6⟩;by_cases hl:l=t
      · subst hl;exact qab (by omega)
      · exact absurd h2 (h5 t (by omega) (by omega))
  · rw [if_neg h2,zcL pw np ps t (b+1)];constructor
    · rintro ⟨l,h3,h4,h5,h6⟩;refine ⟨l,by omega,h4,fun m a c=>?_,by omega⟩
      by_cases hm:m=t
      · subst hm;exact h2
      · exact h5 m a (by omega)
    · rintro ⟨l,h3,h4,h5,h6⟩;have hl:l≠t:=fun e=>h2 (e ▸ h4)
      exact ⟨l,by omega,h4,fun m a c=>h5 m a (by omega),by omega⟩
theorem zkn {pw np:Int} {ps:List Pg} {j:Nat} {x y:Pg} (h:zbi pw np ps=true) (hy:ps[j]?=some y) (hk:y.kind=0\/y.kind=1) (hx:x.kind=1) (hs:zc1 pw x=true):zbi pw np (ps.set j x)=true:=by
 rw [za8]at h ⊢
 have hjl:=(qah.1 hy).1;have hget:∀ t,(ps.set j x)[t]?=if j=t then some x else ps[t]?:=fun t=>by
  rw [qaO];by_cases e:j=t
  · subst e;rw [if_pos rfl,if_pos rfl,if_pos hjl]
  · rw [if_neg e,if_neg e]
 have hD:∀ t,¬j=t->(ps.set j x).getD t Pg.zero=ps.getD t Pg.zero:=fun t ht=>by rw [qaA,qaA,hget,if_neg ht]
 have hDj:(ps.set j x).getD j Pg.zero=x:=zaq (by rw [hget,if_pos rfl])
 have hDy:ps.getD j Pg.zero=y:=zaq hy
 have hk2:∀ t,(((ps.set j x).getD t Pg.zero).kind=2↔(ps.getD t Pg.zero).kind=2):=fun t=>by
  by_cases ht:j=t
  · subst ht;rw [hDj,hDy];constructor <;> intro c <;> omega
  · rw [hD t ht]
 intro i z hz;rw [hget]at hz;split at hz
 · cases hz;unfold zbr;rw [if_neg (by omega),if_pos hx]
   exact hs
 · rename_i hji;have hp:=h i z hz;unfold zbr at hp ⊢
   split
   · rename_i k0;rw [if_pos k0]at hp;exact hp
   · rename_i k0;rw [if_neg k0]at hp;split
     · rename_i k1;rw [if_pos k1]at hp;exact hp
     · rename_i k1;rw [if_neg k1]at hp;split
       · rename_i k2;rw [if_pos k2]at hp;unfold zcq at hp ⊢
         rw [List.length_set];rw [qae]at hp ⊢
         refine ⟨hp.1,?_⟩;rw [zb0] at *
         intro t h1 h2 z' hz'
         rw [hget]at hz'
         split at hz'
         · rename_i e;subst e;have:=hp.2 j h1 h2 y hy
           omega
         · exact hp.2 t h1 h2 z' hz'
       · rename_i k2;rw [if_neg k2]at hp;split
         · rename_i k3;rw [if_pos k3]at hp;unfold zdZ zfo at hp ⊢
           rw [qae]at hp ⊢
           refine ⟨hp.1,?_⟩;obtain ⟨l,h1,h2,h3,h4⟩:=(zcL pw np ps i 1).1 hp.2;have hlj:¬j=l:=fun e=>by subst e;rw [hDy]at h2;omega
           exact (zcL pw np _ i 1).2 ⟨l,h1,(hk2 l).2 h2,fun m a c hh=>h3 m a c ((hk2 m).1 hh),by rw [hD l hlj];exact h4⟩
         · rename_i k3;rw [if_neg k3]at hp;cases hp
theorem zqp {pw np:Int} {ps:List Pg} {i k:Nat} {sp n:Int} (h:zbi pw np ps=true) (hf:zcr ps i k=true) (hl:i+k<=ps.length) (h1:1<=k) (hs:zcI sp=true) (hn:zax pw np n=k) :
 zbi pw np (put (ps.set i ⟨2,sp,n,0⟩) (i+1) (k-1) ⟨3,sp,0,0⟩)=true:=by
 rw [za8]at h ⊢
 have hfree:∀ t,i<=t->t<i+k->∀ z,ps[t]?=some z->z.kind=0:=fun t a c z hz=>by
  have hz':z∈(ps.drop i).take k:=by
   refine qaw (i:=t-i) ?_
   rw [qa5,if_pos (by omega),qa6,show i+(t-i)=t by omega];exact hz
  unfold zcr at hf;exact qas (qaQ.1 hf z hz')
 obtain ⟨qs,hqs⟩:∃ qs,put (ps.set i ⟨2,sp,n,0⟩) (i+1) (k-1) ⟨3,sp,0,0⟩=qs:=⟨_,rfl⟩
 rw [hqs];have hql:qs.length=ps.length:=by rw [<-hqs,zd8 (by rw [List.length_set];omega),List.length_set]
 have hget:∀ t,qs[t]?=if t=i then some ⟨2,sp,n,0⟩ else if i<=t/\t<i+k then some ⟨3,sp,0,0⟩ else ps[t]?:=fun t=>by
  rw [<-hqs];split
  · rename_i e;subst e;rw [zdo (by rw [List.length_set];omega) (Or.inr (by omega)),qaO,if_pos rfl,if_pos (by omega)]
  · rename_i e;split
    · rename_i hr;rw [zky (by rw [List.length_set];omega) (by omega) (by omega)]
    · rw [zdo (by rw [List.length_set];omega) (by omega),qaO,if_neg (by omega)]
 have hin:∀ t,i<=t->t<i+k->∃ z,ps[t]?=some z:=fun t a c=>⟨_,qal (show t<ps.length by omega)⟩
 have hD:∀ t,¬(i<=t/\t<i+k)->qs.getD t Pg.zero=ps.getD t Pg.zero:=fun t ht=>by rw [qaA,qaA,hget,if_neg (by omega),if_neg ht]
 have hDi:qs.getD i Pg.zero=⟨2,sp,n,0⟩:=zaq (by rw [hget,if_pos rfl])
 have hDt:∀ t,i<t->t<i+k->qs.getD t Pg.zero=⟨3,sp,0,0⟩:=fun t a c=>zaq (by rw [hget,if_neg (by omega),if_pos ⟨by omega,c⟩])
 have hD0:∀ t,i<=t->t<i+k->(ps.getD t Pg.zero).kind=0:=fun t a c=>by
  obtain ⟨z,hz⟩:=hin t a c;rw [zaq hz];exact hfree t a c z hz
 intro t z hz;rw [hget]at hz;split at hz
 · rename_i e;subst e;cases hz;unfold zbr;rw [if_neg (show ¬(2:Int)=0 by decide),if_neg (show ¬(2:Int)=1 by decide),if_pos rfl]
   unfold zcq;simp only
   rw [hs,hn,hql,qab (show (1:Int)<=k by omega),qab (show (t:Int)+k<=ps.length by omega),show zea 0=true from rfl,qaR,qaR,qaR,qaR,zb0]
   intro u a c z hz;rw [hget,if_neg (by omega),if_pos (by omega)]at hz
   cases hz;exact ⟨rfl,rfl⟩
 · rename_i e;split at hz
   · rename_i hr;cases hz;unfold zbr;rw [if_neg (show ¬(3:Int)=0 by decide),if_neg (show ¬(3:Int)=1 by decide),if_neg (show ¬(3:Int)=2 by decide),if_pos rfl]
     unfold zdZ zfo;rw [show decide ((0:Int)=0/\(0:Int)=0)=true from rfl,qaR,zcL]
     refine ⟨i,by omega,by rw [hDi],fun m a c=>?_,?_⟩
     · rw [hDt m a (by omega)];simp
     · rw [hDi];simp only;rw [hn];omega
   · rename_i hr;have hp:=h t z hz;unfold zbr at hp ⊢
     split
     · rename_i k0;rw [if_pos k0]at hp;exact hp
     · rename_i k0;rw [if_neg k0]at hp;split
       · rename_i k1;rw [if_pos k1]at hp;exact hp
       · rename_i k1;rw [if_neg k1]at hp;split
         · rename_i k2;rw [if_pos k2]at hp;unfold zcq at hp ⊢
           rw [hql];rw [qae]at hp ⊢
           refine ⟨hp.1,?_⟩;rw [zb0] at *
           intro u a c z' hz'
           by_cases hu:i<=u/\u<i+k
           · obtain ⟨y,hy⟩:=hin u hu.1 hu.2;have h3:=(hp.2 u a c y hy).1;have h0:=hfree u hu.1 hu.2 y hy;omega
           · rw [hget,if_neg (by omega),if_neg hu]at hz'
             exact hp.2 u a c z' hz'
         · rename_i k2;rw [if_neg k2]at hp;split
           · rename_i k3;rw [if_pos k3]at hp;unfold zdZ zfo at hp ⊢
             rw [qae]at hp ⊢
             refine ⟨hp.1,?_⟩;obtain ⟨l,h2,h3,h4,h5⟩:=(zcL pw np ps t 1).1 hp.2;have hlo:¬(i<=l/\l<i+k):=fun c=>by have:=hD0 l c.1 c.2;omega
             have htl:t<ps.length:=(qah.1 hz).1;have hlz:ps[l]?=some (ps[l]'(by omega)):=qal _
             have hpl:=h l _ hlz;rw [zaq hlz]at h3 h5;unfold zbr at hpl;rw [if_neg (by omega),if_neg (by omega),if_pos h3]at hpl
             unfold zcq at hpl;rw [qae,zb0]at hpl;have hnot:∀ m,l<m->m<t->¬(i<=m/\m<i+k):=fun m a c hc=>by
              obtain ⟨y,hy⟩:=hin m hc.1 hc.2;have q3:=(hpl.2 m (by omega) (by omega) y hy).1
              have q0:=hfree m hc.1 hc.2 y hy;omega
             refine (zcL pw np qs t 1).2 ⟨l,h2,by rw [hD l hlo,zaq hlz];exact h3,fun m a c=>by rw [hD m (hnot m a c)];exact h4 m a c,by rw [hD l hlo,zaq hlz];exact h5⟩
           · rename_i k3;rw [if_neg k3]at hp;cases hp
theorem zg4 (pw np:Int) (ps:List Pg):∀ (i:Nat) (b:Int),1<=b->(zbK pw np ps i b=true↔b<=zfb pw np ps i)
 | 0,b,hb=>by
  rw [zbK,zfb];constructor
  · intro h;cases h
  · intro h;omega
 | i+1,b,hb=>by
  rw [zbK,zfb];by_cases h2:(ps.getD i Pg.zero).kind=2
  · rw [if_pos h2,if_pos h2,qaa];omega
  · rw [if_neg h2,if_neg h2,zg4 pw np ps i (b+1) (by omega)];omega
theorem zko {pw np:Int} {ps:List Pg} (h:zaK pw np ps 0=true):zbi pw np ps=true:=by
 rw [za8];intro i x hx;have hi:i<ps.length:=(qah.1 hx).1;have hp:=zkC h i (by omega)
 obtain ⟨_,rfl⟩:=qah.1 hx;rw [qaU hi,zaK]at hp;generalize hX:ps[i]=x at *
 cases hs:zcc pw np x (ps.drop (i+1)) (zfb pw np ps i) with
 | none=>rw [hs]at hp;cases hp
 | some d=>
  unfold zcc at hs;split at hs
  · cases hs
  · rename_i hA;have hsp:zcI x.space=true:=zeC.2 ⟨by omega,by omega⟩
    have hpn:zea x.pins=true:=by
     cases hp':zea x.pins
     · exact absurd (Or.inr (Or.inr (Or.inr hp'))) hA
     · rfl
    unfold zbr;split
    · rename_i k0;rw [if_pos k0]at hs;split at hs
      · rename_i e;rw [e];rfl
      · cases hs
    · rename_i k0;rw [if_neg k0]at hs;split
      · rename_i k1;rw [if_pos k1]at hs;split at hs
        · cases hs
        · unfold zc1;rw [hsp,hpn,qab (show 0<=x.used/\x.used<=pw by omega)];rfl
      · rename_i k1;rw [if_neg k1]at hs;split
        · rename_i k2;rw [if_pos k2]at hs;split at hs
          · cases hs
          · rename_i hB;have hn1:1<=zax pw np x.used:=by omega
            obtain ⟨t1,t2⟩:=(zj1 x.space (ps.drop (i+1)) ((zax pw np x.used).toNat-1)).1 (by omega)
            rw [qaL]at t1;unfold zcq;rw [hsp,hpn,qab hn1,qab (show (i:Int)+zax pw np x.used<=ps.length by omega),t2];rfl
        · rename_i k2;rw [if_neg k2]at hs;split
          · rename_i k3;rw [if_pos k3]at hs;split at hs
            · rename_i e;unfold zdZ;rw [qab e,qaR];unfold zfo;rw [zg4 pw np ps i 1 (by omega)]
              have:x.kind=3↔0<zfb pw np ps i:=Classical.not_not.1 fun c=>hA (Or.inl c)
              have:=this.1 k3
              omega
            · cases hs
          · rename_i k3;rw [if_neg k3]at hs;cases hs
theorem zfg {pw np:Int} {ps:List Pg} (h:zbi pw np ps=true):∀ (k i:Nat),i+k=ps.length->zaK pw np (ps.drop i) (zfb pw np ps i)=true
 | 0,i,hi=>by rw [qbq (by omega)];rfl
 | k+1,i,hi=>by
  have ih:=zfg h k (i+1) (by omega)
  have hlt:i<ps.length:=by omega
  have hx:ps[i]?=some (ps[i]'hlt):=qal _
  rw [za8]at h;have hp:=h i _ hx;rw [qaU hlt,zaK];generalize ps[i]'hlt=x at *
  have hdue:0<zfb pw np ps i->x.kind=3/\0<=x.space/\x.space<=1:=fun hd=>by
   obtain ⟨l,h1,h2,-,h4⟩:=(zcL pw np ps i 1).1 ((zg4 pw np ps i 1 (by omega)).2 (by omega))
   have hl:ps[l]?=some (ps[l]'(by omega)):=qal _
   have hpl:=h l _ hl;rw [zaq hl]at h2 h4;unfold zbr at hpl;rw [if_neg (by omega),if_neg (by omega),if_pos h2]at hpl
   unfold zcq at hpl;simp only [qae]at hpl;have ht:=(zb0.1 hpl.2) i (by omega) (by omega) x hx
   have hs:=zeC.1 hpl.1.1.1.1;exact ⟨ht.1,by omega,by omega⟩
  have key:zcc pw np x (ps.drop (i+1)) (zfb pw np ps i)≠none:=by
   have h3:x.kind=3->0<zfb pw np ps i/\x.used=0/\x.pins=0:=fun k3=>by
    unfold zbr at hp;rw [if_neg (by omega),if_neg (by omega),if_neg (by omega),if_pos k3]at hp
    unfold zdZ at hp;rw [qae,qaa]at hp;have:=(zg4 pw np ps i 1 (by omega)).1 hp.2
    exact ⟨by omega,hp.1⟩
   have hiff:x.kind=3↔0<zfb pw np ps i:=⟨fun k=>(h3 k).1,fun d=>(hdue d).1⟩
   unfold zbr at hp;unfold zcc;split at hp
   · rename_i k0;obtain ⟨a1,a2,a3⟩:=qas hp;have ex:x=Pg.zero:=by cases x;simp only at k0 a1 a2 a3;subst k0 a1 a2 a3;rfl
     rw [if_neg (by rw [a1,a3];rintro (c | c | c | c);exact c hiff;omega;omega;cases c),if_pos k0,if_pos ex]
     exact fun c=>by cases c
   · rename_i k0;split at hp
     · rename_i k1;unfold zc1 at hp;simp only [qae,qaa]at hp;have hs:=zeC.1 hp.1.1;rw [if_neg (by rintro (c | c | c | c);exact c hiff;omega;omega;rw [hp.2]at c;cases c),if_neg k0,if_pos k1,if_neg (by omega)]
       exact fun c=>by cases c
     · rename_i k1;split at hp
       · rename_i k2;unfold zcq at hp;simp only [qae,qaa]at hp;obtain ⟨⟨⟨⟨a1,a2⟩,a3⟩,a4⟩,a5⟩:=hp;have hs:=zeC.1 a1;have ht:=(zj1 x.space (ps.drop (i+1)) ((zax pw np x.used).toNat-1)).2 ⟨by rw [qaL];omega,a5⟩
         rw [if_neg (by rintro (c | c | c | c);exact c hiff;omega;omega;rw [a3]at c;cases c),if_neg k0,if_neg k1,if_pos k2,if_neg (by omega)]
         exact fun c=>by cases c
       · rename_i k2;split at hp
         · rename_i k3;obtain ⟨b1,b2,b3⟩:=h3 k3;obtain ⟨-,c1,c2⟩:=hdue b1;rw [if_neg (by rw [b3];rintro (c | c | c | c);exact c hiff;omega;omega;cases c),if_neg k0,if_neg k1,if_neg k2,if_pos k3,if_pos ⟨b2,b3⟩]
           exact fun c=>by cases c
         · cases hp
  cases hs:zcc pw np x (ps.drop (i+1)) (zfb pw np ps i) with
  | none=>exact absurd hs key
  | some d=>
   simp only
   rw [zsA hx hs];exact ih
theorem zji (pw np:Int) (ps:List Pg):zaK pw np ps 0=zbi pw np ps:=by
 cases h:zbi pw np ps
 · cases h2:zaK pw np ps 0
   · rfl
   · rw [zko h2]at h;cases h
 · have:=zfg h ps.length 0 (by omega)
   rwa [qca]at this
theorem zce (pw np:Int) (nw:Nat) (ps:List Pg) (sp b:Int):zih pw np nw ps sp b=zc2 pw np nw ps sp b:=by
 unfold zih zc2;rw [zji];have:zcI sp=decide (0<=sp/\sp<=1):=by
  unfold zcI;by_cases h:0<=sp/\sp<=1
  · rw [qab h];exact qab (by omega)
  · rw [qaj h];exact qaj (by omega)
 rw [this]
theorem zvu {pw np k n m:Int} (h:k=0):ziP pw np k n m=false:=by
 unfold ziP;simp [h]
theorem zvv {pw np k n m:Int} (h:¬k=0):ziP pw np k n m=(zax pw np (zaU k n m) != -1):=by
 unfold ziP;cases hv:zaC k n m
 · rw [zqs hv,zgE (Or.inr (by omega))];rfl
 · by_cases hz:zax pw np (zaU k n m) = -1 <;> simp [h,hz]
structure PlOK7 (h:Hp):Prop where
 conf:confB h.pw h.np=true
 len:(h.pages.length:Int)=h.np
 sp:0<=h.space/\h.space<=1
 bp:h.bump = -1\/∃ K:Nat,∃ x:Pg,h.bump=K/\h.pages[K]?=some x/\x.kind=1/\0<=x.used/\x.used<=h.pw
theorem PlOK7.bump {h:Hp} (hp:PlOK7 h):(h.bump = -1\/0<=h.bump/\h.bump<h.pages.length)/\(¬h.bump = -1->0<=(h.pages.getD h.bump.toNat Pg.zero).used/\(h.pages.getD h.bump.toNat Pg.zero).used<=100000):=by
 obtain ⟨_,k2,_⟩:=zal hp.conf;rcases hp.bp with h1 | ⟨K,x,h1,h2,-,h3,h4⟩
 · exact ⟨Or.inl h1,fun c=>absurd h1 c⟩
 · have:=(qah.1 h2).1
   rw [h1,qad,zaq h2];exact ⟨Or.inr ⟨by omega,by omega⟩,fun _=>⟨h3,by omega⟩⟩
theorem zfI {pw np:Int} {K:Nat} {o:Int} (hc:confB pw np=true) (hk:(K:Int)<np) (h0:0<=o) (h1:o<pw):zlx pw np K o=0/\zba pw np K o=4096+K*pw+o:=by
 obtain ⟨a,b⟩:=zee hc (p:=(K:Int)) (o:=o) (qab ⟨by omega,hk,h0,h1⟩)
 exact ⟨b,a⟩
theorem zmB {h:Hp} {nn:Int} (hp:PlOK7 h) (h1:1<=nn) (hn:newB h nn=false) :
 ∃ (K:Nat) (x:Pg),h.bump=K/\h.pages[K]?=some x/\(0<=x.used/\x.used<=100000)/\zb3 h nn=true/\zjg h nn=⟨h.pw,h.np,h.words,h.pages.set K ⟨x.kind,x.space,x.used+nn,x.pins⟩,h.space,K⟩/\zlx h.pw h.np K x.used=0/\zgZ h nn=zba h.pw h.np K x.used:=by
 have hd:=qa7 hn;obtain ⟨_,k2,_⟩:=zal hp.conf;rcases hp.bp with h2 | ⟨K,x,h2,h3,-,h4,h5⟩
 · exact absurd (Or.inl (by omega)) hd
 · have hK:=(qah.1 h3).1;have hbp:zjr h=x:=by unfold zjr;rw [h2,qad,zaq h3]
   have hl:=hp.len;rw [hbp]at hd;obtain ⟨a,b⟩:=zfI (K:=K) (o:=x.used) hp.conf (by omega) h4 (by omega)
   have hJ:ze2 h nn=K:=by unfold ze2;rw [hn];exact h2
   have hP:zbJ h nn=h.pages:=by unfold zbJ;rw [hn];rfl
   refine ⟨K,x,h2,h3,⟨h4,by omega⟩,by unfold zb3;rw [hn];rfl,?_,a,?_⟩
   · unfold zjg zf2;rw [hJ,hP,qad,zaq h3]
   · unfold zgZ;rw [hJ,hP,qad,zaq h3,b]
theorem zoK {h:Hp} {nn:Int} (hp:PlOK7 h) (hn:newB h nn=true) (hf:zdF h=false) :
 ∃ (K:Nat),zaB h.pages 1=K/\K<h.pages.length/\zid h.pages K h.space=0/\zcJ h.pages K h.space=h.pages.set K ⟨1,h.space,0,0⟩/\(∃ y,h.pages[K]?=some y/\y.kind=0)/\zb3 h nn=true/\zjg h nn=⟨h.pw,h.np,h.words,(h.pages.set K ⟨1,h.space,0,0⟩).set K ⟨1,h.space,0+nn,0⟩,h.space,K⟩/\zlx h.pw h.np K 0=0/\zgZ h nn=zba h.pw h.np K 0:=by
 have hd:=qa7 hf;have hF:0<=zaB h.pages 1:=by omega
 obtain ⟨-,f1,f2⟩:=zc6 hF;obtain ⟨K,hK⟩:=qaT hF;rw [hK]at f1 f2;obtain ⟨y,hy,hy0⟩:=f2 K (by omega) (by omega)
 have hlt:K<h.pages.length:=(qah.1 hy).1;have hfree:zcr h.pages K 1=true:=by
  have:=zb4 (ps:=h.pages) (i:=K) (k:=0) (x:=y) (by rw [qbd];exact hy)
  rw [zcz,hy0]at this;simpa using this
 obtain ⟨t1,t2⟩:=zia (x:=⟨1,h.space,0,0⟩) (y:=Pg.zero) hlt (show K+1<=h.pages.length by omega) hfree
 rw [zr6 (by omega) (by omega),znp]at t1
 have hps:zcJ h.pages K h.space=h.pages.set K ⟨1,h.space,0,0⟩:=by
  unfold zcJ;rw [if_pos hp.sp];exact t1
 have hpe:zid h.pages K h.space=0:=by unfold zid;rw [if_pos hp.sp];exact t2
 have hl:=hp.len;obtain ⟨k1,k2,_⟩:=zal hp.conf;obtain ⟨a,b⟩:=zfI (K:=K) (o:=0) hp.conf (by omega) (by omega) (by omega)
 have hJ:ze2 h nn=K:=by unfold ze2;rw [hn];exact hK
 have hP:zbJ h nn=h.pages.set K ⟨1,h.space,0,0⟩:=by unfold zbJ;rw [hn,if_pos rfl,hK,hps]
 have hg:(h.pages.set K ⟨1,h.space,0,0⟩)[K]?=some ⟨1,h.space,0,0⟩:=by rw [qaO,if_pos rfl,if_pos hlt]
 refine ⟨K,hK,hlt,hpe,hps,⟨y,hy,hy0⟩,by unfold zb3;rw [hn,hf];rfl,?_,a,?_⟩
 · unfold zjg zf2;rw [hJ,hP,qad,zaq hg]
 · unfold zgZ;rw [hJ,hP,qad,zaq hg,b]
theorem zs2 {h:Hp} {nn:Int} (hn:newB h nn=true) (hf:zdF h=true):zb3 h nn=false:=by
 unfold zb3;rw [hn,hf];rfl
theorem zqz {h:Hp} {n k:Int} (hp:PlOK7 h) (hk:zax h.pw h.np n=k) (h1:1<=k) (hF:0<=zaB h.pages k) :
 ∃ (K kk:Nat),k=kk/\zaB h.pages k=K/\K+kk<=h.pages.length/\zcr h.pages K kk=true/\zgG h.pw h.np h.pages K h.space n=0/\zec h.pw h.np h.pages K h.space n=put (h.pages.set K ⟨2,h.space,n,0⟩) (K+1) (kk-1) ⟨3,h.space,0,0⟩/\zlx h.pw h.np K 0=0/\zjl h k=zba h.pw h.np K 0:=by
 obtain ⟨-,f1,f2⟩:=zc6 hF;obtain ⟨K,hK⟩:=qaT hF;obtain ⟨kk,hkk⟩:=qaT (show 0<=k by omega)
 rw [hK]at f1 f2;have hfree:∀ j:Nat,j<=kk->zcr h.pages K j=true:=by
  intro j;induction j with
  | zero=>intro _;exact zcz _ _
  | succ j ih=>
   intro hj;obtain ⟨y,hy,hy0⟩:=f2 (K+j) (by omega) (by omega)
   rw [zb4 hy,ih (by omega),hy0];rfl
 have hl:=hp.len;obtain ⟨k1,k2,_⟩:=zal hp.conf;obtain ⟨a,b⟩:=zfI (K:=K) (o:=0) hp.conf (by omega) (by omega) (by omega)
 obtain ⟨t1,t2⟩:=zia (x:=⟨2,h.space,n,0⟩) (y:=⟨3,h.space,0,0⟩) (show K<h.pages.length by omega) (show K+kk<=h.pages.length by omega) (hfree kk (qan _))
 rw [zr6 (by omega) (by omega)]at t1
 obtain ⟨e1,e2⟩:=zu2 (ps:=h.pages) (i:=(K:Int)) (show 1<=zax h.pw h.np n/\0<=h.space/\h.space<=1 from ⟨by omega,hp.sp⟩)
 refine ⟨K,kk,hkk,hK,by omega,hfree kk (qan _),?_,?_,a,?_⟩
 · rw [e2,hk,hkk];exact t2
 · rw [e1,hk,hkk];exact t1
 · unfold zjl;rw [hK,b];omega
def zdp (h:Hp) (n:Int):Bool:=if 0<zax h.pw h.np n then zeO h (zax h.pw h.np n) else zb3 h n
def zbU (h:Hp) (n:Int):Hp:=if 0<zax h.pw h.np n then zk3 h n (zax h.pw h.np n) else zjg h n
def zb7 (h:Hp) (n:Int):Int:=if 0<zax h.pw h.np n then zjl h (zax h.pw h.np n) else zgZ h n
def okP (h:Hp):Bool:=zih h.pw h.np h.words.length h.pages h.space h.bump
theorem za0 {h:Hp} (hp:okP h=true):confB h.pw h.np=true/\(h.words.length:Int)=h.np*h.pw/\(h.pages.length:Int)=h.np/\zcI h.space=true/\zdV h.pages h.bump=true/\zbi h.pw h.np h.pages=true:=by
 unfold okP zih at hp;simp only [qae,qaa]at hp;obtain ⟨⟨⟨⟨⟨h1,h2⟩,h3⟩,h4⟩,h5⟩,h6⟩:=hp;exact ⟨h1,h2,h3,h4,h5,h6⟩
theorem zoU {h:Hp} (h1:confB h.pw h.np=true) (h2:(h.words.length:Int)=h.np*h.pw) (h3:(h.pages.length:Int)=h.np) (h4:zcI h.space=true) (h5:zdV h.pages h.bump=true) (h6:zbi h.pw h.np h.pages=true):okP h=true:=by
 unfold okP zih;rw [h1,qab h2,qab h3,h4,h5,h6];rfl
theorem zj3 {pw np:Int} {ps:List Pg} {K:Nat} {x:Pg} (h:zbi pw np ps=true) (hx:ps[K]?=some x) (h1:x.kind=1):zcI x.space=true/\(0<=x.used/\x.used<=pw)/\zea x.pins=true:=by
 have:=za8.1 h K x hx
 unfold zbr at this;rw [if_neg (by omega),if_pos h1]at this
 unfold zc1 at this;rw [qae,qae,qaa]at this;exact ⟨this.1.1,this.1.2,this.2⟩
theorem PlOK7.of {h:Hp} (hp:okP h=true):PlOK7 h:=by
 obtain ⟨h1,h2,h3,h4,h5,h6⟩:=za0 hp;refine ⟨h1,h3,zeC.1 h4,?_⟩;rcases qas h5 with e | ⟨e1,e2,e3⟩
 · exact Or.inl e
 · have hx:h.pages[h.bump.toNat]?=some (h.pages[h.bump.toNat]'(by omega)):=qal _
   rw [zaq hx]at e3;obtain ⟨-,hu,-⟩:=zj3 h6 hx e3;exact Or.inr ⟨h.bump.toNat,_,by omega,hx,e3,hu.1,hu.2⟩
theorem zsg {pw n:Int} (hn:0<zeL pw n):n<=zeL pw n*pw:=by
 unfold zeL at *
 split at hn
 · omega
 · rename_i h0;rw [if_neg h0];split at hn
   · rename_i h1;rw [if_pos h1];omega
   · rename_i h1;rw [if_neg h1];split at hn
     · rename_i h2;rw [if_pos h2];omega
     · rename_i h2;rw [if_neg h2];split at hn
       · rename_i h3;rw [if_pos h3];omega
       · rename_i h3;rw [if_neg h3];split at hn
         · rename_i h4;rw [if_pos h4];omega
         · omega
theorem zk0 {pw np n:Int} (hc:confB pw np=true) (h0:¬0<zax pw np n) (h1:¬zax pw np n = -1):1<=n/\n<=pw / 4:=by
 have hz:zax pw np n=0:=by have:=znN pw np n;omega
 by_cases hn:1<=n
 · rw [zgD hc hn]at hz;refine ⟨hn,?_⟩;unfold zeL at hz;split at hz
   · assumption
   · split at hz
     · omega
     · split at hz
       · omega
       · split at hz
         · omega
         · split at hz <;> omega
 · rw [zgE (Or.inr (by omega))]at hz;omega
theorem zkd {ps:List Pg} {K:Nat} {x:Pg} (h:ps[K]?=some x) (h1:x.kind=1):zdV ps K=true:=by
 have:=(qah.1 h).1
 refine qab (Or.inr ⟨by omega,by omega,?_⟩)
 rw [qad,zaq h];exact h1
theorem zfi {h:Hp} {s:Int} (hp:okP h=true) (h1:1<=s) (hn:¬zax h.pw h.np s = -1) (hok:zdp h s=true) :
 okP (zbU h s)=true/\(zbU h s).words=h.words/\(0<=zb7 h s/\zb7 h s<18446744073709551616)/\okA h.words.length (zb7 h s) s.toNat=true:=by
 obtain ⟨p1,p2,p3,p4,p5,p6⟩:=za0 hp;have hpl:=PlOK7.of hp;obtain ⟨g1,g2⟩:=conf_prod p1;obtain ⟨k1,k2,-,k4,k5⟩:=zal p1;unfold zdp at hok;unfold zbU zb7;by_cases hk:0<zax h.pw h.np s
 · rw [if_pos hk]at hok;rw [if_pos hk,if_pos hk];have hd:=qas hok;obtain ⟨K,kk,e1,e2,e3,e4,-,e6,-,e8⟩:=zqz (n:=s) hpl rfl (by omega) (show 0<=zaB h.pages (zax h.pw h.np s) by omega)
   have hH:zk3 h s (zax h.pw h.np s)={ h with pages:=put (h.pages.set K ⟨2,h.space,s,0⟩) (K+1) (kk-1) ⟨3,h.space,0,0⟩ }:=by unfold zk3;rw [e2,e6]
   have hlen:(put (h.pages.set K ⟨2,h.space,s,0⟩) (K+1) (kk-1) ⟨3,h.space,0,0⟩).length=h.pages.length:=by rw [zd8 (by rw [List.length_set];omega),List.length_set]
   obtain ⟨a1,a2⟩:=zfI (K:=K) (o:=0) p1 (by omega) (by omega) (by omega)
   have hsz:s<=zax h.pw h.np s*h.pw:=by
    have h3:=zgD p1 h1;rw [h3]at hk ⊢
    exact zsg hk
   have hmul:(K:Int)*h.pw+zax h.pw h.np s*h.pw<=h.np*h.pw:=by
    rw [<-qbr];exact qaN (by omega) (by omega)
   have hK0:0<=(K:Int)*h.pw:=qbb (by omega) (by omega)
   rw [hH,e8,a2];refine ⟨zoU p1 p2 (by simp only;rw [hlen];exact p3) p4 ?_ (zqp p6 e4 e3 (by omega) p4 e1),rfl,⟨by omega,by omega⟩,qab ⟨by omega,by omega⟩⟩
   simp only
   rcases qas p5 with e | ⟨c1,c2,c3⟩
   · exact qab (Or.inl e)
   · have hx:h.pages[h.bump.toNat]?=some (h.pages[h.bump.toNat]'(by omega)):=qal _
     rw [zaq hx]at c3;have hnf:¬(K<=h.bump.toNat/\h.bump.toNat<K+kk):=fun c=>by
      have hz':h.pages[h.bump.toNat]'(by omega)∈(h.pages.drop K).take kk:=by
       refine qaw (i:=h.bump.toNat-K) ?_
       rw [qa5,if_pos (by omega),qa6,show K+(h.bump.toNat-K)=h.bump.toNat by omega];exact hx
      unfold zcr at e4;have:=qas (qaQ.1 e4 _ hz')
      omega
     have hy:(put (h.pages.set K ⟨2,h.space,s,0⟩) (K+1) (kk-1) ⟨3,h.space,0,0⟩)[h.bump.toNat]?=some (h.pages[h.bump.toNat]'(by omega)):=by
      rw [zdo (by rw [List.length_set];omega) (by omega),qaO,if_neg (by omega)];exact hx
     have:=zkd hy c3
     rwa [show ((h.bump.toNat:Nat):Int)=h.bump by omega]at this
 · rw [if_neg hk]at hok;rw [if_neg hk,if_neg hk];obtain ⟨s1,s4⟩:=zk0 p1 hk hn;cases hnb:newB h s
   · obtain ⟨K,x,b1,b2,b3,-,b5,-,b7⟩:=zmB hpl h1 hnb;have hKl:=(qah.1 b2).1;have hx1:x.kind=1:=by
      rcases hpl.bp with e | ⟨K',x',e1,e2,e3,-⟩
      · omega
      · obtain rfl:K=K':=by omega
        rw [b2]at e2;cases e2;exact e3
     obtain ⟨u1,u2,u3⟩:=zj3 p6 b2 hx1;have hfit:x.used+s<=h.pw:=by
      have hd:=qa7 hnb;unfold zjr at hd;rw [b1,qad,zaq b2]at hd;omega
     obtain ⟨a1,a2⟩:=zfI (K:=K) (o:=x.used) p1 (by omega) (by omega) (by omega)
     have hmul:(K:Int)*h.pw+h.pw<=h.np*h.pw:=(zaZ p1 (by omega) (by omega)).2
     have hK0:0<=(K:Int)*h.pw:=qbb (by omega) (by omega)
     rw [b5,b7,a2];refine ⟨zoU p1 p2 (by simp only;rw [List.length_set];exact p3) p4 ?_ ?_,rfl,⟨by omega,by omega⟩,qab ⟨by omega,by omega⟩⟩
     · exact zkd (x:=⟨x.kind,x.space,x.used+s,x.pins⟩) (by simp only;rw [qaO,if_pos rfl,if_pos hKl]) hx1
     · refine zkn p6 b2 (Or.inr hx1) hx1 ?_;unfold zc1;simp only
       rw [u1,u3,qab (show 0<=x.used+s/\x.used+s<=h.pw by omega)];rfl
   · have hf:zdF h=false:=by
      unfold zb3 at hok;rw [hnb,qaR]at hok;simpa using hok
     obtain ⟨K,-,b2,-,-,⟨y,hy,hy0⟩,-,b5,-,b7⟩:=zoK hpl hnb hf;obtain ⟨a1,a2⟩:=zfI (K:=K) (o:=0) p1 (by omega) (by omega) (by omega)
     have hmul:(K:Int)*h.pw+h.pw<=h.np*h.pw:=(zaZ p1 (by omega) (by omega)).2
     have hK0:0<=(K:Int)*h.pw:=qbb (by omega) (by omega)
     rw [List.set_set]at b5;rw [b5,b7,a2];refine ⟨zoU p1 p2 (by simp only;rw [List.length_set];exact p3) p4 ?_ ?_,rfl,⟨by omega,by omega⟩,qab ⟨by omega,by omega⟩⟩
     · exact zkd (x:=⟨1,h.space,0+s,0⟩) (by simp only;rw [qaO,if_pos rfl,if_pos b2]) rfl
     · refine zkn p6 hy (Or.inl hy0) rfl ?_;unfold zc1;simp only
       rw [p4,show zea 0=true from rfl,qab (show 0<=0+s/\0+s<=h.pw by omega)];rfl
theorem zkD (h:Hp) (k n m:Int):zkY h k n m=zdp h (zaU k n m)/\zkZ h k n m=zbU h (zaU k n m)/\znL h k n m=zb7 h (zaU k n m):=by
 unfold zkY zkZ znL zsf zdp zbU zb7;by_cases hb:0<zax h.pw h.np (zaU k n m)
 · simp [hb]
 · simp [hb]
theorem zuz {B:Int} (hB:0<=B) {h:Hp} (hp:PinL B h.pages) (s:Int):PinL B (zbU h s).pages:=by
 unfold zbU;split
 · show PinL B (zec _ _ _ _ _ _)
   unfold zec;split
   · exact hp.take hB _ _ rfl rfl
   · exact PinL.nil B
 · show PinL B (zf2 (zbJ h s) _ _)
   refine PinL.use ?_ hB _ _;unfold zbJ;split
   · unfold zcJ;split
     · exact hp.take hB _ _ rfl rfl
     · exact PinL.nil B
   · exact hp
theorem zut:zsH:=by
 intro n x k l m hn hm L k1 k3 l0 l1 m0 m1 he;obtain ⟨ha,hr⟩:zgg x.h k l m=true/\zkY x.h k l m=true:=by
  unfold zcA at he;split at he
  · rename_i h1;split at he
    · rename_i h2;exact ⟨h1,h2⟩
    · exact absurd he (by decide)
  · exact absurd he (by decide)
 obtain ⟨e1,e2,e3⟩:=zkD x.h k l m;rw [e1]at hr;unfold zgg ziP at ha;simp only [qae,qaa]at ha;obtain ⟨ho,⟨hv,hk0⟩,hnd⟩:=ha;have hs:=zbs hv;have hop:okP x.h=true:=by unfold okP;rw [zce];exact ho
 obtain ⟨q1,q2,q3,q4⟩:=zfi hop (show 1<=zaU k l m by rw [hs];omega) hnd hr
 have hoh:okH (zbU x.h (zaU k l m))=true:=by unfold okP at q1;rw [zce]at q1;exact q1
 have hil:(zch k l m).length=(zaU k l m).toNat:=by rw [zep,hs];omega
 have hka:okA (zbU x.h (zaU k l m)).words.length (zb7 x.h (zaU k l m)) (zch k l m).length=true:=by rw [q2,hil];exact q4
 have hie:zgH (zbU x.h (zaU k l m)) (zb7 x.h (zaU k l m)) k l m=0:=by
  unfold zgH;rw [if_pos ⟨hv,hoh⟩];unfold ze1;rw [if_pos hka]
 have hH:zdv x.h k l m={ zbU x.h (zaU k l m) with words:=zay (zbU x.h (zaU k l m)).words (zb7 x.h (zaU k l m)) (zch k l m) }:=by
  unfold zdv;rw [if_pos he,e2,e3];unfold zjK;rw [if_pos hie]
 have hA:zfH x.h k l m=zb7 x.h (zaU k l m):=by unfold zfH;rw [if_pos he,e3]
 obtain ⟨p1,p2,p3,-⟩:=zao hoh;unfold putV;rw [hH,hA];refine ⟨p1,?_,p3,fun y hy=>?_,L.wk,?_,by have:=L.wkn;show x.wk.length<=_;omega,fun g hg=>?_⟩
 · show ((zay _ _ _).length:Int)=_
   rw [zcD hka];exact p2
 · rcases qao.1 hy with h2 | h2
   · exact L.st y h2
   · rw [qau.1 h2];exact q3
 · have:=L.stn
   show (x.st++[zb7 x.h (zaU k l m)]).length<=_
   rw [qaz];simp;omega
 · have:=zuz (B:=n) (by omega) L.pins (zaU k l m) g hg
   omega
theorem zpt:∀ n x,Made n x->n<=400->Lens n x:=zws zut zn4
theorem zuj (l:List Int) (x:Int):sumW (l++[x])=sumW l+x.toNat:=by
 induction l with
 | nil=>simp [sumW]
 | cons g l ih=>rw [qaJ,sumW,ih,sumW];omega
def zlS:Nat->List Int->List Int
 | _,[]=>[]
 | x,a::r=>((x &&& zir a:Nat):Int)::zlS (x >>> a.toNat) r
theorem zt8 (ws:List Int):∀ x,(zlS x ws).length=ws.length:=by
 induction ws with
 | nil=>intro x;rfl
 | cons b r ih=>intro x;rw [zlS,qaP,ih,qaP]
def unpE (x:Nat) (ws:List Int):Int:=if fitL 64 ws=true then (if x >>> sumW ws=0 then 0 else 2) else 1
def unpV (x:Nat) (ws:List Int):List Int:=if fitL 64 ws=true then (if x >>> sumW ws=0 then zlS x ws else []) else []
theorem zuk {ws:List Int} {k:Nat} {a:Int} (h:ws[k]?=some a):sumW (ws.take (k+1))=sumW (ws.take k)+a.toNat:=by
 rw [zbt h,zuj]
theorem zsb {n m:Int} (h1:0<=n) (h2:n<=32):m<=ziq n↔m<2 ^ n.toNat:=by
 unfold ziq;rw [show min n.toNat 64=n.toNat from by omega]
 omega
theorem map_no {n m:Int} (h1:0<=n) (h2:n<=32) (h3:ziq n<m):zaC 1 n m=false :=
 zcE fun h=>by have:=(zsb h1 h2).2 (h.2.2.2.2.1 rfl).2;omega
theorem zgr {k n m:Int} (hk:k=0\/k=2\/k=3) (h:0<=n) (h2:n<=255) (h3:m=0):zaC k n m=true :=
 zgV ⟨by omega,by omega,h,h2,fun c=>by omega,fun _=>h3⟩
end Go.VI.P
