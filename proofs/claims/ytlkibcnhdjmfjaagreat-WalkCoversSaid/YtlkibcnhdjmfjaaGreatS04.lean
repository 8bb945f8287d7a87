import Derived.Test.YtlkibcnhdjmfjaaGreatS00
import Derived.Calls
import Derived.Laws.CopyOwn
import Derived.Laws.Entries
import Derived.RowKit
import Derived.IntWalk
set_option linter.unusedSimpArgs false
set_option linter.unusedVariables false
set_option maxRecDepth 100000
set_option maxHeartbeats 4000000
namespace Go.VI.P
open Go
open Go.RowKit
theorem zbE {α:Type} {l:List α} {k:Nat} {x:α} (h:l[k]?=some x):l.take (k+1)=l.take k++[x]:=by
 rw [List.take_add_one,h];rfl
def confB (pw np:Int):Bool:=decide (16<=pw/\pw<=64/\pw % 4=0/\8<=np/\np<=64)
theorem zak {pw np:Int} (h:confB pw np=true):16<=pw/\pw<=64/\pw % 4=0/\8<=np/\np<=64:=by
 unfold confB at h;exact qaq h
theorem zvi {pw np:Int} (h:16<=pw/\pw<=64/\pw % 4=0/\8<=np/\np<=64):confB pw np=true:=by
 unfold confB;exact qac h
def zgd (pw np:Int):Int:=if confB pw np then np / 4 else 0
def zga (pw np:Int):Int:=if confB pw np then pw / 4 else 0
def zeK (pw n:Int):Int:=if n<=pw / 4 then 0 else if n<=pw then 1 else if n<=2*pw then 2 else if n<=3*pw then 3 else if n<=4*pw then 4 else -1
def zaz (pw np n:Int):Int:=if confB pw np=true/\1<=n then zeK pw n else -1
theorem zgv {pw np n:Int} (h:confB pw np=true) (h1:1<=n):zaz pw np n=zeK pw n:=by unfold zaz;rw [if_pos ⟨h,h1⟩]
theorem zgw {pw np n:Int} (h:confB pw np=false\/n<1):zaz pw np n = -1:=by
 unfold zaz;rw [if_neg];rintro ⟨a,b⟩;rcases h with h | h
 · rw [a]at h;cases h
 · omega
def inPg (pw np p o:Int):Bool:=decide (0<=p/\p<np/\0<=o/\o<pw)
def za5 (pw np p o:Int):Int:=if confB pw np then (if inPg pw np p o then 4096+p*pw+o else 0) else 0
def zk3 (pw np p o:Int):Int:=if confB pw np then (if inPg pw np p o then 0 else 2) else 1
def inAr (pw np a:Int):Bool:=decide (4096<=a/\a<4096+np*pw)
def ofI (pw np a:Int):Int:=if confB pw np then (if inAr pw np a then (a-4096) / pw else 0) else 0
def ofK (pw np a:Int):Int:=if confB pw np then (if inAr pw np a then (a-4096) % pw else 0) else 0
def ofE (pw np a:Int):Int:=if confB pw np then (if inAr pw np a then 0 else 2) else 1
theorem zwk {pw np:Int} (h:confB pw np=true):zgd pw np=np / 4:=by unfold zgd;rw [if_pos h]
theorem zwl {pw np:Int} (h:confB pw np=false):zgd pw np=0:=by unfold zgd;rw [if_neg (by simp [h])]
theorem zjz {pw np:Int} (h:confB pw np=true):zga pw np=pw / 4:=by unfold zga;rw [if_pos h]
theorem zvM {pw np:Int} (h:confB pw np=false):zga pw np=0:=by unfold zga;rw [if_neg (by simp [h])]
theorem zeg {pw np p o:Int} (h:confB pw np=true) (h1:inPg pw np p o=true):za5 pw np p o=4096+p*pw+o/\zk3 pw np p o=0:=by
 unfold za5 zk3;rw [if_pos h,if_pos h,if_pos h1,if_pos h1];exact ⟨rfl,rfl⟩
theorem znP {pw np p o:Int} (h:confB pw np=true) (h1:inPg pw np p o=false):za5 pw np p o=0/\zk3 pw np p o=2:=by
 unfold za5 zk3;rw [if_pos h,if_pos h,if_neg (by simp [h1]),if_neg (by simp [h1])];exact ⟨rfl,rfl⟩
theorem addr_no {pw np p o:Int} (h:confB pw np=false):za5 pw np p o=0/\zk3 pw np p o=1:=by
 unfold za5 zk3;rw [if_neg (by simp [h]),if_neg (by simp [h])];exact ⟨rfl,rfl⟩
theorem zh5 {pw np a:Int} (h:confB pw np=true) (h1:inAr pw np a=true):ofI pw np a=(a-4096) / pw/\ofK pw np a=(a-4096) % pw/\ofE pw np a=0:=by
 unfold ofI ofK ofE;rw [if_pos h,if_pos h,if_pos h,if_pos h1,if_pos h1,if_pos h1];exact ⟨rfl,rfl,rfl⟩
theorem zfq {pw np a:Int} (h:confB pw np=true) (h1:inAr pw np a=false):ofI pw np a=0/\ofK pw np a=0/\ofE pw np a=2:=by
 unfold ofI ofK ofE;rw [if_pos h,if_pos h,if_pos h,if_neg (by simp [h1]),if_neg (by simp [h1]),if_neg (by simp [h1])];exact ⟨rfl,rfl,rfl⟩
theorem zwe {pw np a:Int} (h:confB pw np=false):ofI pw np a=0/\ofK pw np a=0/\ofE pw np a=1:=by
 unfold ofI ofK ofE;rw [if_neg (by simp [h]),if_neg (by simp [h]),if_neg (by simp [h])];exact ⟨rfl,rfl,rfl⟩
theorem conf_prod {pw np:Int} (h:confB pw np=true):128<=np*pw/\np*pw<=4096:=by
 obtain ⟨h1,h2,_,h4,h5⟩:=zak h;exact ⟨Int.le_trans (show (128:Int)<=8*16 from by decide) (qco h4 h1 (by decide) (by omega)),Int.le_trans (qco h5 h2 (by omega) (by omega)) (by decide)⟩
theorem za0 {pw np p:Int} (h:confB pw np=true) (h0:0<=p) (h1:p<np):0<=p*pw/\p*pw+pw<=np*pw:=by
 obtain ⟨h2,_⟩:=zak h;have e:p*pw+pw=(p+1)*pw:=by rw [qbG,qbk]
 exact ⟨qbw h0 (by omega),by rw [e];exact qaR (by omega) (by omega)⟩
theorem zkd {pw np p o:Int} (h:confB pw np=true) (h1:inPg pw np p o=true):inAr pw np (4096+p*pw+o)=true/\(4096+p*pw+o-4096) / pw=p/\(4096+p*pw+o-4096) % pw=o:=by
 unfold inPg at h1;obtain ⟨a,b,c,d⟩:=qaq h1;obtain ⟨e,f⟩:=za0 h a b;have g:=zak h;have e1:4096+p*pw+o-4096=o+p*pw:=by omega
 refine ⟨qac (by omega),?_,?_⟩
 · rw [e1,qcB _ _ (by omega),qcD c d];omega
 · rw [e1,Int.add_mul_emod_self_right,Int.emod_eq_of_lt c d]
structure Pg where
 kind:Int
 space:Int
 used:Int
 pins:Int
 deriving DecidableEq
def Pg.zero:Pg:=⟨0,0,0,0⟩
theorem zaq {ps:List Pg} {i:Nat} {x:Pg} (h:ps[i]?=some x):ps.getD i Pg.zero=x:=by rw [qaD,h];rfl
def zgm (sp:Int):List Pg->Nat
 | []=>0
 | x::r=>if x.kind=3/\x.space=sp then zgm sp r+1 else 0
def zbr:List Pg->Nat
 | []=>0
 | x::r=>(if x.kind=0 then 0 else 1)+zbr r
theorem zg9:∀ ps:List Pg,zbr ps<=ps.length
 | []=>qan _
 | x::r=>by have:=zg9 r;unfold zbr;rw [qaO];split <;> omega
theorem ziY:∀ a b:List Pg,zbr (a++b)=zbr a+zbr b
 | [],b=>by simp [zbr]
 | x::r,b=>by rw [qaJ,zbr,zbr,ziY r b];omega
theorem zmq {ps:List Pg} {k:Nat} {x:Pg} (h:ps[k]?=some x):zbr (ps.take (k+1))=zbr (ps.take k)+if x.kind=0 then 0 else 1:=by
 rw [zbE h,ziY];simp [zbr]
def zd5 (out:List (Int×Int)) (k:Int) (x:Pg):List (Int×Int) :=
 if x.kind=0 then (match out.getLast? with | some r=>if r.1+r.2=k then out.dropLast++[(r.1,r.2+1)] else out++[(k,1)] | none=>[(k,1)]) else out
def zcx (ps:List Pg):Nat->List (Int×Int)
 | 0=>[]
 | k+1=>match ps[k]? with | some x=>zd5 (zcx ps k) k x | none=>zcx ps k
def zp5 (ps:List Pg):List (Int×Int):=zcx ps ps.length
def zaC (ps:List Pg) (k:Int):Int:=match (zp5 ps).find? (fun r=>decide (1<=k)&&decide (k<=r.2)) with | some r=>r.1 | none=>-1
def put (ps:List Pg) (i k:Nat) (x:Pg):List Pg:=ps.take i++List.replicate k x++ps.drop (i+k)
theorem zmZ (ps:List Pg) (i:Nat) (x:Pg):put ps i 0 x=ps:=by simp [put]
theorem zd6 {ps:List Pg} {i k:Nat} {x:Pg} (h:i+k<=ps.length):(put ps i k x).length=ps.length:=by
 unfold put;rw [qay,qay,qax,qaY,qaK];omega
theorem zdj {ps:List Pg} {i k:Nat} {x:Pg} (h:i+k<=ps.length) {j:Nat} (hj:i+k<=j\/j<i):(put ps i k x)[j]?=ps[j]?:=by
 unfold put;rcases hj with hj | hj
 · rw [qbE (by rw [qay,qax,qaY];omega),qa5]
   congr 1
   rw [qay,qax,qaY];omega
 · rw [qaG,qby (by rw [qax];omega),qa7,if_pos hj]
theorem zj5 {ps:List Pg} {i k:Nat} {x:Pg} (h:i+k<=ps.length) {j:Nat} (h1:i<=j) (h2:j<i+k):(put ps i k x)[j]?=some x:=by
 unfold put;rw [qaG,qbE (by rw [qax];omega),qby (by rw [qax,qaY];omega),qb6,if_pos (by rw [qax];omega)]
theorem zvU {ps:List Pg} {i k:Nat} {x:Pg} (h:i+k<ps.length):(put ps i k x).set (i+k) x=put ps i (k+1) x:=by
 apply qbn
 intro j;rw [qaP];have hl:(put ps i k x).length=ps.length:=zd6 (by omega)
 by_cases hj:i+k=j
 · rw [if_pos hj,if_pos (by omega),zj5 (by omega) (by omega) (by omega)]
 · rw [if_neg hj];by_cases h1:i<=j/\j<i+k
   · rw [zj5 (by omega) h1.1 h1.2,zj5 (by omega) h1.1 (by omega)]
   · rw [zdj (by omega) (by omega),zdj (by omega) (by omega)]
def zcu (ps:List Pg) (i k:Nat):Bool:=((ps.drop i).take k).all fun x=>decide (x.kind=0)
theorem zcD (ps:List Pg) (i:Nat):zcu ps i 0=true:=by simp [zcu]
theorem zb5 {ps:List Pg} {i k:Nat} {x:Pg} (h:ps[i+k]?=some x):zcu ps i (k+1)=(zcu ps i k&&decide (x.kind=0)):=by
 unfold zcu;rw [zbE (l:=ps.drop i) (k:=k) (x:=x) (by rw [qa5];exact h),List.all_append]
 simp
theorem zs4 {ps:List Pg} {i k m:Nat} (h:zcu ps i k=true) (hm:m<=k):zcu ps i m=true:=by
 unfold zcu at *
 rw [qaN] at *
 intro x hx;refine h x ?_;rw [show (ps.drop i).take m=((ps.drop i).take k).take m from by rw [qbL,qbx hm]]at hx
 exact qb0 hx
def zgl (ps:List Pg) (i k:Int) (x y:Pg):List Pg:=if 0<=i/\i<ps.length/\k<=ps.length-i then (if zcu ps i.toNat k.toNat then (put ps i.toNat k.toNat y).set i.toNat x else []) else []
def zjc (ps:List Pg) (i k:Int):Int:=if 0<=i/\i<ps.length/\k<=ps.length-i then (if zcu ps i.toNat k.toNat then 0 else 20) else 2
def zcP (ps:List Pg) (i sp:Int):List Pg:=if 0<=sp/\sp<=1 then zgl ps i 1 ⟨1,sp,0,0⟩ Pg.zero else []
def zhU (ps:List Pg) (i sp:Int):Int:=if 0<=sp/\sp<=1 then zjc ps i 1 else 1
def zed (pw np:Int) (ps:List Pg) (i sp n:Int):List Pg:=if 1<=zaz pw np n/\0<=sp/\sp<=1 then zgl ps i (zaz pw np n) ⟨2,sp,n,0⟩ ⟨3,sp,0,0⟩ else []
def zgy (pw np:Int) (ps:List Pg) (i sp n:Int):Int:=if 1<=zaz pw np n/\0<=sp/\sp<=1 then zjc ps i (zaz pw np n) else 1
def zd9 (n:Int):Bool:=decide (0<=n/\n<=2147483647)
def zch (pw np:Int) (x:Pg) (r:List Pg) (due:Int):Option Int :=
 if ¬(x.kind=3↔0<due)\/x.space<0\/1<x.space\/zd9 x.pins=false then none
 else if x.kind=0 then (if x=Pg.zero then some (max 0 (due-1)) else none)
 else if x.kind=1 then (if x.used<0\/pw<x.used then none else some (max 0 (due-1)))
 else if x.kind=2 then (if zaz pw np x.used<1\/(zgm x.space r:Int)<zaz pw np x.used-1 then none else some (max 0 (zaz pw np x.used-1)))
 else if x.kind=3 then (if x.used=0/\x.pins=0 then some (max 0 (due-1)) else none)
 else none
def zaK (pw np:Int):List Pg->Int->Bool
 | [],_=>true
 | x::r,due=>match zch pw np x r due with | some d=>zaK pw np r d | none=>false
def zdU (ps:List Pg) (b:Int):Bool:=decide (b = -1\/(0<=b/\b<ps.length/\(ps.getD b.toNat Pg.zero).kind=1))
def zc2 (pw np:Int) (nw:Nat) (ps:List Pg) (sp b:Int):Bool :=
 confB pw np&&decide ((nw:Int)=np*pw)&&decide ((ps.length:Int)=np)&&decide (0<=sp/\sp<=1)&&zdU ps b&&zaK pw np ps 0
theorem zqC {pw n:Int} (h:n<=pw / 4):zeK pw n=0:=by unfold zeK;rw [if_pos h]
theorem zsV {pw n:Int} (hp:16<=pw) (h0:pw / 4<n) (h:4*pw<n):zeK pw n = -1:=by
 unfold zeK;rw [if_neg (by omega),if_neg (by omega),if_neg (by omega),if_neg (by omega),if_neg (by omega)]
theorem zfS {out:List (Int×Int)} {k:Int} {x:Pg} (h:¬x.kind=0):zd5 out k x=out:=by unfold zd5;rw [if_neg h]
theorem zeE {k:Int} {x:Pg} (h:x.kind=0):zd5 [] k x=[(k,1)]:=by unfold zd5;rw [if_pos h];rfl
theorem zdY {pre:List (Int×Int)} {r:Int×Int} {k:Int} {x:Pg} (h:x.kind=0) (he:r.1+r.2=k):zd5 (pre++[r]) k x=pre++[(r.1,r.2+1)]:=by
 unfold zd5;rw [if_pos h];simp [he]
theorem zeF {pre:List (Int×Int)} {r:Int×Int} {k:Int} {x:Pg} (h:x.kind=0) (he:¬r.1+r.2=k):zd5 (pre++[r]) k x=pre++[r]++[(k,1)]:=by
 unfold zd5;rw [if_pos h];simp [he]
theorem zeD {ps:List Pg} {k:Nat} {x:Pg} (h:ps[k]?=some x):zcx ps (k+1)=zd5 (zcx ps k) k x:=by
 rw [zcx,h]
theorem zhW (out:List (Int×Int)):out=[]\/∃ pre r,out=pre++[r]:=by
 rcases qcI out with h | ⟨pre,r,h⟩
 · exact Or.inl h
 · exact Or.inr ⟨pre,r,by rw [h,qcG]⟩
theorem zp4 (ps:List Pg):∀ (k:Nat) (r:Int×Int),r∈zcx ps k->0<=r.1/\1<=r.2/\r.1+r.2<=k
 | 0,r,h=>by simp [zcx]at h
 | k+1,r,h=>by
  have ih:=zp4 ps k;cases hx:ps[k]? with
  | none=>
   rw [zcx,hx]at h;have:=ih r h;omega
  | some x=>
   rw [zeD hx]at h;by_cases h0:x.kind=0
   · rcases zhW (zcx ps k) with e | ⟨pre,q,e⟩
     · rw [e,zeE h0]at h;simp at h;subst h;simp
     · rw [e]at h ih;have hq:=ih q (by simp)
       by_cases he:q.1+q.2=k
       · rw [zdY h0 he]at h;rcases qao.1 h with h | h
         · have:=ih r (qa3 _ h);omega
         · simp at h;subst h;simp;omega
       · rw [zeF h0 he]at h;rcases qao.1 h with h | h
         · have:=ih r h;omega
         · simp at h;subst h;simp
   · rw [zfS h0]at h;have:=ih r h;omega
theorem zmT (ps:List Pg):∀ k:Nat,(zcx ps k).length<=k
 | 0=>qan _
 | k+1=>by
  have ih:=zmT ps k;cases hx:ps[k]? with
  | none=>rw [zcx,hx];exact Nat.le_succ_of_le ih
  | some x=>
   rw [zeD hx];by_cases h0:x.kind=0
   · rcases zhW (zcx ps k) with e | ⟨pre,q,e⟩
     · rw [e,zeE h0];simp
     · rw [e]at ih ⊢
       by_cases he:q.1+q.2=k
       · rw [zdY h0 he];simp at ih ⊢;omega
       · rw [zeF h0 he];simp at ih ⊢;omega
   · rw [zfS h0];omega
def zbu (k:Int):List (Int×Int)->Int
 | []=>-1
 | r::t=>if 1<=k/\k<=r.2 then r.1 else zbu k t
theorem zkH (ps:List Pg) (k:Int):zaC ps k=zbu k (zp5 ps):=by
 unfold zaC;generalize zp5 ps=l
 induction l with
 | nil=>rfl
 | cons r t ih=>
  rw [List.find?_cons,zbu];by_cases h:1<=k/\k<=r.2
  · rw [if_pos h];simp [h]
  · rw [if_neg h];have:(decide (1<=k)&&decide (k<=r.2))=false:=by simp;omega
    rw [this];exact ih
theorem zpl {k:Int} {l:List (Int×Int)} {i:Nat} {r:Int×Int} (h:l[i]?=some r):zbu k (l.drop i)=if 1<=k/\k<=r.2 then r.1 else zbu k (l.drop (i+1)):=by
 obtain ⟨hi,rfl⟩:=qag.1 h;rw [qaQ hi,zbu]
theorem znz {k:Int} {l:List (Int×Int)} {i:Nat} (h:l.length<=i):zbu k (l.drop i) = -1:=by
 rw [qbs h];rfl
theorem zvI {ps:List Pg} {i k:Int} {x y:Pg} (h:¬(0<=i/\i<ps.length/\k<=ps.length-i)):zgl ps i k x y=[]/\zjc ps i k=2:=by
 unfold zgl zjc;rw [if_neg h,if_neg h];exact ⟨rfl,rfl⟩
theorem zhR {ps:List Pg} {i k:Nat} {x y:Pg} (h:i<ps.length) (hk:i+k<=ps.length) (hf:zcu ps i k=true):zgl ps i k x y=(put ps i k y).set i x/\zjc ps i k=0:=by
 have hc:0<=(i:Int)/\(i:Int)<ps.length/\(k:Int)<=ps.length-i:=⟨by omega,by omega,by omega⟩
 unfold zgl zjc;rw [if_pos hc,if_pos hc,qad,qad,if_pos hf,if_pos hf];exact ⟨rfl,rfl⟩
theorem zmr {ps:List Pg} {i k m:Nat} {x:Pg} (hx:ps[i+m]?=some x) (hm:m<k) (h:¬x.kind=0):zcu ps i k=false:=by
 rw [<-qbp];intro hf;have:=zs4 hf (show m+1<=k from hm)
 rw [zb5 hx]at this;simp at this;exact h this.2
structure Hp where
 pw:Int
 np:Int
 words:List Int
 pages:List Pg
 space:Int
 bump:Int
def Hp.zero:Hp:=⟨0,0,[],[],0,0⟩
def WB (xs:List Int):Prop:=∀ x∈xs,0<=x/\x<18446744073709551616
theorem WB.zeros (n:Nat):WB (List.replicate n 0):=by
 intro x hx;obtain ⟨_,rfl⟩:=List.mem_replicate.1 hx;omega
theorem WB.nil:WB []:=fun x h=>by cases h
def zkt (pw np:Int):Hp:=if confB pw np then ⟨pw,np,List.replicate (np*pw).toNat 0,List.replicate np.toNat Pg.zero,0,-1⟩ else Hp.zero
def newHE (pw np:Int):Int:=if confB pw np then 0 else 1
theorem znk {pw np:Int} (h:confB pw np=true):zkt pw np=⟨pw,np,List.replicate (np*pw).toNat 0,List.replicate np.toNat Pg.zero,0,-1⟩/\newHE pw np=0:=by
 unfold zkt newHE;rw [if_pos h,if_pos h];exact ⟨rfl,rfl⟩
def zf2 (n:Int):Int:=2 ^ min n.toNat 64-1
def zgS (n:Int):Nat:=2 ^ min n.toNat 64-1
theorem zvY (k:Nat) (h:k<=64):(2:Nat) ^ k<=18446744073709551616:=by
 have:(2:Nat) ^ k<=2 ^ 64:=qbW (by decide) h
 simpa using this
theorem zvX (k:Nat) (h:k<64):(2:Nat) ^ k<=9223372036854775808:=by
 have:(2:Nat) ^ k<=2 ^ 63:=qbW (by decide) (by omega)
 simpa using this
theorem zjC (k:Nat):1<=(2:Nat) ^ k:=Nat.one_le_two_pow
theorem zfB (k:Nat):((2 ^ k:Nat):Int)=(2:Int) ^ k:=by rw [Int.natCast_pow];rfl
theorem zuV (k:Nat) (h:k<64):(2:Int) ^ k<=9223372036854775808:=by
 have:=zvX k h;rw [<-zfB];omega
theorem zuU (k:Nat):1<=(2:Int) ^ k:=by
 have:=zjC k;rw [<-zfB];omega
theorem zmf (n:Int):zf2 n=((zgS n:Nat):Int):=by
 unfold zf2 zgS;have:=zjC (min n.toNat 64)
 rw [Int.natCast_sub this];simp
theorem zuu (n:Int) (h:n<0):zf2 n=0:=by
 unfold zf2;have:n.toNat=0:=by omega
 simp [this]
theorem zwc (n:Int):zgS n<18446744073709551616:=by
 unfold zgS;have:=zvY (min n.toNat 64) (by omega);have:=zjC (min n.toNat 64);omega
theorem shr_lt (x k:Nat) (hx:x<18446744073709551616):x >>> k<18446744073709551616:=by
 rw [qb4];exact Nat.lt_of_le_of_lt (Nat.div_le_self _ _) hx
theorem zjN (v:Nat) (n:Int):v &&& zgS n=v % 2 ^ min n.toNat 64:=by
 unfold zgS;exact Nat.and_two_pow_sub_one_eq_mod v _
def fitL:Int->List Int->Bool
 | _,[]=>true
 | left,x::r=>if x<1\/left<x then false else fitL (left-x) r
theorem znx {left x:Int} {ws:List Int} {k:Nat} (hx:ws[k]?=some x) (h:x<1\/left<x):fitL left (ws.drop k)=false:=by
 obtain ⟨hk,rfl⟩:=qag.1 hx;rw [qaQ hk,fitL,if_pos h]
theorem zsa {left x:Int} {ws:List Int} {k:Nat} (hx:ws[k]?=some x) (h1:¬x<1) (h2:¬left<x):fitL left (ws.drop k)=fitL (left-x) (ws.drop (k+1)):=by
 obtain ⟨hk,rfl⟩:=qag.1 hx;rw [qaQ hk,fitL,if_neg (by omega)]
theorem zsc {left:Int} {ws:List Int} {k:Nat} (hk:ws.length<=k):fitL left (ws.drop k)=true:=by
 rw [qbs hk,fitL]
theorem zpk {left x:Int} {r:List Int} (h:fitL left (x::r)=true):1<=x/\x<=left/\fitL (left-x) r=true:=by
 rw [fitL]at h;by_cases c:x<1\/left<x
 · rw [if_pos c]at h;cases h
 · rw [if_neg c]at h;exact ⟨by omega,by omega,h⟩
def sumW:List Int->Nat
 | []=>0
 | x::r=>x.toNat+sumW r
theorem zsb:∀ (ws:List Int) (left:Int),0<=left->fitL left ws=true->(sumW ws:Int)<=left
 | [],_,h,_=>by simp [sumW];exact h
 | x::r,left,h,hf=>by
  obtain ⟨h1,h2,h3⟩:=zpk hf;have:=zsb r (left-x) (by omega) h3
  rw [sumW];omega
theorem zny:∀ (ws:List Int) (left:Int),0<=left->fitL left ws=true->∀ x∈ws,1<=x/\x<=left
 | [],_,_,_,x,hx=>by cases hx
 | y::r,left,h,hf,x,hx=>by
  obtain ⟨h1,h2,h3⟩:=zpk hf;rcases qar.1 hx with rfl | hx
  · exact ⟨h1,h2⟩
  · have:=zny r (left-y) (by omega) h3 x hx
    omega
theorem zoh:∀ (k:Nat) (ws:List Int),sumW (ws.drop k)<=sumW ws
 | 0,ws=>by simp
 | _+1,[]=>by simp
 | k+1,x::r=>by
  have:=zoh k r
  rw [List.drop_succ_cons,sumW];omega
def okF (fs:List (Int×Nat)):Bool:=fs.all fun f=>decide ((f.2:Int)<=zf2 f.1)
def zgp:List (Int×Nat)->Nat
 | []=>0
 | f::r=>zgp r <<< f.1.toNat ||| f.2
def zm3 (fs:List (Int×Nat)):Int×Int:=if fitL 64 (fs.map (·.1))=true then (if okF fs=true then ((zgp fs:Nat),0) else (0,2)) else (0,1)
theorem zlK {v:Nat} {x:Int} (h1:x<=64) (h:(v:Int)<=zf2 x):v<2 ^ x.toNat:=by
 have e:min x.toNat 64=x.toNat:=by omega
 have hp:=zjC x.toNat;rw [zmf]at h;unfold zgS at h;rw [e]at h;omega
theorem join_lt {a b s t:Nat} (ha:a<2 ^ s) (hb:b<2 ^ t):a <<< t ||| b<2 ^ (s+t):=by
 rw [<-Nat.shiftLeft_add_eq_or_of_lt hb,Nat.shiftLeft_eq,Nat.pow_add];calc a*2 ^ t+b<a*2 ^ t+2 ^ t:=by omega
  _=(a+1)*2 ^ t:=by rw [qaH];omega
  _<=2 ^ s*2 ^ t:=qaL _ ha
theorem zrO:∀ (fs:List (Int×Nat)),okF fs=true->(∀ x∈fs.map (·.1),1<=x/\x<=64)->zgp fs<2 ^ sumW (fs.map (·.1))
 | [],_,_=>by simp [zgp,sumW]
 | f::r,hok,hw=>by
  simp only [okF,List.all_cons,qae,qab]at hok;have h1:=zrO r hok.2 (fun x hx=>hw x (qaC _ hx))
  have h2:=zlK (hw f.1 (by simp)).2 hok.1
  have:=join_lt h1 h2
  rw [zgp,qaW,sumW,Nat.add_comm];exact this
theorem zr9 {fs:List (Int×Nat)} (hf:fitL 64 (fs.map (·.1))=true) (k:Nat):(∀ x∈(fs.drop k).map (·.1),1<=x/\x<=64)/\sumW ((fs.drop k).map (·.1))<=64:=by
 refine ⟨fun x hx=>zny _ _ (by omega) hf x ?_,?_⟩
 · rw [List.map_drop]at hx;exact qbZ hx
 · rw [List.map_drop];have h1:=zoh k (fs.map (·.1));have h2:=zsb _ _ (by omega) hf
   omega
theorem zv2 {fs:List (Int×Nat)} {i:Nat} {x:Int×Nat} (hx:fs[i]?=some x) (hv:¬(x.2:Int)<=zf2 x.1):okF fs=false:=by
 rw [<-qbp];intro h;have:=qaN.1 h x (qav hx)
 simp at this;exact hv this
def zaA (k n m:Int):Bool:=decide (0<=k/\k<=3/\0<=n/\n<=255/\(k=1->n<=32/\m<2 ^ n.toNat)/\(¬k=1->m=0))
theorem zaD {k n m:Int} (h:zaA k n m=true):0<=k/\k<=3/\0<=n/\n<=255/\(k=1->n<=32/\m<2 ^ n.toNat)/\(¬k=1->m=0):=by
 unfold zaA at h;exact qaq h
theorem zgJ {k n m:Int} (h:0<=k/\k<=3/\0<=n/\n<=255/\(k=1->n<=32/\m<2 ^ n.toNat)/\(¬k=1->m=0)):zaA k n m=true:=by
 unfold zaA;exact qac h
theorem zcJ {k n m:Int} (h:¬(0<=k/\k<=3/\0<=n/\n<=255/\(k=1->n<=32/\m<2 ^ n.toNat)/\(¬k=1->m=0))):zaA k n m=false:=by
 unfold zaA;exact qak h
theorem zvZ (n:Int) (h:n<=32):(2:Int) ^ n.toNat<=4294967296:=by
 have:(2:Nat) ^ n.toNat<=2 ^ 32:=qbW (by decide) (by omega)
 rw [<-zfB];omega
theorem zjQ {k n m:Int} (h:zaA k n m=true):m<4294967296:=by
 obtain ⟨h1,h2,h3,h4,h5,h6⟩:=zaD h;by_cases c:k=1
 · obtain ⟨h7,h8⟩:=h5 c;have:=zvZ n h7;omega
 · have:=h6 c;omega
def zcG (k n m:Int):Int:=1+4*k+16*n+65536*m
def encV (k n m:Int):Int:=if zaA k n m then zcG k n m else 0
def encE (k n m:Int):Int:=if zaA k n m then 0 else 1
theorem zpo {k n m:Int} (h:zaA k n m=true):encV k n m=zcG k n m/\encE k n m=0:=by
 unfold encV encE;rw [if_pos h,if_pos h];exact ⟨rfl,rfl⟩
theorem zw3 {k n m:Int} (h:zaA k n m=false):encV k n m=0/\encE k n m=1:=by
 unfold encV encE;rw [if_neg (by simp [h]),if_neg (by simp [h])];exact ⟨rfl,rfl⟩
theorem zjO {k n m:Int} (h:zaA k n m=true) (hm:0<=m):0<=zcG k n m/\zcG k n m<281474976710656:=by
 have:=zjQ h
 obtain ⟨h1,h2,h3,h4,h5,h6⟩:=zaD h;unfold zcG;omega
def dK (x:Nat):Nat:=x / 4 % 4
def dN (x:Nat):Nat:=x / 16 % 4096
def dM (x:Nat):Nat:=x / 65536 % 4294967296
def okD (x:Nat):Bool:=decide (x % 4=1)&&decide (x<281474976710656)&&zaA (dK x) (dN x) (dM x)
def decK (x:Nat):Int:=if okD x then dK x else 0
def decN (x:Nat):Int:=if okD x then dN x else 0
def decM (x:Nat):Int:=if okD x then dM x else 0
theorem zmy {x:Nat} (h:okD x=true):decK x=dK x/\decN x=dN x/\decM x=dM x:=by
 unfold decK decN decM;rw [if_pos h,if_pos h,if_pos h];exact ⟨rfl,rfl,rfl⟩
theorem zpp {x:Nat} (h:okD x=false):decK x=0/\decN x=0/\decM x=0:=by
 unfold decK decN decM;rw [if_neg (by simp [h]),if_neg (by simp [h]),if_neg (by simp [h])];exact ⟨rfl,rfl,rfl⟩
theorem zcR {x:Nat} (h:okD x=true):x % 4=1/\x<281474976710656/\zaA (dK x) (dN x) (dM x)=true:=by
 unfold okD at h;simp only [qae,qab]at h;exact ⟨h.1.1,h.1.2,h.2⟩
theorem zwV {x:Nat} (h1:x % 4=1) (h2:x<281474976710656) (h3:zaA (dK x) (dN x) (dM x)=true):okD x=true:=by
 unfold okD;simp only [qae,qab];exact ⟨⟨h1,h2⟩,h3⟩
theorem zuv {x:Nat} (h:¬x % 4=1\/¬x<281474976710656\/zaA (dK x) (dN x) (dM x)=false):okD x=false:=by
 rw [<-qbp];intro c;obtain ⟨h1,h2,h3⟩:=zcR c
 rcases h with h | h | h
 · exact h h1
 · exact h h2
 · rw [h3]at h;cases h
theorem zwz {x:Nat} (h:okD x=true):zcG (dK x) (dN x) (dM x)=x:=by
 obtain ⟨h1,h2,h3⟩:=zcR h;obtain ⟨_,_,_,h4,_,_⟩:=zaD h3;unfold zcG dK dN dM at *;omega
theorem zjx {k n m:Int} (h:zaA k n m=true) (hm:0<=m) {x:Nat} (hx:zcG k n m=x):okD x=true/\(dK x:Int)=k/\(dN x:Int)=n/\(dM x:Int)=m:=by
 have hm2:=zjQ h;obtain ⟨h1,h2,h3,h4,h5,h6⟩:=zaD h;have e1:(dK x:Int)=k:=by unfold zcG at hx;unfold dK;omega
 have e2:(dN x:Int)=n:=by unfold zcG at hx;unfold dN;omega
 have e3:(dM x:Int)=m:=by unfold zcG at hx;unfold dM;omega
 refine ⟨zwV ?_ ?_ ?_,e1,e2,e3⟩
 · unfold zcG at hx;omega
 · unfold zcG at hx;omega
 · rw [e1,e2,e3];exact h
theorem zmL {x:Nat}:okD x=true↔zaA (dK x) (dN x) (dM x)=true/\zcG (dK x) (dN x) (dM x)=x :=
 ⟨fun h=>⟨(zcR h).2.2,zwz h⟩,fun h=>(zjx h.1 (Int.natCast_nonneg _) h.2).1⟩
def fwdV (a:Int):Int:=if a<4294967296 then 4*a+2 else 0
def fwdE (a:Int):Int:=if a<4294967296 then 0 else 1
theorem zwY {a:Int} (h:a<4294967296):fwdV a=4*a+2/\fwdE a=0:=by
 unfold fwdV fwdE;rw [if_pos h,if_pos h];exact ⟨rfl,rfl⟩
def okT (x:Nat):Bool:=decide (x % 4=2)&&decide (x<17179869184)
def tgtV (x:Nat):Int:=if okT x then ((x / 4:Nat):Int) else 0
theorem zoz {x:Nat} (h:okT x=true):x % 4=2/\x<17179869184:=by
 unfold okT at h;simp only [qae,qab]at h;exact h
theorem okT_mk {x:Nat} (h1:x % 4=2) (h2:x<17179869184):okT x=true:=by
 unfold okT;simp only [qae,qab];exact ⟨h1,h2⟩
theorem zwP {x:Nat} (h:okT x=true):tgtV x=((x / 4:Nat):Int):=by unfold tgtV;rw [if_pos h]
theorem zwQ {x:Nat} (h:okT x=false):tgtV x=0:=by unfold tgtV;rw [if_neg (by simp [h])]
theorem apart (x:Nat):¬(okD x=true/\okT x=true):=by
 rintro ⟨h,k⟩;have:=(zcR h).1;have:=(zoz k).1;omega
def zaV (k n m:Int):Int:=if zaA k n m then n+1 else 0
theorem zbj {k n m:Int} (h:zaA k n m=true):zaV k n m=n+1:=by unfold zaV;rw [if_pos h]
theorem zp3 {k n m:Int} (h:zaA k n m=false):zaV k n m=0:=by unfold zaV;rw [if_neg (by simp [h])]
def ptrB (k n m i:Int):Bool:=zaA k n m&&decide (0<=i)&&decide (i<n)&&(decide (k=2) || (decide (k=1)&&m.toNat.testBit i.toNat))
def zdZ (k n m:Int) (j:Nat):List Int:=((List.range j).map Int.ofNat).filter (fun i=>ptrB k n m i)
def zfe (k n m:Int):List Int:=if zaA k n m then zdZ k n m n.toNat else []
theorem zp9 (k n m:Int) (j:Nat):zdZ k n m (j+1)=if ptrB k n m j then zdZ k n m j++[(j:Int)] else zdZ k n m j:=by
 unfold zdZ;rw [List.range_succ,qbQ,qcb];by_cases h:ptrB k n m j=true
 · rw [if_pos h];have:([j].map Int.ofNat).filter (fun i=>ptrB k n m i)=[(j:Int)]:=by simp [h]
   rw [this]
 · rw [if_neg h];have:([j].map Int.ofNat).filter (fun i=>ptrB k n m i)=[]:=by simp [h]
   rw [this,qaU]
theorem zsG (k n m:Int) (j:Nat):(zdZ k n m j).length<=j:=by
 unfold zdZ;refine qaE (qbR _ _) ?_;simp
theorem zsF {k n m:Int} {j:Nat} {x:Int} (h:x∈zdZ k n m j):ptrB k n m x=true:=(qbC.1 h).2
theorem zom {k n m:Int} {x:Int} (h:x∈zfe k n m):ptrB k n m x=true:=by
 unfold zfe at h;by_cases c:zaA k n m=true
 · rw [if_pos c]at h;exact zsF h
 · rw [if_neg c]at h;cases h
theorem ptrs_ok {k n m:Int} (h:zaA k n m=true):zfe k n m=zdZ k n m n.toNat:=by unfold zfe;rw [if_pos h]
theorem ptrs_no {k n m:Int} (h:zaA k n m=false):zfe k n m=[]:=by unfold zfe;rw [if_neg (by simp [h])]
def okA (len:Nat) (a:Int) (n:Nat):Bool:=decide (4096<=a/\a-4096+n<=len)
theorem zm5 (i:Nat):((4096+(i:Int))-4096).toNat=i:=by omega
def zkz (len:Nat) (a:Int):Int:=if okA len a 1 then a-4096 else 0
def zkA (len:Nat) (a:Int):Int:=if okA len a 1 then 0 else 2
def zar (xs:List Int) (a:Int):Int:=if okA xs.length a 1 then xs.getD (a-4096).toNat 0 else 0
def zkw (xs:List Int) (a:Int):Int:=if okA xs.length a 1 then 0 else 2
def zj4 (xs:List Int) (a n:Int):List Int:=if n<0 then [] else if okA xs.length a n.toNat then (xs.drop (a-4096).toNat).take n.toNat else []
def zmX (xs:List Int) (a n:Int):Int:=if n<0 then 1 else if okA xs.length a n.toNat then 0 else 2
def zax (xs:List Int) (a:Int) (l:List Int):List Int:=if okA xs.length a l.length then splice xs (a-4096).toNat l else []
def zcf (xs:List Int) (a:Int) (l:List Int):Int:=if okA xs.length a l.length then 0 else 2
def zeL (xs:List Int) (t f n:Int):List Int:=if n<0 then [] else if okA xs.length t n.toNat/\okA xs.length f n.toNat then splice xs (t-4096).toNat ((xs.drop (f-4096).toNat).take n.toNat) else []
def moveE (xs:List Int) (t f n:Int):Int:=if n<0 then 1 else if okA xs.length t n.toNat/\okA xs.length f n.toNat then 0 else 2
theorem nneg (n:Nat):¬((n:Int)<0):=by omega
theorem index_ok {len i:Nat} (h:okA len (4096+(i:Int)) 1=true):zkz len (4096+(i:Int))=i/\zkA len (4096+(i:Int))=0:=by
 unfold zkz zkA;rw [if_pos h,if_pos h];exact ⟨by omega,rfl⟩
theorem zwj {xs:List Int} {i:Nat} {x:Int} (h:okA xs.length (4096+(i:Int)) 1=true) (hx:xs[i]?=some x):zar xs (4096+(i:Int))=x/\zkw xs (4096+(i:Int))=0:=by
 unfold zar zkw;rw [if_pos h,if_pos h,zm5,qaD,hx];exact ⟨rfl,rfl⟩
theorem zvS {xs:List Int} {a n:Int} (h:n<0):zj4 xs a n=[]/\zmX xs a n=1:=by
 unfold zj4 zmX;rw [if_pos h,if_pos h];exact ⟨rfl,rfl⟩
theorem read_ok {xs:List Int} {i n:Nat} (h:okA xs.length (4096+(i:Int)) n=true):zj4 xs (4096+(i:Int)) n=(xs.drop i).take n/\zmX xs (4096+(i:Int)) n=0:=by
 unfold zj4 zmX;rw [if_neg (nneg n),if_neg (nneg n),qad,if_pos h,if_pos h,zm5];exact ⟨rfl,rfl⟩
theorem read_no {xs:List Int} {a:Int} {n:Nat} (h:okA xs.length a n=false):zj4 xs a n=[]/\zmX xs a n=2:=by
 unfold zj4 zmX;rw [if_neg (nneg n),if_neg (nneg n),qad,if_neg (by simp [h]),if_neg (by simp [h])];exact ⟨rfl,rfl⟩
theorem zrB {xs l:List Int} {i:Nat} (h:okA xs.length (4096+(i:Int)) l.length=true):zax xs (4096+(i:Int)) l=splice xs i l/\zcf xs (4096+(i:Int)) l=0:=by
 unfold zax zcf;rw [if_pos h,if_pos h,zm5];exact ⟨rfl,rfl⟩
theorem zvE {xs l:List Int} {a:Int} (h:okA xs.length a l.length=false):zax xs a l=[]/\zcf xs a l=2:=by
 unfold zax zcf;rw [if_neg (by simp [h]),if_neg (by simp [h])];exact ⟨rfl,rfl⟩
theorem zc0 {xs l:List Int} {i:Nat} (h:i+l.length<=xs.length):(splice xs i l).length=xs.length:=length_splice xs i l h
theorem zdh {xs l:List Int} {i j:Nat} (h:i+l.length<=xs.length) (h1:i<=j) (h2:j<i+l.length):(splice xs i l)[j]?=l[j-i]?:=by
 unfold splice;have e:(xs.take i).length=i:=by rw [qax];omega
 rw [qbE (by omega),e,qby (by omega)]
theorem zen {xs l:List Int} {i j:Nat} (h:i+l.length<=xs.length) (h1:j<i\/i+l.length<=j):(splice xs i l)[j]?=xs[j]?:=by
 unfold splice;have e:(xs.take i).length=i:=by rw [qax];omega
 rcases h1 with h1 | h1
 · rw [qby (by omega),qa7,if_pos h1]
 · rw [qbE (by omega),e,qbE (by omega),qa5]
   congr 1;omega
structure Hd where
 k:Int
 n:Int
 m:Int
 deriving DecidableEq
def Hd.zero:Hd:=⟨0,0,0⟩
def okH (h:Hp):Bool:=zc2 h.pw h.np h.words.length h.pages h.space h.bump
def zcy (h:Hp) (a:Int):Pg:=h.pages.getD (ofI h.pw h.np a).toNat Pg.zero
def zan (h:Hp) (a:Int):Nat:=(h.words.getD (a-4096).toNat 0).toNat
def hdOf (x:Nat):Hd:=⟨dK x,dN x,dM x⟩
def atB (h:Hp) (a:Int):Bool :=
 decide ((zcy h a).kind=1\/(zcy h a).kind=2)&&decide (ofK h.pw h.np a<(zcy h a).used)&&okD (zan h a) &&
 (if (zcy h a).kind=1 then decide (ofK h.pw h.np a+(dN (zan h a)+1)<=(zcy h a).used) else decide (ofK h.pw h.np a=0/\(dN (zan h a):Int)+1=(zcy h a).used))
def atE (h:Hp) (a:Int):Int:=if okH h then (if ofE h.pw h.np a=0 then (if atB h a then 0 else 19) else 2) else 1
def atH (h:Hp) (a:Int):Hd:=if atE h a=0 then hdOf (zan h a) else Hd.zero
def getE (h:Hp) (a:Int):Int:=if okH h then (if a=0 then 5 else if atE h a=0/\(atH h a).k=0 then 4 else atE h a) else 1
def getH (h:Hp) (a:Int):Hd:=if getE h a=0 then atH h a else Hd.zero
def zi1 (h:Hp) (a i:Int):Int:=if getE h a=0 then (if i<0\/(getH h a).n<=i then 2 else zkw h.words (a+1+i)) else getE h a
def zwZ (h:Hp) (a i:Int):Int:=if getE h a=0 then (if i<0\/(getH h a).n<=i then 0 else zar h.words (a+1+i)) else 0
def setE (h:Hp) (a i:Int):Int:=zi1 h a i
def setV (h:Hp) (a i v:Int):Hp:=if zi1 h a i=0 then { h with words:=zax h.words (a+1+i) [v] } else Hp.zero
theorem zap {h:Hp} (hp:okH h=true):confB h.pw h.np=true/\(h.words.length:Int)=h.np*h.pw/\(h.pages.length:Int)=h.np/\0<=h.space/\h.space<=1/\zdU h.pages h.bump=true/\zaK h.pw h.np h.pages 0=true:=by
 unfold okH zc2 at hp;simp only [qae,qab]at hp;obtain ⟨⟨⟨⟨⟨h1,h2⟩,h3⟩,h4⟩,h5⟩,h6⟩:=hp;exact ⟨h1,h2,h3,h4.1,h4.2,h5,h6⟩
theorem zaM (pw np:Int):∀ (ps:List Pg) (due:Int),zaK pw np ps due=true->∀ x∈ps,0<=x.space/\x.space<=1/\0<=x.pins/\x.pins<=2147483647/\(x.kind=0->x=Pg.zero)/\(x.kind=1->0<=x.used/\x.used<=pw)/\(x.kind=2->1<=zaz pw np x.used)/\(x.kind=3->x.used=0/\x.pins=0)/\(x.kind=0\/x.kind=1\/x.kind=2\/x.kind=3)
 | [],_,_,x,hx=>by cases hx
 | y::r,due,h,x,hx=>by
  rw [zaK]at h;cases hs:zch pw np y r due with
  | none=>rw [hs]at h;cases h
  | some d=>
   rw [hs]at h;rcases qar.1 hx with rfl | hx
   · unfold zch at hs;split at hs
     · cases hs
     · rename_i hA;have h1:0<=x.space:=by omega
       have h2:x.space<=1:=by omega
       have h3:zd9 x.pins=true:=by
        cases hp:zd9 x.pins
        · exact absurd (Or.inr (Or.inr (Or.inr hp))) hA
        · rfl
       have h4:=qaq h3;refine ⟨h1,h2,h4.1,h4.2,?_⟩;split at hs
       · rename_i k;refine ⟨fun _=>?_,fun c=>by omega,fun c=>by omega,fun c=>by omega,Or.inl k⟩
         split at hs
         · assumption
         · cases hs
       · split at hs
         · rename_i k;refine ⟨fun c=>by omega,fun _=>?_,fun c=>by omega,fun c=>by omega,Or.inr (Or.inl k)⟩
           split at hs
           · cases hs
           · omega
         · split at hs
           · rename_i k;refine ⟨fun c=>by omega,fun c=>by omega,fun _=>?_,fun c=>by omega,Or.inr (Or.inr (Or.inl k))⟩
             split at hs
             · cases hs
             · omega
           · split at hs
             · rename_i k;refine ⟨fun c=>by omega,fun c=>by omega,fun c=>by omega,fun _=>?_,Or.inr (Or.inr (Or.inr k))⟩
               split at hs
               · assumption
               · cases hs
             · cases hs
   · exact zaM pw np r d h x hx
theorem zuw {h:Hp} {a:Int} (hp:okH h=true) (he:ofE h.pw h.np a=0):inAr h.pw h.np a=true/\(∃ i j:Nat,ofI h.pw h.np a=i/\ofK h.pw h.np a=j/\i<h.pages.length/\(j:Int)<h.pw/\a=4096+i*h.pw+j)/\(∃ t:Nat,a=4096+t/\t<h.words.length):=by
 obtain ⟨h1,h2,h3,_⟩:=zap hp;have hc:=zak h1;have hin:inAr h.pw h.np a=true:=by
  cases hi:inAr h.pw h.np a
  · rw [(zfq h1 hi).2.2]at he;cases he
  · rfl
 obtain ⟨e1,e2,_⟩:=zh5 h1 hin;obtain ⟨b1,b2⟩:=qaq hin;have m1:=Int.emod_nonneg (a-4096) (show h.pw≠0 by omega)
 have m2:=Int.emod_lt_of_pos (a-4096) (show 0<h.pw by omega)
 have d1:0<=(a-4096) / h.pw:=qbM (by omega) (by omega)
 have d2:(a-4096) / h.pw<h.np:=qcq (by omega) (by omega)
 have de:=Int.mul_ediv_add_emod (a-4096) h.pw;refine ⟨hin,⟨((a-4096) / h.pw).toNat,((a-4096) % h.pw).toNat,by rw [e1];omega,by rw [e2];omega,by omega,by omega,?_⟩,⟨(a-4096).toNat,by omega,by omega⟩⟩
 rw [qcn d1,qcn m1,Int.mul_comm];omega
theorem zqa {pw np:Int} {ps:List Pg} {k:Nat} {x:Pg} (h:ps[k]?=some x) (due:Int):zaK pw np (ps.drop k) due=match zch pw np x (ps.drop (k+1)) due with | some d=>zaK pw np (ps.drop (k+1)) d | none=>false:=by
 obtain ⟨hk,rfl⟩:=qag.1 h;rw [qaQ hk,zaK]
theorem zon {pw np:Int} {nw:Nat} {ps:List Pg} {sp b:Int} (h1:confB pw np=true) (h2:(nw:Int)=np*pw) (h3:(ps.length:Int)=np) (h4:0<=sp) (h5:sp<=1) (h6:zdU ps b=true):zc2 pw np nw ps sp b=zaK pw np ps 0:=by
 unfold zc2;simp [h1,h2,h3,h4,h5,h6]
def wrow (xs l:List Int) (i k:Nat):List Int:=splice xs i (l.take k)
theorem zmK {xs l:List Int} {i k:Nat} (h:i+l.length<=xs.length):(wrow xs l i k).length=xs.length:=by
 unfold wrow;rw [zc0 (by rw [qax];omega)]
theorem zn8 (xs l:List Int) (i:Nat):wrow xs l i 0=xs:=by unfold wrow splice;simp
theorem zrA {xs l:List Int} {i k:Nat} (h:l.length<=k):wrow xs l i k=splice xs i l:=by unfold wrow;rw [qba h]
theorem zrz {xs l:List Int} {i k:Nat} {x:Int} (h:i+l.length<=xs.length) (hx:l[k]?=some x):(wrow xs l i k).set (i+k) x=wrow xs l i (k+1):=by
 have hk:=(qag.1 hx).1;apply qbn
 intro j;have hl1:(l.take k).length=k:=by rw [qax];omega
 have hl2:(l.take (k+1)).length=k+1:=by rw [qax];omega
 rw [qaP];by_cases h1:i+k=j
 · subst h1;rw [if_pos rfl,if_pos (by rw [zmK h];omega)]
   unfold wrow;rw [zdh (by omega) (by omega) (by omega),qa7,if_pos (by omega),show i+k-i=k from by omega,hx]
 · rw [if_neg h1];unfold wrow;by_cases h2:i<=j/\j<i+k
   · rw [zdh (by omega) (by omega) (by omega),zdh (by omega) (by omega) (by omega),qa7,qa7,if_pos (by omega),if_pos (by omega)]
   · rw [zen (by omega) (by omega),zen (by omega) (by omega)]
theorem zud (xs:List Int) (a m:Int):(zj4 xs a m).length<=xs.length:=by
 unfold zj4;by_cases h1:m<0
 · rw [if_pos h1];exact qa4 _
 · rw [if_neg h1];by_cases h2:okA xs.length a m.toNat=true
   · rw [if_pos h2,qax,qaK];omega
   · rw [if_neg h2];exact qa4 _
theorem zvl {h:Hp} {a:Int} (h1:okH h=false):atE h a=1/\atH h a=Hd.zero:=by
 have e:atE h a=1:=by unfold atE;rw [if_neg (by simp [h1])]
 exact ⟨e,by unfold atH;rw [if_neg (by rw [e];decide)]⟩
theorem zkZ {h:Hp} {a:Int} (h1:okH h=true) (h2:¬ofE h.pw h.np a=0):atE h a=2/\atH h a=Hd.zero:=by
 have e:atE h a=2:=by unfold atE;rw [if_pos h1,if_neg h2]
 exact ⟨e,by unfold atH;rw [if_neg (by rw [e];decide)]⟩
theorem zpA {h:Hp} {a:Int} (h1:okH h=true) (h2:ofE h.pw h.np a=0) (h3:atB h a=false):atE h a=19/\atH h a=Hd.zero:=by
 have e:atE h a=19:=by unfold atE;rw [if_pos h1,if_pos h2,if_neg (by simp [h3])]
 exact ⟨e,by unfold atH;rw [if_neg (by rw [e];decide)]⟩
theorem zmA {h:Hp} {a:Int} (h1:okH h=true) (h2:ofE h.pw h.np a=0) (h3:atB h a=true):atE h a=0/\atH h a=hdOf (zan h a):=by
 have e:atE h a=0:=by unfold atE;rw [if_pos h1,if_pos h2,if_pos h3]
 exact ⟨e,by unfold atH;rw [if_pos e]⟩
theorem word_of {h:Hp} {a:Int} (hw:WB h.words) (hp:okH h=true) (he:ofE h.pw h.np a=0):zar h.words a=zan h a/\zkw h.words a=0/\zan h a<18446744073709551616:=by
 obtain ⟨_,_,t,rfl,ht⟩:=zuw hp he;have hx:h.words[t]?=some (h.words[t]):=qaj ht
 have hk:okA h.words.length (4096+(t:Int)) 1=true:=qac (by omega)
 obtain ⟨e1,e2⟩:=zwj hk hx;obtain ⟨b1,b2⟩:=hw _ (qbT ht);have e3:zan h (4096+(t:Int))=(h.words[t]).toNat:=by unfold zan;rw [zm5,qaD,hx];rfl
 rw [e1,e2,e3];exact ⟨by omega,rfl,by omega⟩
theorem zha {h:Hp} {a:Int} (e:¬getE h a=0):getH h a=Hd.zero:=by unfold getH;rw [if_neg e]
theorem zwu {h:Hp} {a:Int} (h1:okH h=false):getE h a=1/\getH h a=Hd.zero:=by
 have e:getE h a=1:=by unfold getE;rw [if_neg (by simp [h1])]
 exact ⟨e,zha (by rw [e];decide)⟩
theorem zu1 {h:Hp} (h1:okH h=true):getE h 0=5/\getH h 0=Hd.zero:=by
 have e:getE h 0=5:=by unfold getE;rw [if_pos h1,if_pos rfl]
 exact ⟨e,zha (by rw [e];decide)⟩
theorem zu2 {h:Hp} {a:Int} (h1:okH h=true) (h2:¬a=0) (h3:atE h a=0) (h4:(atH h a).k=0):getE h a=4/\getH h a=Hd.zero:=by
 have e:getE h a=4:=by unfold getE;rw [if_pos h1,if_neg h2,if_pos ⟨h3,h4⟩]
 exact ⟨e,zha (by rw [e];decide)⟩
theorem zu3 {h:Hp} {a:Int} (h1:okH h=true) (h2:¬a=0) (h3:¬(atE h a=0/\(atH h a).k=0)):getE h a=atE h a/\getH h a=atH h a:=by
 have e:getE h a=atE h a:=by unfold getE;rw [if_pos h1,if_neg h2,if_neg h3]
 refine ⟨e,?_⟩;unfold getH;by_cases h4:getE h a=0
 · rw [if_pos h4]
 · rw [if_neg h4];rw [e]at h4;unfold atH;rw [if_neg h4]
theorem zns {h:Hp} {a:Int} (e:getE h a=0):okH h=true/\atE h a=0/\getH h a=atH h a/\ofE h.pw h.np a=0/\atB h a=true/\4096<=a/\a<8192/\0<=(getH h a).n/\(getH h a).n<=255/\¬(getH h a).k=0:=by
 have h1:okH h=true:=by
  cases h1:okH h
  · rw [(zwu (a:=a) h1).1]at e;cases e
  · rfl
 have h2:¬a=0:=by intro h2;subst h2;rw [(zu1 h1).1]at e;cases e
 have h3:¬(atE h a=0/\(atH h a).k=0):=by rintro ⟨h3,h4⟩;rw [(zu2 h1 h2 h3 h4).1]at e;cases e
 obtain ⟨e1,e2⟩:=zu3 h1 h2 h3;have h4:atE h a=0:=by rw [<-e1];exact e
 have h5:ofE h.pw h.np a=0:=by
  by_cases h5:ofE h.pw h.np a=0
  · exact h5
  · rw [(zkZ h1 h5).1]at h4;cases h4
 have h6:atB h a=true:=by
  cases h6:atB h a
  · rw [(zpA h1 h5 h6).1]at h4;cases h4
  · rfl
 obtain ⟨hin,_,t,ht,htl⟩:=zuw h1 h5;obtain ⟨g1,g2,_⟩:=zap h1;have:=(conf_prod g1).2
 have hok:okD (zan h a)=true:=by
  unfold atB at h6;simp only [qae]at h6;exact h6.1.2
 have hv:=zaD (zcR hok).2.2;have hH:getH h a=hdOf (zan h a):=by rw [e2,(zmA h1 h5 h6).2]
 refine ⟨h1,h4,e2,h5,h6,by omega,by omega,?_,?_,?_⟩
 · rw [hH];exact hv.2.2.1
 · rw [hH];exact hv.2.2.2.1
 · rw [e2];intro c;exact h3 ⟨h4,c⟩
theorem zoa {xs l:List Int} {i:Nat} (h:WB xs) (hl:WB l):WB (splice xs i l):=by
 intro x hx;unfold splice at hx;rcases qao.1 hx with hx | hx
 · exact h x (qb0 hx)
 · rcases qao.1 hx with hx | hx
   · exact hl x hx
   · exact h x (qbZ hx)
theorem zdd {xs l:List Int} {a:Int} (h:WB xs) (hl:WB l):WB (zax xs a l):=by
 unfold zax;split
 · exact zoa h hl
 · exact WB.nil
def zbP (k n m:Int):List Int:=zcG k n m::List.replicate n.toNat 0
def zdx (h:Hp) (a k n m:Int):Int:=if zaA k n m=true/\okH h=true then zcf h.words a (zbP k n m) else 1
def ze9 (h:Hp) (a k n m:Int):Hp:=if zdx h a k n m=0 then { h with words:=zax h.words a (zbP k n m) } else Hp.zero
theorem zdM {k n m:Int}:(zbP k n m).length=n.toNat+1:=by unfold zbP;rw [qaO,qaY]
theorem znq {k n m:Int} (h:zaA k n m=true) (hm:0<=m):WB (zbP k n m):=by
 intro x hx;rcases qar.1 hx with rfl | hx
 · have:=zjO h hm;omega
 · exact WB.zeros _ x hx
def zvb (h:Hp) (a:Int):Int:=if getE h a=0 then zmX h.words (a+1) (getH h a).n else getE h a
def zim (h:Hp) (a:Int):List Int:=if getE h a=0 then zj4 h.words (a+1) (getH h a).n else []
theorem zk2 (pw np p o:Int):0<=za5 pw np p o/\za5 pw np p o<18446744073709551616:=by
 cases h:confB pw np
 · unfold za5;rw [h];simp
 · cases h1:inPg pw np p o
   · rw [(znP h h1).1];omega
   · rw [(zeg h h1).1];have hc:=conf_prod h;obtain ⟨a1,a2,a3,a4⟩:=qaq h1;obtain ⟨c1,c2,_⟩:=zak h;have e1:p*pw<=(np-1)*pw:=qaR (by omega) (by omega)
     have e2:(np-1)*pw=np*pw-pw:=by rw [Int.sub_mul,qbk]
     have e3:0<=p*pw:=qbw a1 (by omega)
     omega
theorem zez {h:Hp} {a:Int} (e:atE h a=0):okH h=true/\zaA (atH h a).k (atH h a).n (atH h a).m=true/\0<=(atH h a).m/\(atH h a).m<4294967296/\0<=(atH h a).n/\(atH h a).n<=255:=by
 have h1:okH h=true:=by
  cases h1:okH h
  · unfold atE at e;rw [h1]at e;simp at e
  · rfl
 have h5:ofE h.pw h.np a=0:=by
  by_cases h5:ofE h.pw h.np a=0
  · exact h5
  · rw [(zkZ h1 h5).1]at e;cases e
 have h6:atB h a=true:=by
  cases h6:atB h a
  · rw [(zpA h1 h5 h6).1]at e;cases e
  · rfl
 have hok:okD (zan h a)=true:=by
  unfold atB at h6;simp only [qae]at h6;exact h6.1.2
 have hv:=(zcR hok).2.2;have hp:=zaD hv;have hm:=zjQ hv;rw [(zmA h1 h5 h6).2];exact ⟨h1,hv,Int.natCast_nonneg _,hm,hp.2.2.1,hp.2.2.2.1⟩
theorem zw5 {h:Hp} {a:Int} (e:¬atE h a=0):atH h a=Hd.zero:=by unfold atH;exact if_neg e
def zcg (h:Hp) (i:Int) (big:Bool) (u o:Nat):Option (List Int) :=
 if _hlt:o<u then
  if atE h (za5 h.pw h.np i o)=0 then
   if big then some [za5 h.pw h.np i o]
   else (zcg h i big u (o+((atH h (za5 h.pw h.np i o)).n.toNat+1))).map (za5 h.pw h.np i o :: ·)
  else none
 else some []
 termination_by u-o
theorem zbI {h:Hp} {i:Int} {big:Bool} {u o:Nat} (hlt:¬o<u):zcg h i big u o=some []:=by
 rw [zcg,dif_neg hlt]
theorem zde {h:Hp} {i:Int} {big:Bool} {u o:Nat} (hlt:o<u) (e:¬atE h (za5 h.pw h.np i o)=0):zcg h i big u o=none:=by
 rw [zcg,dif_pos hlt,if_neg e]
theorem zdV {h:Hp} {i:Int} {u o:Nat} (hlt:o<u) (e:atE h (za5 h.pw h.np i o)=0):zcg h i true u o=some [za5 h.pw h.np i o]:=by
 rw [zcg,dif_pos hlt,if_pos e,if_pos rfl]
theorem zcI {h:Hp} {i:Int} {u o:Nat} (hlt:o<u) (e:atE h (za5 h.pw h.np i o)=0):zcg h i false u o=(zcg h i false u (o+((atH h (za5 h.pw h.np i o)).n.toNat+1))).map (za5 h.pw h.np i o :: ·):=by
 rw [zcg,dif_pos hlt,if_pos e,if_neg (by decide)]
def zcX (h:Hp) (i:Int) (big:Bool) (u o:Nat) (acc:List Int):Prop:=zcg h i big u 0=(zcg h i big u o).map (acc ++ ·)
theorem zcX.start (h:Hp) (i:Int) (big:Bool) (u:Nat):zcX h i big u 0 []:=by
 unfold zcX;cases zcg h i big u 0 <;> simp
theorem zcX.fin {h:Hp} {i:Int} {big:Bool} {u o:Nat} {acc:List Int} (hw:zcX h i big u o acc) (hlt:¬o<u):zcg h i big u 0=some acc:=by
 unfold zcX at hw;rw [hw,zbI hlt];simp
theorem zcX.bad {h:Hp} {i:Int} {big:Bool} {u o:Nat} {acc:List Int} (hw:zcX h i big u o acc) (hlt:o<u) (e:¬atE h (za5 h.pw h.np i o)=0):zcg h i big u 0=none:=by
 unfold zcX at hw;rw [hw,zde hlt e];rfl
theorem zcX.big {h:Hp} {i:Int} {u o:Nat} {acc:List Int} (hw:zcX h i true u o acc) (hlt:o<u) (e:atE h (za5 h.pw h.np i o)=0):zcg h i true u 0=some (acc++[za5 h.pw h.np i o]):=by
 unfold zcX at hw;rw [hw,zdV hlt e];rfl
theorem zcX.step {h:Hp} {i:Int} {u o:Nat} {acc:List Int} (hw:zcX h i false u o acc) (hlt:o<u) (e:atE h (za5 h.pw h.np i o)=0):zcX h i false u (o+((atH h (za5 h.pw h.np i o)).n.toNat+1)) (acc++[za5 h.pw h.np i o]):=by
 unfold zcX at hw ⊢;rw [hw,zcI hlt e]
 cases zcg h i false u (o+((atH h (za5 h.pw h.np i o)).n.toNat+1)) <;> simp
def pgAt (h:Hp) (i:Int):Pg:=h.pages.getD i.toNat Pg.zero
def zcH (h:Hp) (i:Int):Option (List Int):=zcg h i (decide ((pgAt h i).kind=2)) (pgAt h i).used.toNat 0
def zbe (h:Hp) (i:Int):Int:=if okH h then (if i<0\/h.pages.length<=i then 2 else if (pgAt h i).kind=0\/(pgAt h i).kind=3 then 0 else if (zcH h i).isSome then 0 else 19) else 1
def zaE (h:Hp) (i:Int):List Int:=if okH h then (if i<0\/h.pages.length<=i then [] else if (pgAt h i).kind=0\/(pgAt h i).kind=3 then [] else (zcH h i).getD []) else []
theorem zm2 {h:Hp} {i:Int} (h1:okH h=false):zbe h i=1/\zaE h i=[]:=by
 unfold zbe zaE;rw [if_neg (by simp [h1]),if_neg (by simp [h1])];exact ⟨rfl,rfl⟩
theorem zm1 {h:Hp} {i:Int} (h1:okH h=true) (h2:i<0\/h.pages.length<=i):zbe h i=2/\zaE h i=[]:=by
 unfold zbe zaE;rw [if_pos h1,if_pos h1,if_pos h2,if_pos h2];exact ⟨rfl,rfl⟩
theorem zer {h:Hp} {i:Int} (h1:okH h=true) (h2:¬(i<0\/h.pages.length<=i)) (h3:(pgAt h i).kind=0\/(pgAt h i).kind=3):zbe h i=0/\zaE h i=[]:=by
 unfold zbe zaE;rw [if_pos h1,if_pos h1,if_neg h2,if_neg h2,if_pos h3,if_pos h3];exact ⟨rfl,rfl⟩
theorem zeq {h:Hp} {i:Int} (h1:okH h=true) (h2:¬(i<0\/h.pages.length<=i)) (h3:¬((pgAt h i).kind=0\/(pgAt h i).kind=3)):zbe h i=(if (zcH h i).isSome then 0 else 19)/\zaE h i=(zcH h i).getD []:=by
 unfold zbe zaE;rw [if_pos h1,if_pos h1,if_neg h2,if_neg h2,if_neg h3,if_neg h3];exact ⟨rfl,rfl⟩
theorem zfl {h:Hp} {i:Int} {l:List Int} (h1:okH h=true) (h2:¬(i<0\/h.pages.length<=i)) (h3:¬((pgAt h i).kind=0\/(pgAt h i).kind=3)) (h4:zcH h i=some l):zbe h i=0/\zaE h i=l:=by
 obtain ⟨e1,e2⟩:=zeq h1 h2 h3;rw [e1,e2,h4];exact ⟨rfl,rfl⟩
theorem zou {h:Hp} {i:Int} (h1:okH h=true) (h2:¬(i<0\/h.pages.length<=i)) (h3:¬((pgAt h i).kind=0\/(pgAt h i).kind=3)) (h4:zcH h i=none):zbe h i=19/\zaE h i=[]:=by
 obtain ⟨e1,e2⟩:=zeq h1 h2 h3;rw [e1,e2,h4];exact ⟨rfl,rfl⟩
def zul (h:Hp) (i o:Int):Int:=zar h.words (za5 h.pw h.np i o)
theorem zrD (h:Hp) (i:Int) (u:Nat):∀ (f o:Nat) (l:List Int),u-o<=f->zcg h i false u o=some l->l.length<=u-o
 | 0,o,l,hf,hl=>by
  rw [zbI (by omega)]at hl;cases hl;simp
 | f+1,o,l,hf,hl=>by
  by_cases hlt:o<u
  · by_cases e:atE h (za5 h.pw h.np i o)=0
    · rw [zcI hlt e]at hl;cases hr:zcg h i false u (o+((atH h (za5 h.pw h.np i o)).n.toNat+1)) with
      | none=>rw [hr]at hl;cases hl
      | some r=>
       rw [hr]at hl;cases hl
       have:=zrD h i u f _ r (by omega) hr
       rw [qaO];omega
    · rw [zde hlt e]at hl;cases hl
  · rw [zbI hlt]at hl;cases hl;simp
theorem zfm {h:Hp} {i:Int} (h1:okH h=true):(zaE h i).length<=64:=by
 by_cases h2:i<0\/h.pages.length<=i
 · rw [(zm1 h1 h2).2];simp
 · by_cases h3:(pgAt h i).kind=0\/(pgAt h i).kind=3
   · rw [(zer h1 h2 h3).2];simp
   · rw [(zeq h1 h2 h3).2];cases hw:zcH h i with
     | none=>simp
     | some l=>
      rw [Option.getD_some];unfold zcH at hw;by_cases h4:(pgAt h i).kind=2
      · rw [qac h4]at hw;by_cases hlt:0<(pgAt h i).used.toNat
        · by_cases e:atE h (za5 h.pw h.np i ((0:Nat):Int))=0
          · rw [zdV hlt e]at hw;cases hw;simp
          · rw [zde hlt e]at hw;cases hw
        · rw [zbI hlt]at hw;cases hw;simp
      · rw [qak h4]at hw;have hlen:=zrD h i _ _ _ _ (qan _) hw;obtain ⟨g1,-,-,-,-,-,hL⟩:=zap h1;have hpw:=(zak g1).2.1;have hil:i.toNat<h.pages.length:=by omega
        have hmem:pgAt h i∈h.pages:=by
         unfold pgAt;rw [zaq (qaj hil)];exact qbT hil
        obtain ⟨-,-,-,-,-,k1,-,-,hk⟩:=zaM _ _ _ _ hL _ hmem;have:=k1 (by omega)
        omega
theorem zum {h:Hp} {i:Int} (h1:okH h=true) (h2:¬(i<0\/h.pages.length<=i)) (h3:¬zbe h i=0):zbe h i=19:=by
 unfold zbe at h3 ⊢
 rw [if_pos h1,if_neg h2]at h3 ⊢
 split at h3
 · exact absurd rfl h3
 · rename_i h4;rw [if_neg h4];split at h3
   · exact absurd rfl h3
   · rename_i h5;rw [if_neg h5]
def zbt (h:Hp) (k:Nat):List Int:=(List.range k).flatMap (fun (j:Nat)=>zaE h j)
def zhS (h:Hp):Bool:=(List.range h.pages.length).all (fun (j:Nat)=>decide (zbe h j=0))
def zbz (h:Hp):Int:=if okH h then (if zhS h then 0 else 19) else 1
def zas (h:Hp):List Int:=if okH h then (if zhS h then zbt h h.pages.length else []) else []
theorem zfP {h:Hp} (h1:okH h=false):zbz h=1/\zas h=[]:=by
 unfold zbz zas;rw [if_neg (by simp [h1]),if_neg (by simp [h1])];exact ⟨rfl,rfl⟩
theorem zoi {h:Hp} {k:Nat} (h1:okH h=true) (hk:k<h.pages.length) (h2:¬zbe h k=0):zbz h=19/\zas h=[]:=by
 have hB:zhS h=false:=by
  rw [<-qbp];intro c
  unfold zhS at c;exact h2 (qaq (qaN.1 c k (qbz.2 hk)))
 unfold zbz zas;rw [if_pos h1,if_pos h1,if_neg (by simp [hB]),if_neg (by simp [hB])];exact ⟨rfl,rfl⟩
theorem zbZ {h:Hp} (h1:okH h=true) (h2:∀ k:Nat,k<h.pages.length->zbe h k=0):zbz h=0/\zas h=zbt h h.pages.length:=by
 have hB:zhS h=true:=by
  unfold zhS;exact qaN.2 fun j hj=>qac (h2 j (qbz.1 hj))
 unfold zbz zas;rw [if_pos h1,if_pos h1,if_pos hB,if_pos hB];exact ⟨rfl,rfl⟩
theorem zdu (h:Hp) (k:Nat):zbt h (k+1)=zbt h k++zaE h k:=by
 unfold zbt;rw [List.range_succ,List.flatMap_append];simp
theorem zfc {h:Hp} (h1:okH h=true):∀ k,(zbt h k).length<=64*k
 | 0=>by simp [zbt]
 | k+1=>by
  rw [zdu,qay];have:=zfc h1 k
  have:=zfm (i:=k) h1
  omega
theorem ztS (h:Hp) (i:Int) (big:Bool) (u:Nat):∀ (f o:Nat) (l:List Int),u-o<=f->zcg h i big u o=some l->WB l
 | 0,o,l,hf,hl=>by
  rw [zbI (by omega)]at hl;cases hl;exact WB.nil
 | f+1,o,l,hf,hl=>by
  by_cases hlt:o<u
  · by_cases e:atE h (za5 h.pw h.np i o)=0
    · cases big
      · rw [zcI hlt e]at hl;cases hr:zcg h i false u (o+((atH h (za5 h.pw h.np i o)).n.toNat+1)) with
        | none=>rw [hr]at hl;cases hl
        | some r=>
         rw [hr]at hl;cases hl
         intro x hx;rcases qar.1 hx with rfl | hx
         · exact zk2 _ _ _ _
         · exact ztS h i false u f _ r (by omega) hr x hx
      · rw [zdV hlt e]at hl;cases hl
        intro x hx;rw [qau.1 hx];exact zk2 _ _ _ _
    · rw [zde hlt e]at hl;cases hl
  · rw [zbI hlt]at hl;cases hl;exact WB.nil
theorem zrM (h:Hp) (i:Int):WB (zaE h i):=by
 unfold zaE;split
 · split
   · exact WB.nil
   · split
     · exact WB.nil
     · cases hw:zcH h i with
       | none=>exact WB.nil
       | some l=>exact ztS h i _ _ _ _ l (qan _) hw
 · exact WB.nil
theorem zl6 (h:Hp):WB (zas h):=by
 unfold zas;split
 · split
   · intro x hx;obtain ⟨j,-,hj⟩:=List.mem_flatMap.1 hx;exact zrM h j x hj
   · exact WB.nil
 · exact WB.nil
theorem zcZ (h:Hp):(zas h).length<=4096:=by
 unfold zas;split
 · rename_i h1;split
   · have:=zfc h1 h.pages.length
     obtain ⟨g1,_,g3,_⟩:=zap h1;have:=(zak g1).2.2.2.2
     omega
   · simp
 · simp
def zcb (h:Hp) (l:List Int):List Int:=l.filter (fun a=>decide (¬(atH h a).k=0))
def zaf (h:Hp):List Int:=zcb h (zas h)
theorem objs_in {h:Hp} {l:List Int} {k:Nat} {x:Int} (hx:l[k]?=some x) (hk:¬(atH h x).k=0):zcb h (l.take (k+1))=zcb h (l.take k)++[x]:=by
 unfold zcb;rw [zbE hx,qcb];simp [hk]
theorem zwf {h:Hp} {l:List Int} {k:Nat} {x:Int} (hx:l[k]?=some x) (hk:(atH h x).k=0):zcb h (l.take (k+1))=zcb h (l.take k):=by
 unfold zcb;rw [zbE hx,qcb];simp [hk]
theorem zwg (h:Hp) (l:List Int) (k:Nat):(zcb h (l.take k)).length<=l.length:=by
 unfold zcb;exact qaE (qbR _ _) (by rw [qax];omega)
def zqL (P:Int->Bool):List Int->Int
 | []=>0
 | x::r=>if P x then x else zqL P r
theorem zww {P:Int->Bool} {l:List Int} {k:Nat} {x:Int} (h:l[k]?=some x):zqL P (l.drop k)=if P x then x else zqL P (l.drop (k+1)):=by
 obtain ⟨hk,rfl⟩:=qag.1 h;rw [qaQ hk,zqL]
theorem zu8 {P:Int->Bool} {l:List Int} {k:Nat} (h:l.length<=k):zqL P (l.drop k)=0:=by
 rw [qbs h];rfl
theorem atH_m (h:Hp) (a:Int):0<=(atH h a).m/\(atH h a).m<4294967296:=by
 by_cases e:atE h a=0
 · have:=zez e;exact ⟨this.2.2.1,this.2.2.2.1⟩
 · rw [zw5 e];decide
def clsB (h:Hp) (i:Nat) (x:Int):Bool :=
 (decide ((pgAt h i).kind=1) && !decide (zaV (atH h x).k (atH h x).n (atH h x).m<=zga h.pw h.np)) || (decide ((pgAt h i).kind=2)&&decide ((atH h x).k=0))
def clsV (h:Hp) (i:Nat) (l:List Int):Int:=zqL (clsB h i) l
def zaZ (ps:List Pg):Nat->Nat
 | 0=>0
 | j+1=>if (ps.getD (j+1) Pg.zero).kind=3 then zaZ ps j else j+1
theorem zpf (ps:List Pg):∀ i,zaZ ps i<=i
 | 0=>qan _
 | j+1=>by unfold zaZ;split;exact Nat.le_succ_of_le (zpf ps j);exact qan _
theorem zuY {h:Hp} (h1:okH h=true):¬(h.pages.getD 0 Pg.zero).kind=3:=by
 obtain ⟨-,-,-,-,-,-,hL⟩:=zap h1;cases hp:h.pages with
 | nil=>simp [Pg.zero]
 | cons x r=>
  rw [hp,zaK]at hL;intro hk;have hk':x.kind=3:=hk
  unfold zch at hL;rw [if_pos (Or.inl (by rw [hk'];simp))]at hL
  cases hL
def zds (h:Hp) (x:Int):Int:=if (atH h x).k=0 then 1 else zaV (atH h x).k (atH h x).n (atH h x).m
def zvH (h:Hp) (i:Nat) (l:List Int) (t:Nat):Bool:=l.any fun x=>decide (x-4096-(i:Int)*h.pw<=t/\(t:Int)<x-4096-(i:Int)*h.pw+zds h x)
def zhO (h:Hp) (i:Nat) (l:List Int):List Bool:=(List.range h.pw.toNat).map (zvH h i l)
def zhP (h:Hp) (i:Nat) (l:List Int) (x:Int) (z:Nat):List Bool:=(List.range h.pw.toNat).map fun t=>zvH h i l t || decide (x-4096-(i:Int)*h.pw<=t/\(t:Int)<x-4096-(i:Int)*h.pw+z)
theorem zoe (h:Hp) (i:Nat) (l:List Int) (x:Int) (z:Nat):(zhP h i l x z).length=h.pw.toNat:=by unfold zhP;rw [qai,List.length_range]
theorem zss (h:Hp) (i:Nat) (l:List Int) (x:Int):zhP h i l x 0=zhO h i l:=by
 unfold zhP zhO;congr 1;funext t
 rw [show decide (x-4096-(i:Int)*h.pw<=t/\(t:Int)<x-4096-(i:Int)*h.pw+((0:Nat):Int))=false from qak (by omega),Bool.or_false]
theorem zvG {h:Hp} {i:Nat} {l:List Int} {x:Int} {z T:Nat} (hT:x-4096-(i:Int)*h.pw+z=T) (hp:T<h.pw.toNat):(zhP h i l x z).set T true=zhP h i l x (z+1):=by
 apply qbn
 intro j;rw [qaP,zoe];unfold zhP;rw [qbi,qbi];by_cases hj:j<h.pw.toNat
 · rw [List.getElem?_range hj];by_cases hjT:T=j
   · subst hjT;rw [if_pos rfl,if_pos hp];simp only [qbF];rw [qac (by omega),Bool.or_true]
   · rw [if_neg hjT];simp only [qbF];congr 2
     exact decide_eq_decide.2 (by omega)
 · rw [qbO (by rw [List.length_range];omega),if_neg (by omega)]
   rfl
theorem ztX {h:Hp} {i:Nat} {l:List Int} {x:Int} {z:Nat} (hT:x-4096-(i:Int)*h.pw+z<0\/h.pw<=x-4096-(i:Int)*h.pw+z):zhP h i l x (z+1)=zhP h i l x z:=by
 unfold zhP;apply List.map_congr_left
 intro t ht;have:=qbz.1 ht
 congr 1
 exact decide_eq_decide.2 (by omega)
theorem ztY {h:Hp} {i:Nat} {l:List Int} {x:Int} {z:Nat} (hz:zds h x=z):zhP h i l x z=zhO h i (l++[x]):=by
 unfold zhP zhO;congr 1;funext t
 unfold zvH;rw [List.any_append,List.any_cons,List.any_nil,Bool.or_false,hz]
theorem zvF (h:Hp) (x:Int):1<=zds h x/\zds h x<=256:=by
 unfold zds;split
 · omega
 · by_cases e:atE h x=0
   · have:=zez e
     rw [zbj this.2.1];omega
   · rw [zw5 e];decide
theorem ztV (h:Hp) (i:Nat):zhO h i []=List.replicate h.pw.toNat false:=by
 unfold zhO zvH;rw [List.eq_replicate_iff];refine ⟨by rw [qai,List.length_range],fun b hb=>?_⟩
 obtain ⟨t,-,rfl⟩:=qaz.1 hb
 rfl
theorem zpY (h:Hp) (i:Int) (big:Bool) (u:Nat):∀ (f o:Nat) (l:List Int),u-o<=f->zcg h i big u o=some l->∀ x∈l,atE h x=0/\∃ o':Nat,o<=o'/\o'<u/\x=za5 h.pw h.np i o'
 | 0,o,l,hf,hl,x,hx=>by
  rw [zbI (by omega)]at hl;cases hl;cases hx
 | f+1,o,l,hf,hl,x,hx=>by
  by_cases hlt:o<u
  · by_cases e:atE h (za5 h.pw h.np i o)=0
    · cases big
      · rw [zcI hlt e]at hl;cases hr:zcg h i false u (o+((atH h (za5 h.pw h.np i o)).n.toNat+1)) with
        | none=>rw [hr]at hl;cases hl
        | some r=>
         rw [hr]at hl;cases hl
         rcases qar.1 hx with rfl | hx
         · exact ⟨e,o,qan _,hlt,rfl⟩
         · obtain ⟨a,o',b1,b2,b3⟩:=zpY h i false u f _ r (by omega) hr x hx
           exact ⟨a,o',by omega,b2,b3⟩
      · rw [zdV hlt e]at hl;cases hl
        rw [qau.1 hx];exact ⟨e,o,qan _,hlt,rfl⟩
    · rw [zde hlt e]at hl;cases hl
  · rw [zbI hlt]at hl;cases hl;cases hx
theorem zcn {h:Hp} {i:Int} {x:Int} (hx:x∈zaE h i):atE h x=0:=by
 unfold zaE at hx;split at hx
 · split at hx
   · cases hx
   · split at hx
     · cases hx
     · cases hw:zcH h i with
       | none=>rw [hw]at hx;cases hx
       | some l=>
        rw [hw]at hx;exact (zpY h i _ _ _ _ l (qan _) hw x hx).1
 · cases hx
theorem znM {h:Hp} {x:Int} (e:atE h x=0):4096<=x/\x<8192:=by
 have h1:=(zez e).1;have h5:ofE h.pw h.np x=0:=by
  by_cases h5:ofE h.pw h.np x=0
  · exact h5
  · rw [(zkZ h1 h5).1]at e;cases e
 obtain ⟨-,-,t,ht,htl⟩:=zuw h1 h5;obtain ⟨k1,k2,-⟩:=zap h1;have:=(conf_prod k1).2
 omega
theorem zaF {h:Hp} {x:Int} (hx:x∈zas h):atE h x=0:=by
 unfold zas at hx;split at hx
 · split at hx
   · unfold zbt at hx;obtain ⟨j,-,hj⟩:=List.mem_flatMap.1 hx;exact zcn hj
   · cases hx
 · cases hx
theorem zc3 {h:Hp} {x:Int} (hx:x∈zaf h):atE h x=0/\¬(atH h x).k=0:=by
 unfold zaf zcb at hx;obtain ⟨h1,h2⟩:=qbC.1 hx;exact ⟨zaF h1,qaq h2⟩
def zfG (h:Hp) (i:Nat):Nat->List Bool->Int
 | _,[]=>0
 | k,b::r=>if b=false/\¬zul h i k=0 then 4096+(i:Int)*h.pw+k else zfG h i (k+1) r
def zvf (h:Hp) (i:Nat):Int:=zfG h i 0 (zhO h i (zaE h (zaZ h.pages i)))
theorem dirt_at {h:Hp} {i:Nat} {l:List Bool} {k:Nat} {b:Bool} (hb:l[k]?=some b):zfG h i k (l.drop k)=if b=false/\¬zul h i k=0 then 4096+(i:Int)*h.pw+k else zfG h i (k+1) (l.drop (k+1)):=by
 obtain ⟨hk,rfl⟩:=qag.1 hb;rw [qaQ hk,zfG]
theorem zwy {h:Hp} {i:Nat} {l:List Bool} {k:Nat} (hk:l.length<=k):zfG h i k (l.drop k)=0:=by
 rw [qbs hk];rfl
theorem ztW (h:Hp) (i:Nat) (l:List Int):(zhO h i l).length=h.pw.toNat:=by unfold zhO;rw [qai,List.length_range]
structure Fd where
 fault:Int
 page:Int
 addr:Int
 deriving DecidableEq
def Fd.none:Fd:=⟨0,0,0⟩
def zv1 (h:Hp) (i:Nat):Fd :=
 if ¬(pgAt h i).kind=0/\¬(pgAt h i).space=h.space then ⟨2,i,0⟩
 else if ¬zbe h i=0 then ⟨3,i,0⟩
 else if ¬clsV h i (zaE h i)=0 then ⟨5,i,clsV h i (zaE h i)⟩
 else if ¬zvf h i=0 then ⟨4,i,zvf h i⟩ else Fd.none
theorem getH_m (h:Hp) (a:Int):0<=(getH h a).m/\(getH h a).m<4294967296:=by
 by_cases e:getE h a=0
 · rw [(zns e).2.2.1];exact atH_m h a
 · rw [zha e];decide
theorem zqN (h:Hp) (a:Int):(zim h a).length<=h.words.length:=by
 unfold zim;split
 · exact zud _ _ _
 · simp
def zcd (all:List Int) (x:Hd):Nat->List Int->Option Nat
 | _,[]=>none
 | k,f::r=>if ptrB x.k x.n x.m k=true/\¬f=0/\¬f∈all then some k else zcd all x (k+1) r
theorem bad_at {all:List Int} {x:Hd} {l:List Int} {k:Nat} {f:Int} (hf:l[k]?=some f):zcd all x k (l.drop k)=if ptrB x.k x.n x.m k=true/\¬f=0/\¬f∈all then some k else zcd all x (k+1) (l.drop (k+1)):=by
 obtain ⟨hk,rfl⟩:=qag.1 hf;rw [qaQ hk,zcd]
theorem bad_end {all:List Int} {x:Hd} {l:List Int} {k:Nat} (hk:l.length<=k):zcd all x k (l.drop k)=none:=by
 rw [qbs hk];rfl
def zuf (h:Hp) (a:Int):Fd:=⟨6,ofI h.pw h.np a,a⟩
def zff (h:Hp) (all:List Int):List Int->Fd
 | []=>Fd.none
 | x::r=>match zcd all (getH h x) 0 (zim h x) with | some k=>zuf h (x+1+k) | none=>zff h all r
def zfh (h:Hp):Fd:=zff h (zaf h) (zaf h)
theorem ptrs_at {h:Hp} {all l:List Int} {k:Nat} {x:Int} (hx:l[k]?=some x):zff h all (l.drop k)=match zcd all (getH h x) 0 (zim h x) with | some k=>zuf h (x+1+k) | none=>zff h all (l.drop (k+1)):=by
 obtain ⟨hk,rfl⟩:=qag.1 hx;rw [qaQ hk,zff]
theorem zvV {h:Hp} {all l:List Int} {k:Nat} (hk:l.length<=k):zff h all (l.drop k)=Fd.none:=by
 rw [qbs hk];rfl
def zck (h:Hp):Nat->Nat->Fd
 | _,0=>Fd.none
 | i,n+1=>if ¬(zv1 h i).fault=0 then zv1 h i else zck h (i+1) n
def zaY:List Pg->Nat
 | []=>0
 | x::r=>(if x.kind=1/\0<x.pins then 1 else 0)+zaY r
theorem zhk:∀ a b:List Pg,zaY (a++b)=zaY a+zaY b
 | [],b=>by simp [zaY]
 | x::r,b=>by rw [qaJ,zaY,zaY,zhk r b];omega
theorem zqO {ps:List Pg} {k:Nat} {x:Pg} (h:ps[k]?=some x):zaY (ps.take (k+1))=zaY (ps.take k)+if x.kind=1/\0<x.pins then 1 else 0:=by
 rw [zbE h,zhk];simp [zaY]
theorem zpr:∀ ps:List Pg,zaY ps<=ps.length
 | []=>qan _
 | x::r=>by have:=zpr r;unfold zaY;rw [qaO];split <;> omega
def zkX (h:Hp):Fd :=
 if okH h then
  (if ¬(zck h 0 h.pages.length).fault=0 then zck h 0 h.pages.length
   else if ¬(zfh h).fault=0 then zfh h
   else if h.np / 4<zaY h.pages then ⟨7,0,0⟩ else Fd.none)
 else ⟨1,0,0⟩
def zu0 (h:Hp):Bool:=decide ((zkX h).fault=0)
theorem ztc {h:Hp} (e:(zkX h).fault=0):zkX h=Fd.none:=by
 unfold zkX at e ⊢
 split at e
 · rename_i h1;rw [if_pos h1];split at e
   · contradiction
   · rename_i h2;rw [if_neg h2];split at e
     · contradiction
     · rename_i h3;rw [if_neg h3];split at e
       · cases e
       · rename_i h4;rw [if_neg h4]
 · cases e
def zhX (h:Hp) (l:List Int):Bool:=zu0 h&&l.all fun x=>decide (x=0\/x∈zaf h)
theorem all_at {P:Int->Bool} {l:List Int} {k:Nat} {x:Int} (hx:l[k]?=some x):(l.drop k).all P=(P x&&(l.drop (k+1)).all P):=by
 obtain ⟨hk,rfl⟩:=qag.1 hx;rw [qaQ hk,List.all_cons]
def zit (pw np k n m:Int):Bool:=zaA k n m&&decide (¬k=0)&&decide (¬zaz pw np (zaV k n m) = -1)
theorem zok (ps:List Pg):∀ (k:Nat) (r:Int×Int),r∈zcx ps k->∀ t:Nat,r.1<=t->(t:Int)<r.1+r.2->∃ x,ps[t]?=some x/\x.kind=0
 | 0,r,h=>by simp [zcx]at h
 | k+1,r,h=>by
  have ih:=zok ps k;cases hx:ps[k]? with
  | none=>rw [zcx,hx]at h;exact ih r h
  | some x=>
   rw [zeD hx]at h;by_cases h0:x.kind=0
   · rcases zhW (zcx ps k) with e | ⟨pre,q,e⟩
     · rw [e,zeE h0]at h;simp at h;subst h
       intro t h1 h2;obtain rfl:t=k:=by simp only at h1 h2;omega
       exact ⟨x,hx,h0⟩
     · by_cases he:q.1+q.2=k
       · rw [e,zdY h0 he]at h;rcases qao.1 h with h | h
         · exact ih r (by rw [e];exact qa3 _ h)
         · simp at h;subst h
           intro t h1 h2;by_cases ht:t=k
           · subst ht;exact ⟨x,hx,h0⟩
           · exact ih q (by rw [e];simp) t h1 (by simp only at h2;omega)
       · rw [e,zeF h0 he]at h;rcases qao.1 h with h | h
         · exact ih r (by rw [e];exact h)
         · simp at h;subst h
           intro t h1 h2;obtain rfl:t=k:=by simp only at h1 h2;omega
           exact ⟨x,hx,h0⟩
   · rw [zfS h0]at h;exact ih r h
theorem zhd {k:Int}:∀ l:List (Int×Int),zbu k l = -1\/∃ r∈l,zbu k l=r.1/\1<=k/\k<=r.2
 | []=>Or.inl rfl
 | r::t=>by
  unfold zbu;split
  · rename_i h;exact Or.inr ⟨r,by simp,rfl,h⟩
  · rcases zhd t with h | ⟨q,hq,h⟩
    · exact Or.inl h
    · exact Or.inr ⟨q,by simp [hq],h⟩
theorem zc7 {ps:List Pg} {k:Int} (h:0<=zaC ps k):1<=k/\zaC ps k+k<=ps.length/\∀ t:Nat,zaC ps k<=t->(t:Int)<zaC ps k+k->∃ x,ps[t]?=some x/\x.kind=0:=by
 rw [zkH]at h ⊢
 rcases zhd (k:=k) (zp5 ps) with e | ⟨r,hr,e,h1,h2⟩
 · omega
 · rw [e];have hb:=zp4 ps ps.length r hr;exact ⟨h1,by omega,fun t a b=>zok ps ps.length r hr t a (by omega)⟩
def zi4 (h:Hp):Pg:=h.pages.getD h.bump.toNat Pg.zero
def newB (h:Hp) (n:Int):Bool:=decide (h.bump<0\/¬(zi4 h).space=h.space\/h.pw<(zi4 h).used+n\/zgd h.pw h.np<zbr h.pages)
def zdE (h:Hp):Bool:=decide (zaC h.pages 1<0\/zgd h.pw h.np<=zbr h.pages)
def zb4 (h:Hp) (n:Int):Bool:=!(newB h n&&zdE h)
def ze3 (h:Hp) (n:Int):Int:=if newB h n then zaC h.pages 1 else h.bump
def zbJ (h:Hp) (n:Int):List Pg:=if newB h n then zcP h.pages (zaC h.pages 1) h.space else h.pages
def zf0 (ps:List Pg) (j:Nat) (n:Int):List Pg:=ps.set j ⟨(ps.getD j Pg.zero).kind,(ps.getD j Pg.zero).space,(ps.getD j Pg.zero).used+n,(ps.getD j Pg.zero).pins⟩
def ziS (h:Hp) (n:Int):Hp:={ h with pages:=zf0 (zbJ h n) (ze3 h n).toNat n,bump:=ze3 h n }
def zgN (h:Hp) (n:Int):Int:=4096+ze3 h n*h.pw+((zbJ h n).getD (ze3 h n).toNat Pg.zero).used
def zeN (h:Hp) (k:Int):Bool:=decide (¬(zaC h.pages k<0\/zgd h.pw h.np<zbr h.pages+k))
def zkx (h:Hp) (n k:Int):Hp:={ h with pages:=zed h.pw h.np h.pages (zaC h.pages k) h.space n }
def ziX (h:Hp) (k:Int):Int:=4096+zaC h.pages k*h.pw
theorem zuS {pw np:Int} {ps:List Pg} {i sp n:Int} (h:1<=zaz pw np n/\0<=sp/\sp<=1):zed pw np ps i sp n=zgl ps i (zaz pw np n) ⟨2,sp,n,0⟩ ⟨3,sp,0,0⟩/\zgy pw np ps i sp n=zjc ps i (zaz pw np n):=by
 unfold zed zgy;rw [if_pos h,if_pos h];exact ⟨rfl,rfl⟩
theorem small_spec {h:Hp} {n:Int} (h1:okH h=true) (hok:zb4 h n=true) :
 ∃ j:Nat,∃ x:Pg,ze3 h n=j/\j<h.pages.length/\(zbJ h n).length=h.pages.length/\(zbJ h n)[j]?=some x/\x.kind=1/\0<=x.used/\x.used<=h.pw/\x.space=h.space /\
  ((newB h n=true/\zbJ h n=h.pages.set j ⟨1,h.space,0,0⟩/\x=⟨1,h.space,0,0⟩/\zhU h.pages (zaC h.pages 1) h.space=0/\∃ y,h.pages[j]?=some y/\y.kind=0)\/(newB h n=false/\zbJ h n=h.pages/\x.used+n<=h.pw)):=by
 obtain ⟨g1,g2,g3,g4,g5,g6,g7⟩:=zap h1;obtain ⟨k1,k2,-,k4,k5⟩:=zak g1;unfold zb4 at hok;cases hn:newB h n
 · have hd:=qa8 hn;have hb0:0<=h.bump:=by omega
   have hbb:=qaq g6;have hbs:h.bump<h.pages.length/\(h.pages.getD h.bump.toNat Pg.zero).kind=1:=by
    rcases hbb with h | h
    · omega
    · exact ⟨h.2.1,h.2.2⟩
   have hx:h.pages[h.bump.toNat]?=some (h.pages[h.bump.toNat]'(by omega)):=qaj _
   have hgd:=zaq hx;have hmem:=zaM _ _ _ _ g7 _ (qav hx);rw [hgd]at hbs;have hbp:zi4 h=h.pages[h.bump.toNat]'(by omega):=hgd
   rw [hbp]at hd;refine ⟨h.bump.toNat,h.pages[h.bump.toNat]'(by omega),by unfold ze3;rw [hn];simp;omega,by omega,by unfold zbJ;rw [hn];rfl,by unfold zbJ;rw [hn];exact hx,hbs.2,(hmem.2.2.2.2.2.1 hbs.2).1,(hmem.2.2.2.2.2.1 hbs.2).2,?_,Or.inr ⟨rfl,by unfold zbJ;rw [hn];rfl,by omega⟩⟩
   have:¬¬(h.pages[h.bump.toNat]'(by omega)).space=h.space:=fun c=>hd (Or.inr (Or.inl c))
   exact Classical.not_not.1 this
 · rw [hn,qaV]at hok;have hf:zdE h=false:=by simpa using hok
   have hd:=qa8 hf;have hF:0<=zaC h.pages 1:=by omega
   obtain ⟨-,f1,f2⟩:=zc7 hF;obtain ⟨y,hy,hy0⟩:=f2 (zaC h.pages 1).toNat (by omega) (by omega)
   have hlt:(zaC h.pages 1).toNat<h.pages.length:=(qag.1 hy).1;have hfree:zcu h.pages (zaC h.pages 1).toNat 1=true:=by
    have:=zb5 (ps:=h.pages) (i:=(zaC h.pages 1).toNat) (k:=0) (x:=y) (by rw [qbc];exact hy)
    rw [zcD,hy0]at this;simpa using this
   obtain ⟨t1,t2⟩:=zhR (x:=⟨1,h.space,0,0⟩) (y:=Pg.zero) hlt (show (zaC h.pages 1).toNat+1<=h.pages.length by omega) hfree
   have eF:(((zaC h.pages 1).toNat:Nat):Int)=zaC h.pages 1:=by omega
   rw [eF]at t1 t2;have hps:zbJ h n=h.pages.set (zaC h.pages 1).toNat ⟨1,h.space,0,0⟩:=by
    unfold zbJ zcP;rw [hn,if_pos rfl,if_pos ⟨g4,g5⟩];rw [show ((1:Nat):Int)=1 from rfl]at t1
    rw [t1];apply qbn
    intro i;have hl:(put h.pages (zaC h.pages 1).toNat 1 Pg.zero).length=h.pages.length:=zd6 (by omega)
    rw [qaP,qaP,hl];split
    · rfl
    · rw [zdj (by omega) (by omega)]
   have hpe:zhU h.pages (zaC h.pages 1) h.space=0:=by
    unfold zhU;rw [if_pos ⟨g4,g5⟩];exact t2
   refine ⟨(zaC h.pages 1).toNat,⟨1,h.space,0,0⟩,by unfold ze3;rw [hn];exact eF.symm,hlt,by rw [hps,List.length_set],by rw [hps,qaP];simp [hlt],rfl,by simp,by simp only;omega,rfl,Or.inl ⟨rfl,hps,rfl,hpe,y,hy,hy0⟩⟩
theorem zsY {h:Hp} {n k:Int} (h1:okH h=true) (hk:zaz h.pw h.np n=k) (hok:zeN h k=true) :
 ∃ j kk:Nat,zaC h.pages k=j/\k=kk/\1<=kk/\j+kk<=h.pages.length/\zcu h.pages j kk=true/\(∀ t:Nat,j<=t->t<j+kk->∃ x,h.pages[t]?=some x/\x.kind=0) /\
  zed h.pw h.np h.pages (zaC h.pages k) h.space n=(put h.pages j kk ⟨3,h.space,0,0⟩).set j ⟨2,h.space,n,0⟩/\zgy h.pw h.np h.pages (zaC h.pages k) h.space n=0:=by
 obtain ⟨g1,g2,g3,g4,g5,g6,g7⟩:=zap h1;have hd:=qaq hok;have hF:0<=zaC h.pages k:=by omega
 obtain ⟨f0,f1,f2⟩:=zc7 hF;obtain ⟨j,hj⟩:=qaS hF;obtain ⟨kk,hkk⟩:=qaS (show 0<=k by omega)
 have hfr:∀ t:Nat,j<=t->t<j+kk->∃ x,h.pages[t]?=some x/\x.kind=0:=fun t a b=>f2 t (by omega) (by omega)
 have hfree:∀ z:Nat,z<=kk->zcu h.pages j z=true:=by
  intro z;induction z with
  | zero=>intro _;exact zcD _ _
  | succ z ih=>
   intro hz;obtain ⟨x,hx,hx0⟩:=hfr (j+z) (by omega) (by omega)
   rw [zb5 hx,ih (by omega),hx0];rfl
 obtain ⟨t1,t2⟩:=zhR (x:=⟨2,h.space,n,0⟩) (y:=⟨3,h.space,0,0⟩) (show j<h.pages.length by omega) (show j+kk<=h.pages.length by omega) (hfree kk (qan _))
 refine ⟨j,kk,hj,hkk,by omega,by omega,hfree kk (qan _),hfr,?_,?_⟩
 · unfold zed;rw [hk,if_pos ⟨by omega,g4,g5⟩,hj,hkk];exact t1
 · unfold zgy;rw [hk,if_pos ⟨by omega,g4,g5⟩,hj,hkk];exact t2
theorem zfu (pw np n:Int):zaz pw np n<=4:=by
 unfold zaz zeK;repeat' split
 all_goals omega
theorem znl (pw np n:Int) : -1<=zaz pw np n:=by
 unfold zaz zeK;repeat' split
 all_goals omega
def zgc (h:Hp) (k n m:Int):Bool:=okH h&&zit h.pw h.np k n m
def zrU (h:Hp) (k n m:Int):Bool:=decide (0<zaz h.pw h.np (zaV k n m))
def zkr (h:Hp) (k n m:Int):Bool:=if zrU h k n m then zeN h (zaz h.pw h.np (zaV k n m)) else zb4 h (zaV k n m)
def zks (h:Hp) (k n m:Int):Hp:=if zrU h k n m then zkx h (zaV k n m) (zaz h.pw h.np (zaV k n m)) else ziS h (zaV k n m)
def znj (h:Hp) (k n m:Int):Int:=if zrU h k n m then ziX h (zaz h.pw h.np (zaV k n m)) else zgN h (zaV k n m)
def zcE (h:Hp) (k n m:Int):Int:=if zgc h k n m then (if zkr h k n m then 0 else 3) else 1
def zdr (h:Hp) (k n m:Int):Hp:=if zcE h k n m=0 then ze9 (zks h k n m) (znj h k n m) k n m else Hp.zero
def zfH (h:Hp) (k n m:Int):Int:=if zcE h k n m=0 then znj h k n m else 0
structure Wk where
 h:Hp
 old:List Int
 taken:List Int
 queue:List Int
 sc:Int
 r0:Int
 r1:Int
 r2:Int
 r3:Int
 r4:Int
 r5:Int
def Wk.zero:Wk:=⟨Hp.zero,[],[],[],0,0,0,0,0,0,0⟩
def zd8 (x:Wk) (i:Int):Bool:=match x.h.pages[i.toNat]? with
 | some g=>decide (0<=i)&&(decide (g.kind=1) && !decide (g.space=x.h.space) && !decide (i∈x.taken))
 | none=>false
def zdL (x:Wk) (a:Int):Wk:={ x with queue:=x.queue++[a],r1:=wrap64 (x.r1+1) }
theorem zmR {ps:List Pg} {sp:Int} (h0:0<=sp) (h1:sp<=1) (hF:0<=zaC ps 1) :
 (zaC ps 1).toNat<ps.length/\zcP ps (zaC ps 1) sp=ps.set (zaC ps 1).toNat ⟨1,sp,0,0⟩/\∃ y,ps[(zaC ps 1).toNat]?=some y/\y.kind=0:=by
 obtain ⟨-,f1,f2⟩:=zc7 hF;obtain ⟨y,hy,hy0⟩:=f2 (zaC ps 1).toNat (by omega) (by omega)
 have hlt:(zaC ps 1).toNat<ps.length:=(qag.1 hy).1;have hfree:zcu ps (zaC ps 1).toNat 1=true:=by
  have:=zb5 (ps:=ps) (i:=(zaC ps 1).toNat) (k:=0) (x:=y) (by rw [qbc];exact hy)
  rw [zcD,hy0]at this;simpa using this
 obtain ⟨t1,t2⟩:=zhR (x:=⟨1,sp,0,0⟩) (y:=Pg.zero) hlt (show (zaC ps 1).toNat+1<=ps.length by omega) hfree
 have eF:(((zaC ps 1).toNat:Nat):Int)=zaC ps 1:=by omega
 rw [eF]at t1 t2;refine ⟨hlt,?_,y,hy,hy0⟩;unfold zcP;rw [if_pos ⟨h0,h1⟩];rw [show ((1:Nat):Int)=1 from rfl]at t1
 rw [t1];apply qbn
 intro i;have hl:(put ps (zaC ps 1).toNat 1 Pg.zero).length=ps.length:=zd6 (by omega)
 rw [qaP,qaP,hl];split
 · rfl
 · rw [zdj (by omega) (by omega)]
def zdG (x:Wk) (n:Int):Bool:=match x.taken.getLast? with | some l=>decide ((x.h.pages.getD l.toNat Pg.zero).used+n<=x.h.pw) | none=>false
def plJ (x:Wk) (n:Int):Int:=if zdG x n then x.taken.getLast?.getD (-1) else zaC x.h.pages 1
def plB (x:Wk) (n:Int):Bool:=zdG x n || decide (0<=zaC x.h.pages 1)
def plPs (x:Wk) (n:Int):List Pg:=if zdG x n then x.h.pages else zcP x.h.pages (zaC x.h.pages 1) (1-x.h.space)
def plT (x:Wk) (n:Int):List Int:=if zdG x n then x.taken else x.taken++[zaC x.h.pages 1]
def plW (x:Wk) (n:Int):Wk:={ x with h:={ x.h with pages:=zf0 (plPs x n) (plJ x n).toNat n },taken:=plT x n }
def plA (x:Wk) (n:Int):Int:=4096+plJ x n*x.h.pw+((plPs x n).getD (plJ x n).toNat Pg.zero).used
structure PlOK (x:Wk):Prop where
 pw0:16<=x.h.pw
 pw1:x.h.pw<=64
 np0:1<=x.h.pages.length
 np1:x.h.pages.length<=64
 sp0:0<=x.h.space
 sp1:x.h.space<=1
 tk:x.taken.length<=1000
 last:∀ l,x.taken.getLast?=some l->∃ k:Nat,l=k/\∃ g,x.h.pages[k]?=some g/\0<=g.used/\g.used<=x.h.pw
theorem zfT {x:Wk} {n:Int} (hx:PlOK x) (hb:plB x n=true) :
 ∃ j:Nat,∃ y:Pg,plJ x n=j/\j<x.h.pages.length/\(plPs x n).length=x.h.pages.length/\(plPs x n)[j]?=some y/\0<=y.used/\y.used<=x.h.pw /\
  ((zdG x n=true/\plPs x n=x.h.pages/\x.taken.getLast?=some (j:Int)/\y.used+n<=x.h.pw)\/(zdG x n=false/\zaC x.h.pages 1=j/\plPs x n=x.h.pages.set j ⟨1,1-x.h.space,0,0⟩/\y=⟨1,1-x.h.space,0,0⟩/\∃ z,x.h.pages[j]?=some z/\z.kind=0)):=by
 cases hr:zdG x n
 · unfold plB at hb;rw [hr,Bool.false_or]at hb;have hF:=qaq hb;have s0:=hx.sp0;have s1:=hx.sp1;have p0:=hx.pw0;obtain ⟨f1,f2,z,f3,f4⟩:=zmR (ps:=x.h.pages) (sp:=1-x.h.space) (by omega) (by omega) hF
   have e1:plPs x n=x.h.pages.set (zaC x.h.pages 1).toNat ⟨1,1-x.h.space,0,0⟩:=by unfold plPs;rw [hr];exact f2
   refine ⟨(zaC x.h.pages 1).toNat,⟨1,1-x.h.space,0,0⟩,by unfold plJ;rw [hr];simp;omega,f1,by rw [e1,List.length_set],by rw [e1,qaP,if_pos rfl,if_pos f1],by simp,by simp only;omega,Or.inr ⟨rfl,by omega,e1,rfl,z,f3,f4⟩⟩
 · have h1:=hr;unfold zdG at h1;cases hl:x.taken.getLast? with
   | none=>rw [hl]at h1;cases h1
   | some l=>
    rw [hl]at h1;obtain ⟨k,rfl,g,g1,g2,g3⟩:=hx.last l hl;have hk:=(qag.1 g1).1;have h2:=qaq h1;rw [qad,zaq g1]at h2;have e1:plPs x n=x.h.pages:=by unfold plPs;rw [hr];rfl
    exact ⟨k,g,by unfold plJ;rw [hr,hl];rfl,hk,by rw [e1],by rw [e1];exact g1,g2,g3,Or.inl ⟨rfl,e1,rfl,h2⟩⟩
def evWd (x:Wk) (a:Int):Int:=zar x.h.words a
def evI (x:Wk) (a:Int):Int:=ofI x.h.pw x.h.np a
def evN (x:Wk) (a:Int):Int:=zaV (decK (evWd x a).toNat) (decN (evWd x a).toNat) (decM (evWd x a).toNat)
def zhh (x:Wk) (a:Int):Bool:=decide ((x.h.pages.getD (evI x a).toNat Pg.zero).kind=2)
def spc (ps:List Pg) (i k:Nat) (sp:Int):List Pg:=ps.mapIdx fun j y=>if i<=j/\j<k then ⟨y.kind,sp,y.used,y.pins⟩ else y
def zcs (ps:List Pg) (i:Nat):Nat:=i+1+((ps.drop (i+1)).takeWhile fun y=>decide (y.kind=3)).length
def zcC (x:Wk) (i:Nat):Wk:={ x with h:={ x.h with pages:=spc x.h.pages i (zcs x.h.pages i) (1-x.h.space) } }
def zkU (x:Wk) (a:Int):List Int:=zax (zeL x.h.words (plA x (evN x a)) a (evN x a)) a [fwdV (plA x (evN x a))]
def zbB (x:Wk) (a:Int):Wk:={ plW x (evN x a) with h:={ (plW x (evN x a)).h with words:=zkU x a },queue:=x.queue++[plA x (evN x a)],r0:=wrap64 (x.r0+1) }
def evC (x:Wk) (a:Int):Nat :=
 if a=0\/a∈x.queue then 0 else if ¬a∈x.old then 1 else if okT (evWd x a).toNat then 2
 else if ¬ofE x.h.pw x.h.np a=0\/(x.h.pages.length:Int)<=evI x a then 3
 else if zd8 x (evI x a) then 4 else if zhh x a then 5 else if plB x (evN x a) then 7 else 6
def evE (x:Wk) (a:Int):Int:=match evC x a with | 1=>19 | 3=>19 | 6=>3 | _=>0
def evA (x:Wk) (a:Int):Int:=match evC x a with | 0=>a | 2=>tgtV (evWd x a).toNat | 4=>a | 5=>a | 7=>plA x (evN x a) | _=>0
def evW (x:Wk) (a:Int):Wk:=match evC x a with | 0=>x | 2=>x | 4=>zdL x a | 5=>zdL (zcC x (evI x a).toNat) a | 7=>zbB x a | _=>Wk.zero
theorem zfx {xs:List Int} (h:WB xs) (a:Int):∃ k:Nat,zar xs a=k/\k<18446744073709551616:=by
 have hx:0<=zar xs a/\zar xs a<18446744073709551616:=by
  unfold zar;split
  · rw [qaD];cases hg:xs[(a-4096).toNat]? with
    | none=>simp
    | some v=>simpa using h v (qav hg)
  · simp
 exact ⟨(zar xs a).toNat,by omega,by omega⟩
theorem zvg (x:Nat):0<=decM x/\decM x<4294967296:=by
 unfold decM;split
 · unfold dM;have:x / 65536 % 4294967296<4294967296:=Nat.mod_lt _ (by omega);omega
 · omega
theorem evN_bd (x:Wk) (a:Int):0<=evN x a/\evN x a<=1000:=by
 unfold evN zaV;split
 · rename_i h;unfold zaA at h;have:=qaq h
   omega
 · omega
theorem zuh {x:Wk} {n:Int} (hx:PlOK x) (hb:plB x n=true):0<=plA x n/\plA x n<18446744073709551616:=by
 obtain ⟨j,y,s1,s2,s3,s4,s5,s6,-⟩:=zfT hx hb;have k1:=hx.pw0;have k2:=hx.pw1;have k3:=hx.np1;have hJ0:0<=(j:Int)*x.h.pw:=qbw (by omega) (by omega)
 have hJ1:(j:Int)*x.h.pw<=64*64:=qco (by omega) k2 (by omega) (by omega)
 unfold plA;rw [s1,qad,zaq s4];omega
theorem zrW (xs:List Int) (t f n:Int):(zeL xs t f n).length<=xs.length:=by
 unfold zeL;split
 · simp
 · split
   · rename_i h0 h;have h1:=qaq h.1;rw [zc0 (by rw [qax,qaK];omega)]
     exact qan _
   · simp
theorem wb_move {xs:List Int} (h:WB xs) (t f n:Int):WB (zeL xs t f n):=by
 unfold zeL;split
 · exact WB.nil
 · split
   · exact zoa h (fun v hv=>h v (qbZ (qb0 hv)))
   · exact WB.nil
theorem zw4 {x:Wk} {a:Int} (hx:PlOK x) (hb:plB x (evN x a)=true) (h:WB x.h.words):WB (zbB x a).h.words:=by
 show WB (zax (zeL x.h.words _ a _) a [fwdV _])
 refine zdd (wb_move h _ _ _) (fun v hv=>?_)
 simp only [qau]at hv;subst hv;have:=zuh hx hb
 unfold fwdV;split <;> omega
theorem zgL {α:Type} {p:α->Bool}:∀ (L:List α) (n:Nat),n<=L.length->(∀ j y,j<n->L[j]?=some y->p y=true)->(∀ y,L[n]?=some y->p y=false)->(L.takeWhile p).length=n
 | [],n,hn,_,_=>by simp at hn;subst hn;rfl
 | y::r,0,_,_,h=>by rw [qcv,h y rfl];rfl
 | y::r,n+1,hn,ha,h=>by
  rw [qcv,ha 0 y (by omega) rfl]
  simp only [if_true,qaO];rw [zgL r n (by simpa using hn) (fun j z hj hz=>ha (j+1) z (by omega) (by simpa using hz)) (fun z hz=>h z (by simpa using hz))]
theorem zsv {ps:List Pg} {i k:Nat} (h1:i+1<=k) (h2:k<=ps.length) (h3:∀ l y,i<l->l<k->ps[l]?=some y->y.kind=3) (h4:∀ y,ps[k]?=some y->¬y.kind=3):zcs ps i=k:=by
 unfold zcs;rw [zgL (ps.drop (i+1)) (k-(i+1)) (by rw [qaK];omega) (fun j y hj hy=>qac (h3 (i+1+j) y (by omega) (by omega) (by rw [qa5]at hy;exact hy))) (fun y hy=>qak (h4 y (by rw [qa5]at hy;rw [show i+1+(k-(i+1))=k by omega]at hy;exact hy)))]
 omega
theorem zt7 (ps:List Pg) (i k:Nat) (sp:Int):(spc ps i k sp).length=ps.length:=by unfold spc;simp
theorem zhT {ps:List Pg} {i k j:Nat} {sp:Int} {y:Pg} (h:ps[j]?=some y):(spc ps i k sp)[j]?=some (if i<=j/\j<k then ⟨y.kind,sp,y.used,y.pins⟩ else y):=by
 unfold spc;rw [qcu,h];rfl
theorem zmQ {ps:List Pg} {i k j:Nat} {sp:Int} (h:ps[j]?=none):(spc ps i k sp)[j]?=none:=by
 unfold spc;rw [qcu,h];rfl
theorem zrG {ps:List Pg} {i k:Nat} {sp:Int} {y:Pg} (hi:i<=k) (h:ps[k]?=some y):(spc ps i k sp).set k ⟨y.kind,sp,y.used,y.pins⟩=spc ps i (k+1) sp:=by
 apply qbn
 intro j;rw [qaP,zt7];have hk:=(qag.1 h).1;by_cases e:k=j
 · subst e;rw [if_pos rfl,if_pos hk,zhT h,if_pos ⟨hi,by omega⟩]
 · rw [if_neg e];cases hj:ps[j]? with
   | none=>rw [zmQ hj,zmQ hj]
   | some z=>
    rw [zhT hj,zhT hj];by_cases c:i<=j/\j<k
    · rw [if_pos c,if_pos ⟨c.1,by omega⟩]
    · rw [if_neg c,if_neg (by omega)]
theorem zt6 {ps:List Pg} {i:Nat} {sp:Int}:spc ps i i sp=ps:=by
 apply qbn
 intro j;cases hj:ps[j]? with
 | none=>rw [zmQ hj]
 | some z=>rw [zhT hj,if_neg (by omega)]
theorem zsN {pw np a:Int} (h:ofE pw np a=0):0<=ofI pw np a:=by
 cases hv:confB pw np with
 | false=>have:=(zwe (a:=a) hv).2.2;omega
 | true=>
  cases hi:inAr pw np a with
  | false=>have:=(zfq hv hi).2.2;omega
  | true=>
   obtain ⟨h1,-,-⟩:=zh5 hv hi;have h2:=zak hv;unfold inAr at hi;have h3:=qaq hi;rw [h1];exact qbM (by omega) (by omega)
def evH (x:Wk) (a:Int):Hd:=⟨decK (evWd x a).toNat,decN (evWd x a).toNat,decM (evWd x a).toNat⟩
structure FwOK (x:Wk):Prop where
 pl:PlOK x
 wl:x.h.words.length<=100000
 ql:x.queue.length<=1000000
def zcv (x:Wk) (A:Int):Wk:={ evW x (zar x.h.words A) with h:={ (evW x (zar x.h.words A)).h with words:=zax (evW x (zar x.h.words A)).h.words A [evA x (zar x.h.words A)] } }
def stGo:Wk->Int->List Int->Wk×Int
 | x,_,[]=>(x,0)
 | x,A,i::r=>if evE x (zar x.h.words (A+1+i))=0 then stGo (zcv x (A+1+i)) A r else (Wk.zero,evE x (zar x.h.words (A+1+i)))
def StOK:Wk->Int->List Int->Prop
 | _,_,[]=>True
 | x,A,i::r=>FwOK x/\(evE x (zar x.h.words (A+1+i))=0->StOK (zcv x (A+1+i)) A r)
def stL (x:Wk) (A:Int):List Int:=zfe (evH x A).k (evH x A).n (evH x A).m
def stW (x:Wk) (A:Int):Wk:={ (stGo x A (stL x A)).1 with sc:=wrap64 ((stGo x A (stL x A)).1.sc+1),r5:=wrap64 (wrap64 ((stGo x A (stL x A)).1.r5+1)+(stL x A).length) }
def stE (x:Wk) (A:Int):Int:=(stGo x A (stL x A)).2
theorem stL_bd {x:Wk} {A i:Int} (h:i∈stL x A):0<=i/\i<=1000:=by
 unfold stL zfe at h;split at h
 · rename_i hv;unfold zdZ at h;have h1:=(qbC.1 h).1;obtain ⟨j,hj,rfl⟩:=qaz.1 h1;have h2:=qbz.1 hj;unfold zaA at hv;have h3:=qaq hv;have h4:Int.ofNat j=(j:Int):=rfl
   omega
 · cases h
theorem evA_bd {x:Wk} {a:Int} (hx:PlOK x) (h0:0<=a) (h1:a<18446744073709551616):0<=evA x a/\evA x a<18446744073709551616:=by
 unfold evA;split
 · exact ⟨h0,h1⟩
 · unfold tgtV;split
   · rename_i h;unfold okT at h;rw [qae]at h;have h2:=qaq h.2;omega
   · omega
 · exact ⟨h0,h1⟩
 · exact ⟨h0,h1⟩
 · rename_i h;refine zuh hx ?_;unfold evC at h;split at h
   · omega
   split at h
   · omega
   split at h
   · omega
   split at h
   · omega
   split at h
   · omega
   split at h
   · omega
   split at h
   · assumption
   · omega
 · omega
theorem wb_next {x:Wk} {A:Int} (hx:PlOK x) (hw:WB x.h.words) (hy:WB (evW x (zar x.h.words A)).h.words):WB (zcv x A).h.words:=by
 obtain ⟨k,h1,h2⟩:=zfx hw A;refine zdd hy (fun v hv=>?_)
 simp only [qau]at hv;subst hv;exact evA_bd hx (by omega) (by omega)
theorem evW_wl {x:Wk} {n:Nat} (h:x.h.words.length<=n) (a:Int):(evW x a).h.words.length<=n:=by
 unfold evW;split
 · exact h
 · exact h
 · exact h
 · exact h
 · show (zax (zeL x.h.words _ a _) a [_]).length<=n
   unfold zax;split
   · rename_i hk;have h1:=qaq hk;rw [zc0 (by omega)]
     exact qaE (zrW _ _ _ _) h
   · simp
 · exact qa4 _
def allV:Nat->Wk->Wk×Int
 | 0,x=>(x,0)
 | f+1,x=>match x.queue[x.sc.toNat]? with
  | none=>(x,0)
  | some A=>if stE x A=0 then allV f (stW x A) else (Wk.zero,stE x A)
def zvA:Nat->Wk->Prop
 | 0,_=>False
 | f+1,x=>∃ k:Nat,x.sc=k/\k<=1000000/\(x.queue[k]?=none\/∃ A,x.queue[k]?=some A/\0<=A/\A<=1000000/\x.h.words.length<=100000/\StOK x A (stL x A)/\(stE x A=0->(stW x A).sc=((k+1:Nat):Int)/\zvA f (stW x A)))
theorem znO {f:Nat} {x:Wk} {k:Nat} (hk:x.sc=k) (h:x.queue[k]?=none):allV (f+1) x=(x,0):=by
 unfold allV;rw [hk,qad,h]
theorem zqW {f:Nat} {x:Wk} {k:Nat} {A:Int} (hk:x.sc=k) (h:x.queue[k]?=some A):allV (f+1) x=if stE x A=0 then allV f (stW x A) else (Wk.zero,stE x A):=by
 rw [allV,hk,qad,h]
def zbD (sp:Int) (l:List Pg):Bool:=l.all fun t=>decide (t.kind=3/\t.space=sp)
def zfa (pw np:Int) (ps:List Pg):Nat->Int
 | 0=>0
 | i+1=>if (ps.getD i Pg.zero).kind=2 then max 0 (zaz pw np (ps.getD i Pg.zero).used-1) else max 0 (zfa pw np ps i-1)
theorem zjy (sp:Int):∀ (l:List Pg) (m:Nat),m<=zgm sp l↔(m<=l.length/\zbD sp (l.take m)=true)
 | [],m=>by
  rw [zgm];constructor
  · intro h;obtain rfl:m=0:=by omega
    exact ⟨qan _,rfl⟩
  · rintro ⟨h,-⟩;exact h
 | x::r,0=>by simp [zbD]
 | x::r,m+1=>by
  rw [zgm,qcd,qaO];have ih:=zjy sp r m;have e:zbD sp (x::r.take m)=(decide (x.kind=3/\x.space=sp)&&zbD sp (r.take m)):=rfl
  rw [e,qae,qab];by_cases h:x.kind=3/\x.space=sp
  · rw [if_pos h];constructor
    · intro a;obtain ⟨a1,a2⟩:=ih.1 (by omega)
      exact ⟨by omega,h,a2⟩
    · rintro ⟨a1,-,a2⟩;have:=ih.2 ⟨by omega,a2⟩
      omega
  · rw [if_neg h];constructor
    · intro a;omega
    · rintro ⟨-,a,-⟩;exact absurd a h
theorem zsg {pw np:Int} {ps:List Pg} {i:Nat} {x:Pg} (hx:ps[i]?=some x) {r:List Pg} {d:Int} (h:zch pw np x r (zfa pw np ps i)=some d):d=zfa pw np ps (i+1):=by
 rw [zfa,zaq hx];unfold zch at h;split at h
 · cases h
 · split at h
   · rename_i k0;rw [if_neg (by omega)]
     split at h
     · exact (Option.some.inj h).symm
     · cases h
   · split at h
     · rename_i k1;rw [if_neg (by omega)]
       split at h
       · cases h
       · exact (Option.some.inj h).symm
     · split at h
       · rename_i k2;rw [if_pos k2];split at h
         · cases h
         · exact (Option.some.inj h).symm
       · rename_i k2;rw [if_neg k2];split at h
         · split at h
           · exact (Option.some.inj h).symm
           · cases h
         · cases h
theorem zj6 {pw np:Int} {ps:List Pg} (h:zaK pw np ps 0=true):∀ i,i<=ps.length->zaK pw np (ps.drop i) (zfa pw np ps i)=true
 | 0,_=>by rw [qbS];exact h
 | i+1,hi=>by
  have ih:=zj6 h i (by omega)
  have hx:ps[i]?=some (ps[i]'(by omega)):=qaj _
  rw [qaQ (by omega),zaK]at ih
  cases hs:zch pw np (ps[i]'(by omega)) (ps.drop (i+1)) (zfa pw np ps i) with
  | none=>rw [hs]at ih;cases ih
  | some d=>rw [hs]at ih;rw [<-zsg hx hs];exact ih
def osz (h:Hp) (a:Int):Int:=(atH h a).n+1
def zd7 (h:Hp) (g:Pg):Int:=if g.kind=2 then zaz h.pw h.np g.used else 1
theorem zft {pw np n:Int} (h:1<=zaz pw np n):n<=zaz pw np n*pw/\zaz pw np n<=4/\confB pw np=true/\1<=n:=by
 by_cases hc:confB pw np=true/\1<=n
 · rw [zgv hc.1 hc.2]at h ⊢
   refine ⟨?_,?_,hc.1,hc.2⟩
   · unfold zeK at h ⊢
     repeat' split
     all_goals first | omega | (exfalso;simp_all)
   · unfold zeK at h ⊢
     repeat' split
     all_goals omega
 · rw [zgw (by
    by_cases h1:confB pw np=true
    · right;have:¬1<=n:=fun h2=>hc ⟨h1,h2⟩;omega
    · left;simpa using h1)]at h
   omega
theorem zdK {pw np:Int} {ps:List Pg} (h:zaK pw np ps 0=true) {i:Nat} {g:Pg} (hg:ps[i]?=some g) (hk:g.kind=2) :
 1<=zaz pw np g.used/\(i:Int)+zaz pw np g.used<=ps.length/\∀ t:Nat,i<t->(t:Int)<i+zaz pw np g.used->∃ y,ps[t]?=some y/\y.kind=3/\y.space=g.space:=by
 have hi:i<ps.length:=(qag.1 hg).1;have h1:=zj6 h i (by omega)
 have e:ps.drop i=g::ps.drop (i+1):=by
  obtain ⟨hlt,rfl⟩:=qag.1 hg;exact qaQ hlt
 rw [e,zaK]at h1;have h2:¬(zaz pw np g.used<1\/(zgm g.space (ps.drop (i+1)):Int)<zaz pw np g.used-1):=by
  intro hb;have:zch pw np g (ps.drop (i+1)) (zfa pw np ps i)=none:=by
   unfold zch;split
   · rfl
   · rw [if_neg (by omega:¬g.kind=0),if_neg (by omega:¬g.kind=1)]
  rw [this]at h1;cases h1
 have h3:(zaz pw np g.used-1).toNat<=zgm g.space (ps.drop (i+1)):=by omega
 obtain ⟨h4,h5⟩:=(zjy _ _ _).1 h3;rw [qaK]at h4;refine ⟨by omega,by omega,fun t ht ht2=>?_⟩
 have h6:t<ps.length:=by omega
 refine ⟨ps[t],qaj h6,?_⟩;unfold zbD at h5;rw [qaN]at h5;have h7:=h5 ps[t] (by
  rw [List.mem_iff_getElem?];refine ⟨t-(i+1),?_⟩;rw [qa7,if_pos (by omega),qa5]
  rw [show i+1+(t-(i+1))=t from by omega,qaj h6])
 exact qaq h7
structure Begins (h:Hp) (a:Int) (i j:Nat) (g:Pg):Prop where
 ok:okH h=true
 oi:ofI h.pw h.np a=i
 il:i<h.pages.length
 jl:(j:Int)<h.pw
 ad:a=4096+i*h.pw+j
 pg:h.pages[i]?=some g
 od:okD (zan h a)=true
 hd:atH h a=hdOf (zan h a)
 sz:osz h a=dN (zan h a)+1
 kd:(g.kind=1/\j+osz h a<=g.used/\g.used<=h.pw)\/(g.kind=2/\j=0/\osz h a=g.used/\1<=zaz h.pw h.np g.used)
 wl:a+osz h a<=4096+h.words.length
theorem zcc {h:Hp} {a:Int} (e:atE h a=0):∃ i j g,Begins h a i j g:=by
 have h1:okH h=true:=by
  cases h1:okH h
  · unfold atE at e;rw [h1]at e;simp at e
  · rfl
 have h5:ofE h.pw h.np a=0:=by
  by_cases h5:ofE h.pw h.np a=0
  · exact h5
  · unfold atE at e;rw [if_pos h1,if_neg h5]at e;cases e
 have h6:atB h a=true:=by
  cases h6:atB h a
  · unfold atE at e;rw [if_pos h1,if_pos h5,h6]at e;simp at e
  · rfl
 obtain ⟨hin,⟨i,j,e1,e2,hi,hj,ha⟩,t,ht,htl⟩:=zuw h1 h5;have hg:h.pages[i]?=some h.pages[i]:=qaj hi
 have hp:zcy h a=h.pages[i]:=by unfold zcy;rw [e1,qad];exact zaq hg
 have hh:atH h a=hdOf (zan h a):=by unfold atH;rw [if_pos e]
 have hz:osz h a=dN (zan h a)+1:=by unfold osz;rw [hh];rfl
 unfold atB at h6;rw [hp,e2]at h6;simp only [qae,qab]at h6;obtain ⟨⟨⟨k1,k2⟩,k3⟩,k4⟩:=h6;obtain ⟨c1,c2,c3,c4,c5,c6,c7⟩:=zap h1;obtain ⟨p1,p2,p3,p4,p5⟩:=zak c1;have hm:=zaM _ _ _ _ c7 _ (qav hg);have pp:=za0 (p:=i) c1 (by omega) (by omega)
 have kd:(h.pages[i].kind=1/\j+osz h a<=h.pages[i].used/\h.pages[i].used<=h.pw)\/(h.pages[i].kind=2/\j=0/\osz h a=h.pages[i].used/\1<=zaz h.pw h.np h.pages[i].used):=by
  rcases k1 with k1 | k1
  · left
    rw [if_pos k1]at k4;have:=qaq k4
    have h9:=hm.2.2.2.2.2.1 k1;refine ⟨k1,by rw [hz];omega,h9.2⟩
  · right
    rw [if_neg (by omega)]at k4
    obtain ⟨m1,m2⟩:=qaq k4;refine ⟨k1,by omega,by rw [hz];exact m2,hm.2.2.2.2.2.2.1 k1⟩
 refine ⟨i,j,h.pages[i],h1,e1,hi,hj,ha,hg,k3,hh,hz,kd,?_⟩;rcases kd with ⟨k,l,m⟩ | ⟨k,l,m,n⟩
 · omega
 · obtain ⟨t1,t2,t3⟩:=zdK c7 hg k;obtain ⟨f1,f2,-⟩:=zft n;have:(i:Int)*h.pw+zaz h.pw h.np h.pages[i].used*h.pw<=h.np*h.pw:=by
    rw [<-qbG];exact qaR (by omega) (by omega)
   omega
theorem Begins.pos {h:Hp} {a:Int} {i j:Nat} {g:Pg} (b:Begins h a i j g):1<=osz h a/\4096<=a:=by
 obtain ⟨c1,c2,c3,c4,c5,c6,c7⟩:=zap b.ok;obtain ⟨p1,p2,p3,p4,p5⟩:=zak c1;have pp:=za0 (p:=i) c1 (by omega) (by have:=b.il;omega)
 have:=b.sz
 have:=b.ad
 omega
theorem Begins.upto {h:Hp} {a:Int} {i j:Nat} {g:Pg} (b:Begins h a i j g):1<=zd7 h g/\4096+(i:Int)*h.pw<=a/\a+osz h a<=4096+((i:Int)+zd7 h g)*h.pw/\∀ t:Nat,i<t->(t:Int)<i+zd7 h g->∃ y,h.pages[t]?=some y/\y.kind=3:=by
 obtain ⟨c1,c2,c3,c4,c5,c6,c7⟩:=zap b.ok;obtain ⟨p1,p2,p3,p4,p5⟩:=zak c1;have ha:=b.ad;rw [qbG];rcases b.kd with ⟨k,l,m⟩ | ⟨k,l,m,n⟩
 · have e:zd7 h g=1:=by unfold zd7;rw [if_neg (by omega)]
   rw [e,qbk];exact ⟨by omega,by omega,by omega,fun t h1 h2=>by omega⟩
 · have e:zd7 h g=zaz h.pw h.np g.used:=by unfold zd7;rw [if_pos k]
   obtain ⟨f1,f2,-⟩:=zft n;obtain ⟨t1,t2,t3⟩:=zdK c7 b.pg k;rw [e];refine ⟨by omega,by omega,by omega,fun t h1 h2=>?_⟩
   obtain ⟨y,h3,h4,-⟩:=t3 t h1 h2;exact ⟨y,h3,h4⟩
theorem zpz {h:Hp} {a b:Int} {i j k l:Nat} {g f:Pg} (ha:Begins h a i j g) (hb:Begins h b k l f) (hik:i<k):a+osz h a<=b:=by
 obtain ⟨u1,u2,u3,u4⟩:=ha.upto;obtain ⟨v1,v2,v3,v4⟩:=hb.upto;obtain ⟨c1,-⟩:=zap ha.ok;obtain ⟨p1,p2,p3,p4,p5⟩:=zak c1;have h1:¬(k:Int)<i+zd7 h g:=fun hlt=>by
  obtain ⟨y,y1,y2⟩:=u4 k hik hlt;rw [hb.pg]at y1;injection y1 with y1
  subst y1;rcases hb.kd with ⟨z,-⟩ | ⟨z,-⟩ <;> omega
 have:((i:Int)+zd7 h g)*h.pw<=(k:Int)*h.pw:=qaR (by omega) (by omega)
 omega
theorem zaH {h:Hp} {a:Int} {i j:Nat} {g:Pg} (ha:Begins h a i j g) {k:Nat} {f:Pg} (hf:h.pages[k]?=some f) (hk:f.kind=0):a+osz h a<=4096+(k:Int)*h.pw\/4096+(k:Int)*h.pw+h.pw<=a:=by
 obtain ⟨u1,u2,u3,u4⟩:=ha.upto;obtain ⟨c1,-⟩:=zap ha.ok;obtain ⟨p1,p2,p3,p4,p5⟩:=zak c1;have hne:i≠k:=fun e=>by
  subst e;have:=ha.pg
  rw [hf]at this;injection this with this
  subst this;rcases ha.kd with ⟨z,-⟩ | ⟨z,-⟩ <;> omega
 by_cases hik:i<k
 · left
   have h1:¬(k:Int)<i+zd7 h g:=fun hlt=>by
    obtain ⟨y,y1,y2⟩:=u4 k hik hlt;rw [hf]at y1;injection y1 with y1
    subst y1;omega
   have:((i:Int)+zd7 h g)*h.pw<=(k:Int)*h.pw:=qaR (by omega) (by omega)
   omega
 · right
   have e1:((k:Int)+1)*h.pw<=(i:Int)*h.pw:=qaR (by omega) (by omega)
   rw [qbG,qbk]at e1;omega
theorem zjP (h:Hp) (i:Nat) (u:Nat) (hc:confB h.pw h.np=true) (hi:(i:Int)<h.np) (hu:(u:Int)<=h.pw):∀ (f o:Nat) (l:List Int),u-o<=f->zcg h i false u o=some l ->
 (∀ a∈l,4096+(i:Int)*h.pw+o<=a)/\l.Pairwise (fun a b=>a+osz h a<=b)
 | f,o,l,hf,hl=>by
  by_cases hlt:o<u
  · have he:atE h (za5 h.pw h.np i o)=0:=by
     by_cases he:atE h (za5 h.pw h.np i o)=0
     · exact he
     · rw [zde hlt he]at hl;cases hl
    have hA:za5 h.pw h.np i o=4096+(i:Int)*h.pw+o:=(zeg hc (by unfold inPg;exact qac (by omega))).1
    rw [zcI hlt he]at hl;obtain ⟨l2,hl2,rfl⟩:=qb5.1 hl;match f,hf with
    | f+1,hf=>
     have hn:=(zez he).2.2.2.2.1;obtain ⟨s1,s2⟩:=zjP h i u hc hi hu f _ l2 (by omega) hl2
     refine ⟨fun a ha=>?_,qcf.2 ⟨fun b hb=>?_,s2⟩⟩
     · rcases qar.1 ha with rfl | ha
       · omega
       · have:=s1 a ha;omega
     · have:=s1 b hb
       unfold osz;omega
    | 0,hf=>omega
  · rw [zbI hlt]at hl;obtain rfl:=Option.some.inj hl;exact ⟨fun a ha=>(by cases ha),List.Pairwise.nil⟩
theorem ziV {h:Hp} (h1:okH h=true) (i:Nat) (hi:i<h.pages.length):(zaE h i).Pairwise (fun a b=>a+osz h a<=b)/\∀ a∈zaE h i,∃ j g,Begins h a i j g:=by
 obtain ⟨c1,c2,c3,c4,c5,c6,c7⟩:=zap h1;obtain ⟨p1,p2,p3,p4,p5⟩:=zak c1;have hg:h.pages[i]?=some h.pages[i]:=qaj hi
 have hpg:pgAt h i=h.pages[i]:=by unfold pgAt;rw [qad];exact zaq hg
 have hm:=zaM _ _ _ _ c7 _ (qav hg);have hno:¬((i:Int)<0\/(h.pages.length:Int)<=i):=by omega
 by_cases h3:(pgAt h i).kind=0\/(pgAt h i).kind=3
 · rw [(zer h1 hno h3).2];exact ⟨List.Pairwise.nil,fun a ha=>by cases ha⟩
 · rw [(zeq h1 hno h3).2];rw [hpg]at h3;have hk:h.pages[i].kind=1\/h.pages[i].kind=2:=by omega
   cases hw:zcH h i with
   | none=>exact ⟨List.Pairwise.nil,fun a ha=>by cases ha⟩
   | some l=>
    rw [Option.getD_some];unfold zcH at hw;rw [hpg]at hw;have hat:=zpY h i _ _ _ 0 l (qan _) hw;have hbg:∀ a∈l,∃ j g,Begins h a i j g:=fun a ha=>by
     obtain ⟨e1,o,o1,o2,o3⟩:=hat a ha;obtain ⟨i2,j,g,hb⟩:=zcc e1;have hi2:i2=i:=by
      have h4:=hb.oi;rw [o3]at h4;cases hpi:inPg h.pw h.np i o with
      | false=>
       have h8:=(znP c1 hpi).1;have:=hb.pos.2
       omega
      | true=>
       obtain ⟨a1,a2,a3⟩:=zkd c1 hpi;rw [(zeg c1 hpi).1,(zh5 c1 a1).1,a2]at h4;omega
     subst hi2;exact ⟨j,g,hb⟩
    refine ⟨?_,hbg⟩;rcases hk with hk | hk
    · rw [show decide (h.pages[i].kind=2)=false from qak (by omega)]at hw
      have h9:=hm.2.2.2.2.2.1 hk;exact (zjP h i _ c1 (by omega) (by omega) _ 0 l (qan _) hw).2
    · rw [show decide (h.pages[i].kind=2)=true from qac hk]at hw
      by_cases hlt:0<h.pages[i].used.toNat
      · by_cases he:atE h (za5 h.pw h.np i ((0:Nat):Int))=0
        · rw [zdV hlt he]at hw;obtain rfl:=Option.some.inj hw;exact List.pairwise_singleton _ _
        · rw [zde hlt he]at hw;cases hw
      · rw [zbI hlt]at hw;obtain rfl:=Option.some.inj hw;exact List.Pairwise.nil
theorem zcN {h:Hp} (h1:okH h=true):∀ k:Nat,k<=h.pages.length->(zbt h k).Pairwise (fun a b=>a+osz h a<=b)/\∀ a∈zbt h k,∃ i j g,i<k/\Begins h a i j g
 | 0,_=>by
  have:zbt h 0=[]:=rfl
  rw [this];exact ⟨List.Pairwise.nil,fun a ha=>by cases ha⟩
 | k+1,hk=>by
  obtain ⟨s1,s2⟩:=zcN h1 k (by omega)
  obtain ⟨t1,t2⟩:=ziV h1 k (by omega)
  rw [zdu];refine ⟨List.pairwise_append.2 ⟨s1,t1,fun a ha b hb=>?_⟩,fun a ha=>?_⟩
  · obtain ⟨i,j,g,hi,hba⟩:=s2 a ha;obtain ⟨l,f,hbb⟩:=t2 b hb;exact zpz hba hbb hi
  · rcases qao.1 ha with ha | ha
    · obtain ⟨i,j,g,hi,hba⟩:=s2 a ha;exact ⟨i,j,g,by omega,hba⟩
    · obtain ⟨j,g,hba⟩:=t2 a ha;exact ⟨k,j,g,by omega,hba⟩
theorem zea (h:Hp):(zaf h).Pairwise (fun a b=>a+osz h a<=b):=by
 unfold zaf zcb;refine List.Pairwise.filter _ ?_;unfold zas;by_cases h1:okH h=true
 · rw [if_pos h1];split
   · exact (zcN h1 _ (qan _)).1
   · exact List.Pairwise.nil
 · rw [if_neg h1];exact List.Pairwise.nil
theorem zfj {R:Int->Int->Prop}:∀ {l:List Int},l.Pairwise R->∀ {a b:Int},a∈l->b∈l->a=b\/R a b\/R b a
 | [],_,a,b,ha,_=>by cases ha
 | c::l,hp,a,b,ha,hb=>by
  obtain ⟨h1,h2⟩:=qcf.1 hp;rcases qar.1 ha with ha2 | ha2 <;> rcases qar.1 hb with hb2 | hb2
  · exact Or.inl (ha2.trans hb2.symm)
  · subst ha2;exact Or.inr (Or.inl (h1 _ hb2))
  · subst hb2;exact Or.inr (Or.inr (h1 _ ha2))
  · exact zfj h2 ha2 hb2
theorem zcS {h:Hp} {a b:Int} (ha:a∈zaf h) (hb:b∈zaf h) (hne:a≠b):a+osz h a<=b\/b+osz h b<=a :=
 (zfj (zea h) ha hb).resolve_left hne
theorem zai {h:Hp} {a:Int} (ha:a∈zaf h):∃ i j g,Begins h a i j g:=zcc (zc3 ha).1
theorem zaL {len:Nat} {a:Int} {n:Nat}:okA len a n=true↔4096<=a/\a+n<=4096+len:=by
 unfold okA;rw [qab];omega
theorem zcp (xs:List Int) {a:Int} (h:4096<=a):zar xs a=(xs[(a-4096).toNat]?).getD 0:=by
 unfold zar;by_cases hk:okA xs.length a 1=true
 · rw [if_pos hk,qaD]
 · rw [if_neg hk];have:xs[(a-4096).toNat]?=none:=by
    rw [qcg];have h2:¬(4096<=a/\a+(1:Nat)<=4096+xs.length):=fun c=>hk (zaL.2 c)
    omega
   rw [this];rfl
theorem zjD (xs:List Int) {a:Int} (h:a<4096):zar xs a=0:=by
 unfold zar okA;rw [if_neg];simp only [qab];omega
theorem zce {xs l:List Int} {p:Int} (h:okA xs.length p l.length=true):(zax xs p l).length=xs.length:=by
 unfold zax;rw [if_pos h]
 have:=zaL.1 h
 exact zc0 (by omega)
theorem za4 {xs l:List Int} {p:Int} (h:okA xs.length p l.length=true) {a:Int} (ha:a<p\/p+l.length<=a):zar (zax xs p l) a=zar xs a:=by
 have h2:=zaL.1 h;by_cases h4:4096<=a
 · rw [zcp _ h4,zcp _ h4];unfold zax;rw [if_pos h,zen (by omega) (by omega)]
 · rw [zjD _ (by omega),zjD _ (by omega)]
theorem zdw {xs:List Int} {p v:Int} (h:okA xs.length p 1=true):zar (zax xs p [v]) p=v:=by
 have h2:=zaL.1 h;rw [zcp _ h2.1];unfold zax;rw [if_pos (show okA xs.length p [v].length=true from h),zdh (by simp;omega) (qan _) (by simp),qbI];rfl
theorem znm {xs:List Int} {t f n:Int} (h0:0<=n) (ht:okA xs.length t n.toNat=true) (hf:okA xs.length f n.toNat=true):(zeL xs t f n).length=xs.length:=by
 unfold zeL;rw [if_neg (by omega),if_pos ⟨ht,hf⟩]
 have h1:=zaL.1 ht;have h2:=zaL.1 hf;refine zc0 ?_;rw [qax,qaK];omega
theorem zg6 {xs:List Int} {t f n:Int} (h0:0<=n) (ht:okA xs.length t n.toNat=true) (hf:okA xs.length f n.toNat=true) {a:Int} (ha:a<t\/t+n<=a):zar (zeL xs t f n) a=zar xs a:=by
 have h1:=zaL.1 ht;have h2:=zaL.1 hf;by_cases h4:4096<=a
 · rw [zcp _ h4,zcp _ h4];unfold zeL;rw [if_neg (by omega),if_pos ⟨ht,hf⟩,zen (by rw [qax,qaK];omega) (by rw [qax,qaK];omega)]
 · rw [zjD _ (by omega),zjD _ (by omega)]
theorem ziW {xs:List Int} {t f n:Int} (h0:0<=n) (ht:okA xs.length t n.toNat=true) (hf:okA xs.length f n.toNat=true) {k:Int} (hk0:0<=k) (hk:k<n):zar (zeL xs t f n) (t+k)=zar xs (f+k):=by
 have h1:=zaL.1 ht;have h2:=zaL.1 hf;rw [zcp _ (by omega),zcp _ (by omega)]
 unfold zeL;rw [if_neg (by omega),if_pos ⟨ht,hf⟩,zdh (by rw [qax,qaK];omega) (by omega) (by rw [qax,qaK];omega),qa7,if_pos (by omega),qa5]
 congr 2;omega
def zbq (x:Wk) (q:Int):Prop:=∃ (k:Nat) (g:Pg),(k:Int)∈x.taken/\x.h.pages[k]?=some g/\4096+(k:Int)*x.h.pw<=q/\okD (evWd x q).toNat=true/\q+evN x q<=4096+(k:Int)*x.h.pw+g.used
def zcL (x:Wk) (a:Int):Bool:=decide (¬a∈x.queue) && !okT (evWd x a).toNat
structure Inv (h:Hp) (x:Wk):Prop where
 ok:okH h=true
 pw:x.h.pw=h.pw
 np:x.h.np=h.np
 sp:x.h.space=h.space
 old:x.old=zaf h
 wl:x.h.words.length=h.words.length
 pl:x.h.pages.length=h.pages.length
 tk:∀ t∈x.taken,∃ (k:Nat) (g0 g:Pg),t=(k:Int)/\h.pages[k]?=some g0/\g0.kind=0/\x.h.pages[k]?=some g/\g.kind=1/\0<=g.used/\g.used<=h.pw
 pg:∀ (k:Nat) (g0:Pg),h.pages[k]?=some g0->¬(k:Int)∈x.taken->∃ g,x.h.pages[k]?=some g/\g.kind=g0.kind/\g.used=g0.used
 tl:x.taken.length<=zbr x.h.pages
 un:∀ a∈zaf h,evWd x a=zar h.words a\/(okT (evWd x a).toNat=true/\¬a∈x.queue/\zd8 x (ofI h.pw h.np a)=false)
 qs:∀ q∈x.queue,q∈zaf h\/zbq x q
 dj:∀ q∈x.queue,∀ r∈x.queue,zbq x q->zbq x r->q≠r->q+evN x q<=r\/r+evN x r<=q
 cnt:x.queue.length+((zaf h).filter (zcL x)).length<=(zaf h).length
structure Later (x y:Wk):Prop where
 sc:y.sc=x.sc
 qu:∃ l,y.queue=x.queue++l
 hd:∀ q∈x.queue,evWd y q=evWd x q
theorem Later.refl (x:Wk):Later x x:=⟨rfl,⟨[],by simp⟩,fun _ _=>rfl⟩
theorem Later.mem {x y:Wk} (h:Later x y) {q:Int} (hq:q∈x.queue):q∈y.queue:=by
 obtain ⟨l,e⟩:=h.qu;rw [e];exact qa3 _ hq
theorem Later.trans {x y z:Wk} (h:Later x y) (k:Later y z):Later x z:=by
 refine ⟨k.sc.trans h.sc,?_,fun q hq=>(k.hd q (h.mem hq)).trans (h.hd q hq)⟩
 obtain ⟨l,e⟩:=h.qu;obtain ⟨m,f⟩:=k.qu;exact ⟨l++m,by rw [f,e,qaG]⟩
theorem zhg {x:Wk} {a:Int} (h:okD (evWd x a).toNat=true):evN x a=dN (evWd x a).toNat+1/\(evH x a).n=dN (evWd x a).toNat:=by
 have e:=zmy h;have v:=(zcR h).2.2;refine ⟨?_,?_⟩
 · unfold evN;rw [e.1,e.2.1,e.2.2,zbj v]
 · unfold evH;exact e.2.1
theorem zd0 {h:Hp} {x:Wk} {a:Int} (ha:a∈zaf h) (e:evWd x a=zar h.words a):okD (evWd x a).toNat=true/\evN x a=osz h a/\(evH x a).n+1=osz h a/\okT (evWd x a).toNat=false:=by
 obtain ⟨i,j,g,b⟩:=zai ha;have hp:=b.pos;have h1:(evWd x a).toNat=zan h a:=by
  rw [e,zcp _ hp.2];unfold zan;rw [qaD]
 have h2:okD (evWd x a).toNat=true:=by rw [h1];exact b.od
 obtain ⟨e1,e2⟩:=zhg h2;have hs:=b.sz;rw [<-h1]at hs;refine ⟨h2,by omega,by omega,?_⟩
 rw [<-qbp];exact fun c=>apart _ ⟨h2,c⟩
theorem Inv.kept {h:Hp} {x:Wk} (I:Inv h x) {a:Int} (ha:a∈zaf h) (hq:a∈x.queue):evWd x a=zar h.words a :=
 (I.un a ha).elim id (fun c=>absurd hq c.2.1)
theorem Inv.conf {h:Hp} {x:Wk} (I:Inv h x):16<=h.pw/\h.pw<=64/\8<=h.np/\h.np<=64/\(h.words.length:Int)=h.np*h.pw/\(h.pages.length:Int)=h.np/\h.np*h.pw<=4096/\0<=h.space/\h.space<=1:=by
 obtain ⟨c1,c2,c3,c4,c5,c6,c7⟩:=zap I.ok;obtain ⟨p1,p2,p3,p4,p5⟩:=zak c1;exact ⟨p1,p2,p4,p5,c2,c3,(conf_prod c1).2,c4,c5⟩
theorem Inv.qlen {h:Hp} {x:Wk} (I:Inv h x):x.queue.length<=(zaf h).length/\(zaf h).length<=4096:=by
 refine ⟨by have:=I.cnt;omega,?_⟩
 unfold zaf zcb;exact qaE (qbR _ _) (zcZ h)
theorem Inv.plok {h:Hp} {x:Wk} (I:Inv h x):PlOK x:=by
 obtain ⟨c1,c2,c3,c4,c5,c6,c7,c8,c9⟩:=I.conf;have h1:=I.pl;refine ⟨by rw [I.pw];exact c1,by rw [I.pw];exact c2,by omega,by omega,by rw [I.sp];exact c8,by rw [I.sp];exact c9,?_,fun l hl=>?_⟩
 · have h2:=I.tl;have h3:=zg9 x.h.pages;omega
 · obtain ⟨k,g0,g,e,-,-,h4,-,h5,h6⟩:=I.tk l (qcz hl);exact ⟨k,e,g,h4,h5,by rw [I.pw];exact h6⟩
theorem Inv.fwok {h:Hp} {x:Wk} (I:Inv h x):FwOK x:=by
 have h1:=I.conf;have h2:=I.wl;have h3:=I.qlen;exact ⟨I.plok,by omega,by omega⟩
theorem Inv.copy {h:Hp} {x:Wk} (I:Inv h x) {q:Int} (hc:zbq x q):∃ (k:Nat) (g0:Pg),h.pages[k]?=some g0/\g0.kind=0/\(k:Int)<h.np/\4096+(k:Int)*h.pw<=q/\q+evN x q<=4096+(k:Int)*h.pw+h.pw/\1<=evN x q/\okD (evWd x q).toNat=true:=by
 obtain ⟨k,g,h1,h2,h3,h4,h5⟩:=hc;obtain ⟨k2,g0,g2,e,f1,f2,f3,f4,f5,f6⟩:=I.tk _ h1;obtain rfl:k=k2:=by omega
 rw [h2]at f3;injection f3 with f3
 subst f3;have:=(zhg h4).1
 have h7:=(qag.1 f1).1;have h8:=I.conf;rw [I.pw]at h3 h5;exact ⟨k,g0,f1,f2,by omega,h3,by omega,by omega,h4⟩
theorem Inv.old_copy {h:Hp} {x:Wk} (I:Inv h x) {a q:Int} (ha:a∈zaf h) (hc:zbq x q):a+osz h a<=q\/q+evN x q<=a:=by
 obtain ⟨k,g0,h1,h2,h3,h4,h5,h6,h7⟩:=I.copy hc;obtain ⟨i,j,g,b⟩:=zai ha;have:=zaH b h1 h2
 omega
theorem Inv.inside {h:Hp} {x:Wk} (I:Inv h x) {A i:Int} (hA:A∈x.queue) (h0:0<=i) (h1:i<(evH x A).n) :
 okA x.h.words.length (A+1+i) 1=true/\(∀ a∈zaf h,A+1+i≠a)/\(∀ q∈x.queue,A+1+i≠q):=by
 have hcf:=I.conf;have hwl:=I.wl;rcases I.qs A hA with ho | hc
 · have e:=I.kept ho hA;obtain ⟨e1,e2,e3,e4⟩:=zd0 ho e;obtain ⟨i2,j2,g,b⟩:=zai ho;have hb:=b.pos;have hbl:=b.wl;have hold:∀ a∈zaf h,A+1+i≠a:=fun a ha eq=>by
    by_cases hne:A=a
    · omega
    · have h2:=zcS ho ha hne;obtain ⟨i3,j3,g3,b3⟩:=zai ha;have:=b3.pos
      omega
   refine ⟨zaL.2 (by omega),hold,fun q hq eq=>?_⟩
   rcases I.qs q hq with h2 | h2
   · exact hold q h2 eq
   · have h3:=I.old_copy ho h2;obtain ⟨k,g0,f1,f2,f3,f4,f5,f6,f7⟩:=I.copy h2;omega
 · obtain ⟨k,g0,f1,f2,f3,f4,f5,f6,f7⟩:=I.copy hc;obtain ⟨e1,e2⟩:=zhg f7;obtain ⟨c1,-⟩:=zap I.ok;have pp:=za0 (p:=k) c1 (by omega) f3
   have hold:∀ a∈zaf h,A+1+i≠a:=fun a ha eq=>by
    have h3:=I.old_copy ha hc;obtain ⟨i3,j3,g3,b3⟩:=zai ha;have:=b3.pos
    omega
   refine ⟨zaL.2 (by omega),hold,fun q hq eq=>?_⟩
   rcases I.qs q hq with h2 | h2
   · exact hold q h2 eq
   · by_cases hne:A=q
     · omega
     · have h3:=I.dj A hA q hq hc h2 hne;obtain ⟨k2,g2,d1,d2,d3,d4,d5,d6,d7⟩:=I.copy h2;omega
theorem zkI {p q:Int->Bool}:∀ {l:List Int},(∀ a∈l,p a=q a)->l.filter p=l.filter q
 | [],_=>rfl
 | a::l,h=>by
  rw [qb8,qb8,h a (qaT ..),zkI (fun b hb=>h b (qaC _ hb))]
theorem zgz {p q:Int->Bool} {c:Int}:∀ {l:List Int},(∀ a∈l,q a=true->p a=true)->c∈l->p c=true->q c=false->(l.filter q).length+1<=(l.filter p).length
 | [],_,hc,_,_=>by cases hc
 | a::l,h,hc,hp,hq=>by
  have hle:∀ {m:List Int},(∀ a∈m,q a=true->p a=true)->(m.filter q).length<=(m.filter p).length:=by
   intro m;induction m with
   | nil=>intro _;exact qan _
   | cons b m ih=>
    intro hm;have h1:=ih (fun a ha=>hm a (qaC _ ha))
    have h2:=hm b (qaT ..);rw [qb8,qb8];cases hqb:q b
    · simp only [qbh,qbd];cases p b <;> simp <;> omega
    · rw [h2 hqb];simp;omega
  rw [qb8,qb8];rcases qar.1 hc with rfl | hc
  · rw [hp,hq];have:=hle (m:=l) (fun a ha=>h a (qaC _ ha))
    simp;omega
  · have h1:=zgz (fun a ha=>h a (qaC _ ha)) hc hp hq
    have h2:=h a (qaT ..);cases hqb:q a
    · simp only [qbh,qbd];cases p a <;> simp <;> omega
    · rw [h2 hqb];simp;omega
theorem Inv.write {h:Hp} {x:Wk} (I:Inv h x) {p v:Int} (hp:okA x.h.words.length p 1=true) (h1:∀ a∈zaf h,p≠a) (h2:∀ q∈x.queue,p≠q) :
 Inv h { x with h:={ x.h with words:=zax x.h.words p [v] } }/\Later x { x with h:={ x.h with words:=zax x.h.words p [v] } }:=by
 have hev:∀ a,p≠a->evWd { x with h:={ x.h with words:=zax x.h.words p [v] } } a=evWd x a:=fun a ha=>by
  unfold evWd;exact za4 (l:=[v]) hp (by simp only [qbJ];omega)
 have hcp:∀ q∈x.queue,(zbq { x with h:={ x.h with words:=zax x.h.words p [v] } } q↔zbq x q):=fun q hq=>by
  unfold zbq evN;rw [hev q (h2 q hq)]
 have hn:∀ q∈x.queue,evN { x with h:={ x.h with words:=zax x.h.words p [v] } } q=evN x q:=fun q hq=>by
  unfold evN;rw [hev q (h2 q hq)]
 refine ⟨⟨I.ok,I.pw,I.np,I.sp,I.old,?_,I.pl,I.tk,I.pg,I.tl,fun a ha=>?_,fun q hq=>?_,fun q hq r hr cq cr hne=>?_,?_⟩,⟨rfl,⟨[],by simp⟩,fun q hq=>hev q (h2 q hq)⟩⟩
 · exact (zce (l:=[v]) hp).trans I.wl
 · rw [hev a (h1 a ha)];exact I.un a ha
 · rcases I.qs q hq with c | c
   · exact Or.inl c
   · exact Or.inr ((hcp q hq).2 c)
 · rw [hn q hq,hn r hr];exact I.dj q hq r hr ((hcp q hq).1 cq) ((hcp r hr).1 cr) hne
 · rw [zkI (q:=zcL x) (fun a ha=>by unfold zcL;rw [hev a (h1 a ha)])];exact I.cnt
theorem zkB:∀ {ps:List Pg} {k:Nat} {z y:Pg},ps[k]?=some z->zbr (ps.set k y)+(if z.kind=0 then 0 else 1)=zbr ps+(if y.kind=0 then 0 else 1)
 | [],k,z,y,h=>by simp at h
 | a::r,0,z,y,h=>by
  simp at h;subst h
  rw [List.set_cons_zero,zbr,zbr];omega
 | a::r,k+1,z,y,h=>by
  have ih:=zkB (ps:=r) (k:=k) (z:=z) (y:=y) (by simpa using h)
  rw [List.set_cons_succ,zbr,zbr];omega
theorem zkC:∀ {ps qs:List Pg},ps.map (·.kind)=qs.map (·.kind)->zbr ps=zbr qs
 | [],[],_=>rfl
 | [],_::_,h=>by simp at h
 | _::_,[],h=>by simp at h
 | a::r,b::s,h=>by
  simp at h
  rw [zbr,zbr,h.1,zkC (ps:=r) (qs:=s) h.2]
theorem Inv.place {h:Hp} {x:Wk} (I:Inv h x) {n:Int} (hn0:1<=n) (hn:n<=h.pw) (hb:plB x n=true):∃ (J:Nat) (u:Int) (g0 g1:Pg),
 plA x n=4096+(J:Int)*h.pw+u/\0<=u/\u+n<=h.pw/\(J:Int)<h.np/\h.pages[J]?=some g0/\g0.kind=0 /\
 (∀ k:Nat,k≠J->(plW x n).h.pages[k]?=x.h.pages[k]?)/\(plW x n).h.pages[J]?=some g1/\g1.kind=1/\g1.used=u+n /\
 (plW x n).h.pages.length=x.h.pages.length/\(J:Int)∈(plW x n).taken/\(∀ t,t∈(plW x n).taken↔t∈x.taken\/t=J)/\(plW x n).taken.length<=zbr (plW x n).h.pages /\
 ((J:Int)∈x.taken->∃ g,x.h.pages[J]?=some g/\g.used=u):=by
 have hcf:=I.conf;obtain ⟨J,y,p1,p2,p3,p4,p5,p6,p7⟩:=zfT I.plok hb;have hpl:=I.pl;have htl:=I.tl;have e1:(plW x n).h.pages=(plPs x n).set J ⟨y.kind,y.space,y.used+n,y.pins⟩:=by
  show zf0 (plPs x n) (plJ x n).toNat n=_
  unfold zf0;rw [p1,qad,zaq p4]
 have e2:(plW x n).taken=plT x n:=rfl
 have hA:plA x n=4096+(J:Int)*h.pw+y.used:=by
  unfold plA;rw [p1,qad,zaq p4,I.pw]
 rw [I.pw]at p6 p7;have hJ:(plW x n).h.pages[J]?=some ⟨y.kind,y.space,y.used+n,y.pins⟩:=by
  rw [e1,qaP];simp [p3,p2]
 have hu1:zbr (plW x n).h.pages=zbr (plPs x n):=by
  have:=zkB (y:=⟨y.kind,y.space,y.used+n,y.pins⟩) p4
  rw [e1];simp only at this;omega
 rcases p7 with ⟨r1,r2,r3,r4⟩ | ⟨r1,r2,r3,r4,z,r5,r6⟩
 · have hm:(J:Int)∈x.taken:=qcz r3;obtain ⟨k2,g0,g,f0,f1,f2,f3,f4,f5,f6⟩:=I.tk _ hm;obtain rfl:J=k2:=by omega
   rw [r2]at p4;rw [f3]at p4;injection p4 with p4
   subst p4;have hT:(plW x n).taken=x.taken:=by rw [e2];unfold plT;rw [if_pos r1]
   refine ⟨J,g.used,g0,_,hA,f5,r4,by omega,f1,f2,fun k hk=>?_,hJ,f4,rfl,by rw [e1,List.length_set,p3],by rw [hT];exact hm,fun t=>?_,?_,fun _=>⟨g,f3,rfl⟩⟩
   · rw [e1,qbH (by omega),r2]
   · rw [hT];constructor
     · intro h;exact Or.inl h
     · rintro (h | rfl)
       · exact h
       · exact hm
   · rw [hu1,hT,r2];exact htl
 · have hnt:¬(J:Int)∈x.taken:=fun hm=>by
    obtain ⟨k2,g0,g,f0,f1,f2,f3,f4,f5,f6⟩:=I.tk _ hm;obtain rfl:J=k2:=by omega
    rw [r5]at f3;injection f3 with f3
    subst f3;omega
   have hlt:J<h.pages.length:=by omega
   obtain ⟨g,f1,f2,f3⟩:=I.pg J h.pages[J] (qaj hlt) hnt;rw [r5]at f1;injection f1 with f1
   subst f1;have hT:(plW x n).taken=x.taken++[(J:Int)]:=by rw [e2];unfold plT;rw [r1,r2];rfl
   subst r4;refine ⟨J,0,h.pages[J],_,hA,Int.le_refl _,by omega,by omega,qaj hlt,by omega,fun k hk=>?_,hJ,rfl,rfl,by rw [e1,List.length_set,p3],by rw [hT];simp,fun t=>?_,?_,fun hm=>absurd hm hnt⟩
   · rw [e1,qbH (by omega),r3,qbH (by omega)]
   · rw [hT];simp
   · rw [hu1,hT,r3,qay];have:=zkB (y:=⟨1,1-x.h.space,0,0⟩) r5
     rw [if_pos r6,if_neg (by simp)]at this
     simp only [qbJ];omega
theorem zsH {x y:Wk} {i:Nat} (h1:y.h.pages[i]?=x.h.pages[i]?) (h2:y.h.space=x.h.space) (h3:(i:Int)∈y.taken↔(i:Int)∈x.taken):zd8 y i=zd8 x i:=by
 unfold zd8;rw [qad,h1,h2];cases x.h.pages[i]? with
 | none=>rfl
 | some g=>simp only [h3]
theorem Inv.begun {h:Hp} {x:Wk} (I:Inv h x) {a:Int} {i j:Nat} {g:Pg} (b:Begins h a i j g):¬(i:Int)∈x.taken:=fun hm=>by
 obtain ⟨k2,g0,g2,f0,f1,f2,-⟩:=I.tk _ hm;obtain rfl:i=k2:=by omega
 have:=b.pg
 rw [f1]at this;injection this with this
 subst this;rcases b.kd with ⟨k,-⟩ | ⟨k,-⟩ <;> omega
theorem zm4 {a:Int} (h0:0<=a) (h1:a<4294967296):okT (fwdV a).toNat=true:=by
 rw [(zwY h1).1];refine okT_mk ?_ ?_ <;> omega
theorem Inv.keep {h:Hp} {x:Wk} (I:Inv h x) {a:Int} (ha:a∈zaf h) (hq:¬a∈x.queue) (ht:okT (evWd x a).toNat=false):Inv h (zdL x a)/\Later x (zdL x a):=by
 have e1:∀ b,evWd (zdL x a) b=evWd x b:=fun b=>rfl
 have e2:∀ b,evN (zdL x a) b=evN x b:=fun b=>rfl
 have e3:∀ b,zbq (zdL x a) b↔zbq x b:=fun b=>Iff.rfl
 have hm:∀ b,b∈(zdL x a).queue↔b∈x.queue\/b=a:=fun b=>by show b∈x.queue++[a]↔_;simp
 have hnc:∀ q,zbq x q->q≠a:=fun q hc e=>by
  subst e;have h1:=I.old_copy ha hc;obtain ⟨k,g0,f1,f2,f3,f4,f5,f6,f7⟩:=I.copy hc;obtain ⟨i,j,g,b⟩:=zai ha;have:=b.pos
  omega
 refine ⟨⟨I.ok,I.pw,I.np,I.sp,I.old,I.wl,I.pl,I.tk,I.pg,I.tl,fun b hb=>?_,fun q hqq=>?_,fun q hq2 r hr2 cq cr hne=>?_,?_⟩,⟨rfl,⟨[a],rfl⟩,fun _ _=>rfl⟩⟩
 · rcases I.un b hb with c | ⟨c1,c2,c3⟩
   · exact Or.inl c
   · refine Or.inr ⟨c1,fun hin=>?_,c3⟩
     rcases (hm b).1 hin with h2 | h2
     · exact c2 h2
     · subst h2;rw [ht]at c1;cases c1
 · rcases (hm q).1 hqq with h2 | h2
   · exact I.qs q h2
   · subst h2;exact Or.inl ha
 · have hq3:=((hm q).1 hq2).resolve_right (hnc q cq);have hr3:=((hm r).1 hr2).resolve_right (hnc r cr);exact I.dj q hq3 r hr3 cq cr hne
 · have h1:((zaf h).filter (zcL (zdL x a))).length+1<=((zaf h).filter (zcL x)).length:=by
    refine zgz (c:=a) (fun b hb hu=>?_) ha ?_ ?_
    · unfold zcL at hu ⊢
      simp only [qae,qab]at hu ⊢;exact ⟨fun h2=>hu.1 ((hm b).2 (Or.inl h2)),hu.2⟩
    · unfold zcL;simp [hq,ht]
    · unfold zcL;rw [qak (by simp [hm])];rfl
   have h2:(zdL x a).queue.length=x.queue.length+1:=by show (x.queue++[a]).length=_;simp
   have:=I.cnt
   omega
theorem zdW {P:Pg->Bool}:∀ {l:List Pg} {k:Nat},k<(l.takeWhile P).length->∃ y,l[k]?=some y/\P y=true
 | [],k,h=>by simp at h
 | a::l,k,h=>by
  rw [qcv]at h;split at h
  · rename_i hp;cases k with
    | zero=>exact ⟨a,rfl,hp⟩
    | succ k=>
     obtain ⟨y,h1,h2⟩:=zdW (l:=l) (k:=k) (by simpa using h)
     exact ⟨y,by simpa using h1,h2⟩
  · simp at h
theorem Inv.large {h:Hp} {x:Wk} (I:Inv h x) {i:Nat} {g:Pg} (hg:x.h.pages[i]?=some g) (hk:g.kind=2):Inv h (zcC x i)/\Later x (zcC x i)/\(∀ a,evWd (zcC x i) a=evWd x a)/\(zcC x i).queue=x.queue:=by
 have hat:∀ (k:Nat) (y:Pg),x.h.pages[k]?=some y->∃ s,(zcC x i).h.pages[k]?=some ⟨y.kind,s,y.used,y.pins⟩/\(¬(y.kind=2\/y.kind=3)->s=y.space):=fun k y hy=>by
  show ∃ s,(spc x.h.pages i (zcs x.h.pages i) (1-x.h.space))[k]?=_/\_
  unfold spc;rw [qcu,hy];simp only [qbF];by_cases hr:i<=k/\k<zcs x.h.pages i
  · rw [if_pos hr];refine ⟨1-x.h.space,rfl,fun hno=>?_⟩
    exfalso
    apply hno
    by_cases e:k=i
    · subst e;rw [hg]at hy;injection hy with hy;subst hy;exact Or.inl hk
    · right
      unfold zcs at hr;obtain ⟨z,z1,z2⟩:=zdW (l:=x.h.pages.drop (i+1)) (k:=k-(i+1)) (P:=fun y=>decide (y.kind=3)) (by omega)
      rw [qa5,show i+1+(k-(i+1))=k from by omega,hy]at z1
      injection z1 with z1
      subst z1;exact qaq z2
  · rw [if_neg hr];exact ⟨y.space,rfl,fun _=>rfl⟩
 have hkd:(zcC x i).h.pages.map (·.kind)=x.h.pages.map (·.kind):=by
  apply qbn
  intro k;rw [qbi,qbi];cases hy:x.h.pages[k]? with
  | some y=>
   obtain ⟨s,h1,-⟩:=hat k y hy;rw [h1];rfl
  | none=>
   have:(zcC x i).h.pages[k]?=none:=by
    show (spc x.h.pages i (zcs x.h.pages i) (1-x.h.space))[k]?=none
    unfold spc;rw [qcu,hy];rfl
   rw [this]
 have hln:(zcC x i).h.pages.length=x.h.pages.length:=by
  have:=congrArg List.length hkd
  rwa [qai,qai]at this
 have hcp:∀ q,zbq (zcC x i) q->zbq x q:=fun q ⟨k,g2,c1,c2,c3,c4,c5⟩=>by
  cases hy:x.h.pages[k]? with
  | some y=>
   obtain ⟨s,h1,-⟩:=hat k y hy;rw [h1]at c2;injection c2 with c2
   exact ⟨k,y,c1,hy,c3,c4,by subst c2;exact c5⟩
  | none=>
   have h1:=qcg.1 hy;have h2:=(qag.1 c2).1;omega
 refine ⟨⟨I.ok,I.pw,I.np,I.sp,I.old,I.wl,hln.trans I.pl,fun t ht=>?_,fun k g0 hg0 hnt=>?_,?_,fun a ha=>?_,fun q hq=>?_,fun q hq r hr cq cr hne=>I.dj q hq r hr (hcp q cq) (hcp r cr) hne,I.cnt⟩,⟨rfl,⟨[],by simp [zcC]⟩,fun _ _=>rfl⟩,fun _=>rfl,rfl⟩
 · obtain ⟨k,g0,g2,f0,f1,f2,f3,f4,f5,f6⟩:=I.tk t ht;obtain ⟨s,h1,-⟩:=hat k g2 f3;exact ⟨k,g0,_,f0,f1,f2,h1,f4,f5,f6⟩
 · obtain ⟨g2,f1,f2,f3⟩:=I.pg k g0 hg0 hnt;obtain ⟨s,h1,-⟩:=hat k g2 f1;exact ⟨_,h1,f2,f3⟩
 · rw [zkC hkd];exact I.tl
 · rcases I.un a ha with c | ⟨c1,c2,c3⟩
   · exact Or.inl c
   · refine Or.inr ⟨c1,c2,?_⟩;obtain ⟨i2,j2,g2,b⟩:=zai ha;rw [b.oi]at c3 ⊢
     obtain ⟨y,f1,f2,f3⟩:=I.pg i2 g2 b.pg (I.begun b);obtain ⟨s,h1,h2⟩:=hat i2 y f1;unfold zd8 at c3 ⊢
     rw [qad,f1]at c3;rw [qad,h1];simp only at c3 ⊢
     by_cases hk1:y.kind=1
     · rw [h2 (by omega)];exact c3
     · rw [qak hk1];simp
 · rcases I.qs q hq with c | ⟨k,y,c1,c2,c3,c4,c5⟩
   · exact Or.inl c
   · obtain ⟨s,h1,-⟩:=hat k y c2;exact Or.inr ⟨k,_,c1,h1,c3,c4,c5⟩
theorem Inv.copied {h:Hp} {x:Wk} (I:Inv h x) {a:Int} (ha:a∈zaf h) (hq:¬a∈x.queue) (ht:okT (evWd x a).toNat=false) (hpr:zd8 x (evI x a)=false) (hbig:zhh x a=false) (hpl:plB x (evN x a)=true) :
 Inv h (zbB x a)/\Later x (zbB x a):=by
 obtain ⟨c1,c2,c3,c4,c5,c6,c7,c8,c9⟩:=I.conf;obtain ⟨i,j,g,b⟩:=zai ha;have hbp:=b.pos;have hbw:=b.wl;have hwl:=I.wl;have e0:evWd x a=zar h.words a:=(I.un a ha).elim id (fun c=>by rw [ht]at c;exact absurd c.1 (by decide))
 obtain ⟨e1,e2,e3,-⟩:=zd0 ha e0;have hoi:evI x a=i:=by unfold evI;rw [I.pw,I.np];exact b.oi
 obtain ⟨y,f1,f2,f3⟩:=I.pg i g b.pg (I.begun b);have hk1:g.kind=1:=by
  rcases b.kd with ⟨k,-⟩ | ⟨k,-⟩
  · exact k
  · unfold zhh at hbig;rw [hoi,qad,zaq f1]at hbig;have:=qa8 hbig
    omega
 have hn:evN x a<=h.pw:=by
  rcases b.kd with ⟨k,l,m⟩ | ⟨k,-⟩ <;> omega
 have hn0:1<=evN x a:=by omega
 obtain ⟨J,u,g0,g1,hA,hu0,hun,hJ,hg0,hk0,hoth,hg1,hk11,hu1,hplen,hJt,htk,htl,hru⟩:=I.place hn0 hn hpl;obtain ⟨N,hN⟩:∃ N,evN x a=N:=⟨_,rfl⟩
 obtain ⟨T,hT⟩:∃ T,plA x N=T:=⟨_,rfl⟩
 rw [hN]at hA hn hn0 hun hoth hg1 hu1 hplen hJt htk htl e2 hpl;rw [hT]at hA;have hpp:=za0 (p:=(J:Int)) (zap I.ok).1 (by omega) hJ
 have hfree:=zaH b hg0 hk0;have ka:okA x.h.words.length T N.toNat=true:=zaL.2 (by omega)
 have kb:okA x.h.words.length a N.toNat=true:=zaL.2 (by omega)
 have kc:okA (zeL x.h.words T a N).length a [fwdV T].length=true:=by rw [znm (by omega) ka kb];exact zaL.2 (by simp only [qbJ];omega)
 have hW:(zbB x a).h.words=zax (zeL x.h.words T a N) a [fwdV T]:=by
  show zkU x a=_
  unfold zkU;rw [hN,hT]
 have hQ:(zbB x a).queue=x.queue++[T]:=by show x.queue++[plA x (evN x a)]=_;rw [hN,hT]
 have hP:(zbB x a).h.pages=(plW x N).h.pages:=by show (plW x (evN x a)).h.pages=_;rw [hN]
 have hTk:(zbB x a).taken=(plW x N).taken:=by show (plW x (evN x a)).taken=_;rw [hN]
 have hpw:(zbB x a).h.pw=h.pw:=I.pw
 have hself:evWd (zbB x a) a=fwdV T:=by unfold evWd;rw [hW];exact zdw kc
 have hout:∀ p,p≠a->(p<T\/T+N<=p)->evWd (zbB x a) p=evWd x p:=fun p h1 h2=>by
  unfold evWd;rw [hW,za4 kc (by simp only [qbJ];omega)]
  exact zg6 (by omega) ka kb (by omega)
 have hnew:evWd (zbB x a) T=evWd x a:=by
  unfold evWd;rw [hW,za4 kc (by simp only [qbJ];omega)]
  have:=ziW (k:=0) (by omega) ka kb (Int.le_refl _) (by omega)
  simpa using this
 have hold:∀ c∈zaf h,c≠a->evWd (zbB x a) c=evWd x c:=fun c hc hne=>by
  obtain ⟨i3,j3,g3,b3⟩:=zai hc;have h1:=zaH b3 hg0 hk0;have h2:=b3.pos;exact hout c hne (by omega)
 have hbelow:∀ q,zbq x q->q+evN x q<=T\/T+N<=q:=fun q hc=>by
  have hc2:=hc;obtain ⟨k,y2,d1,d2,d3,d4,d5⟩:=hc;obtain ⟨k3,y0,y3,l0,l1,l2,l3,l4,l5,l6⟩:=I.tk _ d1;obtain rfl:k=k3:=by omega
  rw [d2]at l3;injection l3 with l3
  subst l3;rw [I.pw]at d3 d5;by_cases hkJ:k=J
  · subst hkJ;obtain ⟨g5,m1,m2⟩:=hru d1;rw [d2]at m1;injection m1 with m1
    subst m1;left;omega
  · by_cases hlt:k<J
    · left
      have:((k:Int)+1)*h.pw<=(J:Int)*h.pw:=qaR (by omega) (by omega)
      rw [qbG,qbk]at this;omega
    · right
      have:((J:Int)+1)*h.pw<=(k:Int)*h.pw:=qaR (by omega) (by omega)
      rw [qbG,qbk]at this;omega
 have hcopy:∀ q,zbq x q->evWd (zbB x a) q=evWd x q/\q≠a/\q≠T:=fun q hc=>by
  have h1:=hbelow q hc;obtain ⟨k,y0,l1,l2,l3,l4,l5,l6,l7⟩:=I.copy hc;have h2:=I.old_copy ha hc;have hne:q≠a:=by omega
  exact ⟨hout q hne (by omega),hne,by omega⟩
 have hcopyN:∀ q,zbq x q->evN (zbB x a) q=evN x q:=fun q hc=>by unfold evN;rw [(hcopy q hc).1]
 have hqd:∀ q∈x.queue,evWd (zbB x a) q=evWd x q:=fun q h1=>by
  rcases I.qs q h1 with h2 | h2
  · exact hold q h2 (fun e=>hq (by rw [<-e];exact h1))
  · exact (hcopy q h2).1
 have hcc:∀ q,zbq x q->zbq (zbB x a) q:=fun q hc=>by
  have h9:=hcopyN q hc;have h8:=(hcopy q hc).1;have hc2:=hc;obtain ⟨k,y2,d1,d2,d3,d4,d5⟩:=hc;by_cases hkJ:k=J
  · subst hkJ;obtain ⟨g5,m1,m2⟩:=hru d1;rw [d2]at m1;injection m1 with m1
    subst m1;refine ⟨k,g1,by rw [hTk];exact hJt,by rw [hP];exact hg1,by rw [hpw];rw [I.pw]at d3;exact d3,by rw [h8];exact d4,?_⟩
    rw [h9,hpw];rw [I.pw]at d5;omega
  · refine ⟨k,y2,by rw [hTk];exact (htk _).2 (Or.inl d1),by rw [hP,hoth k hkJ];exact d2,by rw [hpw];rw [I.pw]at d3;exact d3,by rw [h8];exact d4,?_⟩
    rw [h9,hpw];rw [I.pw]at d5;exact d5
 have hback:∀ q∈x.queue,zbq (zbB x a) q->zbq x q:=fun q h1 hc=>by
  rcases I.qs q h1 with h2 | h2
  · exfalso
    obtain ⟨k,y2,d1,d2,d3,d4,d5⟩:=hc;obtain ⟨i3,j3,g3,b3⟩:=zai h2;have hb3:=b3.pos;rw [hpw]at d3 d5;have hge:1<=evN (zbB x a) q:=by have:=(zhg d4).1;omega
    rw [hTk]at d1;rw [hP]at d2;rcases (htk _).1 d1 with d1 | d1
    · obtain ⟨k3,y0,y3,l0,l1,l2,l3,l4,l5,l6⟩:=I.tk _ d1;obtain rfl:k=k3:=by omega
      have h6:=zaH b3 l1 l2;have hul:y2.used<=h.pw:=by
       by_cases hkJ:k=J
       · subst hkJ;rw [hg1]at d2;injection d2 with d2;subst d2;omega
       · rw [hoth k hkJ,l3]at d2;injection d2 with d2;subst d2;exact l6
      omega
    · obtain rfl:k=J:=by omega
      have h6:=zaH b3 hg0 hk0;rw [hg1]at d2;injection d2 with d2;subst d2
      omega
  · exact h2
 have hTN:evN (zbB x a) T=N:=by unfold evN;rw [hnew];exact hN
 refine ⟨⟨I.ok,I.pw,I.np,I.sp,I.old,?_,?_,fun t h1=>?_,fun k g5 h1 h2=>?_,?_,fun c hc=>?_,fun q h1=>?_,fun q h1 r h2 cq cr hne=>?_,?_⟩,⟨rfl,⟨[T],hQ⟩,hqd⟩⟩
 · rw [hW,zce kc,znm (by omega) ka kb];exact hwl
 · rw [hP,hplen];exact I.pl
 · rw [hTk]at h1;rw [hP];by_cases hkJ:t=J
   · exact ⟨J,g0,g1,hkJ,hg0,hk0,hg1,hk11,by omega,by omega⟩
   · obtain ⟨k3,y0,y3,l0,l1,l2,l3,l4,l5,l6⟩:=I.tk _ (((htk t).1 h1).resolve_right hkJ);exact ⟨k3,y0,y3,l0,l1,l2,by rw [hoth k3 (by omega)];exact l3,l4,l5,l6⟩
 · rw [hTk]at h2;rw [hP];have hnt:¬(k:Int)∈x.taken:=fun h3=>h2 ((htk _).2 (Or.inl h3))
   have hkJ:k≠J:=fun e=>h2 ((htk _).2 (Or.inr (by rw [e])))
   obtain ⟨y5,l1,l2,l3⟩:=I.pg k g5 h1 hnt;exact ⟨y5,by rw [hoth k hkJ];exact l1,l2,l3⟩
 · rw [hTk,hP];exact htl
 · have hstab:∀ i5 j5 g5,Begins h c i5 j5 g5->zd8 (zbB x a) i5=zd8 x i5:=fun i5 j5 g5 b5=>by
    have hnt:=I.begun b5;have hkJ:i5≠J:=fun e=>by
     subst e;have:=b5.pg
     rw [hg0]at this;injection this with this
     subst this;rcases b5.kd with ⟨k,-⟩ | ⟨k,-⟩ <;> omega
    refine zsH (by rw [hP];exact hoth i5 hkJ) rfl ?_
    rw [hTk,htk];constructor
    · rintro (h | h)
      · exact h
      · omega
    · exact Or.inl
   obtain ⟨i5,j5,g5,b5⟩:=zai hc;by_cases hca:c=a
   · subst hca;right
     refine ⟨by rw [hself];exact zm4 (by omega) (by omega),fun h1=>?_,?_⟩
     · rw [hQ]at h1;rcases qao.1 h1 with h1 | h1
       · exact hq h1
       · have:=qau.1 h1;omega
     · rw [b5.oi,hstab _ _ _ b5];have:evI x c=i5:=by unfold evI;rw [I.pw,I.np];exact b5.oi
       rw [<-this];exact hpr
   · rw [hold c hc hca];rcases I.un c hc with h1 | ⟨h1,h2,h3⟩
     · exact Or.inl h1
     · refine Or.inr ⟨h1,fun h4=>?_,by rw [b5.oi]at h3 ⊢;rw [hstab _ _ _ b5];exact h3⟩
       rw [hQ]at h4;rcases qao.1 h4 with h4 | h4
       · exact h2 h4
       · have h5:=qau.1 h4;have h6:=zaH b5 hg0 hk0;have h7:=b5.pos;omega
 · rw [hQ]at h1;rcases qao.1 h1 with h1 | h1
   · rcases I.qs q h1 with h2 | h2
     · exact Or.inl h2
     · exact Or.inr (hcc q h2)
   · have h5:=qau.1 h1;subst h5;refine Or.inr ⟨J,g1,by rw [hTk];exact hJt,by rw [hP];exact hg1,by rw [hpw];omega,by rw [hnew];exact e1,?_⟩
     rw [hTN,hpw];omega
 · rw [hQ]at h1 h2;rcases qao.1 h1 with m1 | m1 <;> rcases qao.1 h2 with m2 | m2
   · have cq2:=hback q m1 cq;have cr2:=hback r m2 cr;rw [hcopyN q cq2,hcopyN r cr2];exact I.dj q m1 r m2 cq2 cr2 hne
   · have h5:=qau.1 m2;have cq2:=hback q m1 cq;rw [h5,hcopyN q cq2,hTN];exact hbelow q cq2
   · have h5:=qau.1 m1;have cr2:=hback r m2 cr;rw [h5,hcopyN r cr2,hTN];exact (hbelow r cr2).symm
   · exact absurd ((qau.1 m1).trans (qau.1 m2).symm) hne
 · have h1:((zaf h).filter (zcL (zbB x a))).length+1<=((zaf h).filter (zcL x)).length:=by
    refine zgz (c:=a) (fun c hc hu=>?_) ha ?_ ?_
    · unfold zcL at hu ⊢
      by_cases hca:c=a
      · subst hca;rw [hself,zm4 (by omega) (by omega)]at hu
        simp at hu
      · rw [hold c hc hca]at hu;simp only [qae,qab]at hu ⊢;exact ⟨fun h2=>hu.1 (by rw [hQ];exact qa3 _ h2),hu.2⟩
    · unfold zcL;simp [hq,ht]
    · unfold zcL;rw [hself,zm4 (by omega) (by omega)];simp
   have h2:(zbB x a).queue.length=x.queue.length+1:=by rw [hQ];simp
   have:=I.cnt
   omega
theorem Inv.forward {h:Hp} {x:Wk} (I:Inv h x) {a:Int} (he:evE x a=0):Inv h (evW x a)/\Later x (evW x a):=by
 unfold evE at he;unfold evW;by_cases h0:a=0\/a∈x.queue
 · have hc:evC x a=0:=by unfold evC;rw [if_pos h0]
   rw [hc];exact ⟨I,Later.refl x⟩
 have hq:¬a∈x.queue:=fun c=>h0 (Or.inr c)
 by_cases ho:¬a∈x.old
 · have hc:evC x a=1:=by unfold evC;rw [if_neg h0,if_pos ho]
   rw [hc]at he;exact absurd he (by decide)
 replace ho:a∈x.old:=Classical.not_not.1 ho
 have ho2:a∈zaf h:=by rw [<-I.old];exact ho
 by_cases ht:okT (evWd x a).toNat=true
 · have hc:evC x a=2:=by unfold evC;rw [if_neg h0,if_neg (by simpa using ho),if_pos ht]
   rw [hc];exact ⟨I,Later.refl x⟩
 replace ht:okT (evWd x a).toNat=false:=by simpa using ht
 by_cases h3:¬ofE x.h.pw x.h.np a=0\/(x.h.pages.length:Int)<=evI x a
 · have hc:evC x a=3:=by unfold evC;rw [if_neg h0,if_neg (by simpa using ho),if_neg (by simp [ht]),if_pos h3]
   rw [hc]at he;exact absurd he (by decide)
 cases hpr:zd8 x (evI x a) with
 | true=>
  have hc:evC x a=4:=by unfold evC;rw [if_neg h0,if_neg (by simpa using ho),if_neg (by simp [ht]),if_neg h3,if_pos hpr]
  rw [hc];exact I.keep ho2 hq ht
 | false=>
  cases hbig:zhh x a with
  | true=>
   have hc:evC x a=5:=by unfold evC;rw [if_neg h0,if_neg (by simpa using ho),if_neg (by simp [ht]),if_neg h3,if_neg (by simp [hpr]),if_pos hbig]
   rw [hc];obtain ⟨i,j,g,b⟩:=zai ho2;have hoi:evI x a=i:=by unfold evI;rw [I.pw,I.np];exact b.oi
   obtain ⟨y,f1,f2,f3⟩:=I.pg i g b.pg (I.begun b);have hk:y.kind=2:=by
    unfold zhh at hbig;rw [hoi,qad,zaq f1]at hbig;exact qaq hbig
   rw [hoi,qad];obtain ⟨I2,L2,e1,e2⟩:=I.large f1 hk;obtain ⟨I3,L3⟩:=I2.keep ho2 (by rw [e2];exact hq) (by rw [e1];exact ht)
   exact ⟨I3,L2.trans L3⟩
  | false=>
   cases hpp:plB x (evN x a) with
   | true=>
    have hc:evC x a=7:=by unfold evC;rw [if_neg h0,if_neg (by simpa using ho),if_neg (by simp [ht]),if_neg h3,if_neg (by simp [hpr]),if_neg (by simp [hbig]),if_pos hpp]
    rw [hc];exact I.copied ho2 hq ht hpr hbig hpp
   | false=>
    have hc:evC x a=6:=by unfold evC;rw [if_neg h0,if_neg (by simpa using ho),if_neg (by simp [ht]),if_neg h3,if_neg (by simp [hpr]),if_neg (by simp [hbig]),if_neg (by simp [hpp])]
    rw [hc]at he;exact absurd he (by decide)
def zaJ:Wk->List Int->List Int->Wk×List Int×Int
 | x,acc,[]=>(x,acc,0)
 | x,acc,r::rs=>if evE x r=0 then zaJ (evW x r) (acc++[evA x r]) rs else (Wk.zero,[],evE x r)
def zn6:Wk->List Int->Prop
 | _,[]=>True
 | x,r::rs=>FwOK x/\(0<=r/\r<18446744073709551616)/\(evE x r=0->zn6 (evW x r) rs)
def zbV (h:Hp):Wk:=⟨{ h with pages:=h.pages.map fun g=>if g.kind=1/\0<g.pins then ⟨g.kind,1-h.space,g.used,g.pins⟩ else g },zaf h,[],[],0,0,0,0,0,0,0⟩
def zfD (x:Wk) (a:Int):Bool:=zd8 x (ofI x.h.pw x.h.np a) && !decide (a∈x.queue)
def zfC (x:Wk) (a:Int):List Int:=encV 0 (evH x a).n 0::List.replicate (evH x a).n.toNat 0
def zau (x:Wk) (a:Int):Wk:=if zfD x a then { x with h:={ x.h with words:=zax x.h.words a (zfC x a) },r2:=wrap64 (x.r2+1) } else x
def zaG (x:Wk):Wk:=x.old.foldl zau x
theorem zpn {x y:Wk} (L:Later x y) {q:Int} (hq:q∈x.queue):evH y q=evH x q:=by
 unfold evH;rw [L.hd q hq]
theorem st_ok {h:Hp} {A:Int}:∀ (l:List Int) (x:Wk),Inv h x->A∈x.queue->(∀ i∈l,0<=i/\i<(evH x A).n)->StOK x A l/\((stGo x A l).2=0->Inv h (stGo x A l).1/\Later x (stGo x A l).1)
 | [],x,I,hA,_=>⟨trivial,fun _=>⟨I,Later.refl x⟩⟩
 | i::r,x,I,hA,hl=>by
  obtain ⟨h0,h1⟩:=hl i (qaT ..);have key:evE x (zar x.h.words (A+1+i))=0->Inv h (zcv x (A+1+i))/\Later x (zcv x (A+1+i)):=fun he=>by
   obtain ⟨I2,L2⟩:=I.forward he;have hA2:=L2.mem hA;obtain ⟨k1,k2,k3⟩:=I2.inside hA2 h0 (by rw [zpn L2 hA];exact h1)
   obtain ⟨I3,L3⟩:=I2.write (v:=evA x (zar x.h.words (A+1+i))) k1 k2 k3
   exact ⟨I3,L2.trans L3⟩
  have hrec:∀ he:evE x (zar x.h.words (A+1+i))=0,StOK (zcv x (A+1+i)) A r/\((stGo (zcv x (A+1+i)) A r).2=0->Inv h (stGo (zcv x (A+1+i)) A r).1/\Later (zcv x (A+1+i)) (stGo (zcv x (A+1+i)) A r).1):=fun he=>by
   obtain ⟨I3,L3⟩:=key he;exact st_ok r _ I3 (L3.mem hA) (fun j hj=>by rw [zpn L3 hA];exact hl j (qaC _ hj))
  refine ⟨⟨I.fwok,fun he=>(hrec he).1⟩,fun hz=>?_⟩
  rw [stGo]at hz ⊢
  by_cases he:evE x (zar x.h.words (A+1+i))=0
  · rw [if_pos he]at hz ⊢
    obtain ⟨I4,L4⟩:=(hrec he).2 hz;exact ⟨I4,(key he).2.trans L4⟩
  · rw [if_neg he]at hz;exact absurd hz he
theorem stL_in {x:Wk} {A i:Int} (hi:i∈stL x A):0<=i/\i<(evH x A).n:=by
 have h:=zom hi;unfold ptrB at h;simp only [qae,qab]at h;exact ⟨h.1.1.2,h.1.2⟩
theorem Inv.queue_bd {h:Hp} {x:Wk} (I:Inv h x) {A:Int} (hA:A∈x.queue):4096<=A/\A<=9000:=by
 rcases I.qs A hA with c | c
 · have:=znM (zc3 c).1;omega
 · obtain ⟨k,g0,f1,f2,f3,f4,f5,f6,f7⟩:=I.copy c;have h1:=I.conf;have h2:=za0 (p:=(k:Int)) (zap I.ok).1 (by omega) f3
   omega
theorem Inv.reports {h:Hp} {x:Wk} (I:Inv h x) (s a b c d e f:Int):Inv h { x with sc:=s,r0:=a,r1:=b,r2:=c,r3:=d,r4:=e,r5:=f } :=
 ⟨I.ok,I.pw,I.np,I.sp,I.old,I.wl,I.pl,I.tk,I.pg,I.tl,I.un,I.qs,I.dj,I.cnt⟩
theorem zvq {h:Hp}:∀ (f:Nat) (x:Wk) (k:Nat),Inv h x->x.sc=k->k<=x.queue.length->(zaf h).length+1<=k+f->zvA f x/\((allV f x).2=0->Inv h (allV f x).1)
 | 0,x,k,I,hk,hq,hf=>by have:=I.qlen;omega
 | f+1,x,k,I,hk,hq,hf=>by
  have hql:=I.qlen;cases hA:x.queue[k]? with
  | none=>
   refine ⟨⟨k,hk,by omega,Or.inl hA⟩,fun _=>?_⟩
   rw [znO hk hA];exact I
  | some A=>
   have hAm:=qav hA;have hkl:=(qag.1 hA).1;have hbd:=I.queue_bd hAm;obtain ⟨s1,s2⟩:=st_ok (stL x A) x I hAm (fun i hi=>stL_in hi)
   have key:stE x A=0->Inv h (stW x A)/\(stW x A).sc=((k+1:Nat):Int)/\k+1<=(stW x A).queue.length:=fun he=>by
    obtain ⟨I2,L2⟩:=s2 he;refine ⟨I2.reports _ _ _ _ _ _ _,?_,?_⟩
    · show wrap64 ((stGo x A (stL x A)).1.sc+1)=_
      rw [L2.sc,hk];unfold wrap64;omega
    · show k+1<=(stGo x A (stL x A)).1.queue.length
      obtain ⟨l,e⟩:=L2.qu;rw [e,qay];omega
   have hrec:=fun he:stE x A=0=>zvq f (stW x A) (k+1) (key he).1 (key he).2.1 (key he).2.2 (by omega)
   refine ⟨⟨k,hk,by omega,Or.inr ⟨A,hA,by omega,by omega,I.fwok.wl,s1,fun he=>⟨(key he).2.1,(hrec he).1⟩⟩⟩,fun hz=>?_⟩
   rw [zqW hk hA]at hz ⊢
   by_cases he:stE x A=0
   · rw [if_pos he]at hz ⊢;exact (hrec he).2 hz
   · rw [if_neg he]at hz;exact absurd hz he
theorem zmU {h:Hp}:∀ (rs:List Int) (x:Wk) (acc:List Int),Inv h x->(∀ r∈rs,0<=r/\r<18446744073709551616)->zn6 x rs/\((zaJ x acc rs).2.2=0->Inv h (zaJ x acc rs).1/\Later x (zaJ x acc rs).1/\(zaJ x acc rs).2.1.length=acc.length+rs.length)
 | [],x,acc,I,_=>⟨trivial,fun _=>⟨I,Later.refl x,rfl⟩⟩
 | r::rs,x,acc,I,hl=>by
  have hrec:∀ he:evE x r=0,_:=fun he=>zmU rs (evW x r) (acc++[evA x r]) (I.forward he).1 (fun q hq=>hl q (qaC _ hq))
  refine ⟨⟨I.fwok,hl r (qaT ..),fun he=>(hrec he).1⟩,fun hz=>?_⟩
  rw [zaJ]at hz ⊢
  by_cases he:evE x r=0
  · rw [if_pos he]at hz ⊢
    obtain ⟨I2,L2,e2⟩:=(hrec he).2 hz;refine ⟨I2,(I.forward he).2.trans L2,?_⟩;rw [e2];simp only [qay,qaO,qbV];omega
  · rw [if_neg he]at hz;exact absurd hz he
theorem zho {h:Hp} (h1:okH h=true):Inv h (zbV h):=by
 refine ⟨h1,rfl,rfl,rfl,rfl,rfl,by show (List.map _ _).length=_;rw [qai],fun t ht=>(by cases ht),fun k g0 hg hn=>?_,qa4 _,fun a ha=>Or.inl rfl,fun q hq=>(by cases hq),fun q hq=>(by cases hq),?_⟩
 · refine ⟨if g0.kind=1/\0<g0.pins then ⟨g0.kind,1-h.space,g0.used,g0.pins⟩ else g0,?_,?_,?_⟩
   · show (List.map _ _)[k]?=_;rw [qbi,hg];rfl
   · split <;> rfl
   · split <;> rfl
 · show 0+_<=_
   have:=qbR (zcL (zbV h)) (zaf h)
   omega
theorem zi0 (x:Wk) (a:Int):(zau x a).h.pw=x.h.pw/\(zau x a).h.np=x.h.np/\(zau x a).h.pages=x.h.pages/\(zau x a).h.space=x.h.space/\(zau x a).taken=x.taken/\(zau x a).queue=x.queue/\(zau x a).old=x.old/\(zau x a).h.bump=x.h.bump:=by
 unfold zau;split <;> exact ⟨rfl,rfl,rfl,rfl,rfl,rfl,rfl,rfl⟩
theorem zhe (x:Wk) (a b:Int):zfD (zau x a) b=zfD x b:=by
 obtain ⟨e1,e2,e3,e4,e5,e6,-,-⟩:=zi0 x a;unfold zfD zd8;rw [e1,e2,e3,e4,e5,e6]
theorem znA {h:Hp}:∀ (l:List Int) (x:Wk),l.Pairwise (fun a b=>a+osz h a<=b)->(∀ a∈l,a∈zaf h)->x.h.words.length=h.words.length->(∀ a∈l,zfD x a=true->evWd x a=zar h.words a)->(l.foldl zau x).h.words.length=h.words.length
 | [],x,_,_,e,_=>e
 | a::l,x,hp,hm,e,hev=>by
  obtain ⟨p1,p2⟩:=qcf.1 hp;rw [qbP];by_cases hb:zfD x a=true
  · have h1:=hev a (qaT ..) hb;have ha:=hm a (qaT ..);obtain ⟨e1,e2,e3,-⟩:=zd0 ha h1;obtain ⟨i,j,g,b⟩:=zai ha;have hpos:=b.pos;have hwl:=b.wl;have hln:((zfC x a).length:Int)=osz h a:=by unfold zfC;rw [qaO,qaY];omega
    have hok:okA x.h.words.length a (zfC x a).length=true:=zaL.2 (by omega)
    have hW:(zau x a).h.words=zax x.h.words a (zfC x a):=by unfold zau;rw [if_pos hb]
    refine znA l _ p2 (fun c hc=>hm c (qaC _ hc)) (by rw [hW,zce hok];exact e) (fun c hc hf=>?_)
    rw [zhe]at hf;have h2:=hev c (qaC _ hc) hf;have h3:=p1 c hc;rw [<-h2];unfold evWd;rw [hW,za4 hok (by omega)]
  · have hW:zau x a=x:=by unfold zau;rw [if_neg hb]
    rw [hW];exact znA l x p2 (fun c hc=>hm c (qaC _ hc)) e (fun c hc hf=>hev c (qaC _ hc) hf)
theorem Inv.fill {h:Hp} {x:Wk} (I:Inv h x):(zaG x).h.words.length=h.words.length:=by
 unfold zaG;rw [I.old];refine znA _ x (zea h) (fun a ha=>ha) I.wl (fun a ha hf=>?_)
 unfold zfD at hf;simp only [qae,qap,qaf]at hf;rcases I.un a ha with c | ⟨-,-,c3⟩
 · exact c
 · rw [I.pw,I.np]at hf;rw [c3]at hf;exact absurd hf.1 (by decide)
structure Wd where
 h:Hp
 st:List Int
 wk:List Int
def bgB (h:Hp) (k:Nat):Bool:=decide ((h.pages.getD k Pg.zero).kind=1)&&decide (0<(h.pages.getD k Pg.zero).pins)
def bgPs (h:Hp):Nat->List Pg
 | 0=>h.pages
 | k+1=>if bgB h k then (bgPs h k).set k ⟨(h.pages.getD k Pg.zero).kind,1-h.space,(h.pages.getD k Pg.zero).used,(h.pages.getD k Pg.zero).pins⟩ else bgPs h k
theorem zjM (h:Hp):∀ k,(bgPs h k).length=h.pages.length
 | 0=>rfl
 | k+1=>by rw [bgPs];split <;> simp [zjM h k]
theorem zqT (h:Hp):∀ (k j:Nat) (g:Pg),h.pages[j]?=some g->(bgPs h k)[j]?=some (if j<k/\g.kind=1/\0<g.pins then ⟨g.kind,1-h.space,g.used,g.pins⟩ else g)
 | 0,j,g,hg=>by rw [if_neg (by omega)];exact hg
 | k+1,j,g,hg=>by
  have ih:=zqT h k j g hg;have hj:=(qag.1 hg).1;rw [bgPs];by_cases hb:bgB h k=true
  · rw [if_pos hb,qaP,zjM];unfold bgB at hb;simp only [qae,qab]at hb;by_cases e:k=j
    · subst e;rw [zaq hg]at hb ⊢
      rw [if_pos rfl,if_pos hj,if_pos ⟨by omega,hb.1,hb.2⟩]
    · rw [if_neg e,ih];by_cases c:j<k/\g.kind=1/\0<g.pins
      · rw [if_pos c,if_pos ⟨by omega,c.2⟩]
      · rw [if_neg c,if_neg (fun c2=>c ⟨by omega,c2.2⟩)]
  · rw [if_neg hb,ih];by_cases c:j<k/\g.kind=1/\0<g.pins
    · rw [if_pos c,if_pos ⟨by omega,c.2⟩]
    · rw [if_neg c,if_neg];rintro ⟨c1,c2⟩;by_cases e:j=k
      · subst e;apply hb
        unfold bgB;rw [zaq hg];simp [c2]
      · exact c ⟨by omega,c2⟩
theorem zwH (h:Hp):bgPs h h.pages.length=(zbV h).h.pages:=by
 apply qbn
 intro j;show _=(List.map _ h.pages)[j]?
 rw [qbi];cases hg:h.pages[j]? with
 | none=>
  have:(bgPs h h.pages.length)[j]?=none:=by
   rw [qcg,zjM];exact qcg.1 hg
  rw [this];rfl
 | some g=>
  rw [zqT h _ j g hg];have hj:=(qag.1 hg).1;simp only [qbF];by_cases c:g.kind=1/\0<g.pins
  · rw [if_pos ⟨hj,c⟩,if_pos c]
  · rw [if_neg (fun c2=>c c2.2),if_neg c]
def zkK (x:Wk) (k:Nat):Wk:=(x.old.take k).foldl zau x
theorem zqM {x:Wk} {k:Nat} {a:Int} (h:x.old[k]?=some a):zkK x (k+1)=zau (zkK x k) a:=by
 unfold zkK;rw [zbE h,List.foldl_append];rfl
theorem zet:∀ (l:List Int) (x:Wk),(l.foldl zau x).h.pw=x.h.pw/\(l.foldl zau x).h.np=x.h.np/\(l.foldl zau x).h.pages=x.h.pages/\(l.foldl zau x).h.space=x.h.space/\(l.foldl zau x).taken=x.taken/\(l.foldl zau x).queue=x.queue/\(l.foldl zau x).old=x.old/\(l.foldl zau x).h.bump=x.h.bump
 | [],x=>⟨rfl,rfl,rfl,rfl,rfl,rfl,rfl,rfl⟩
 | a::l,x=>by
  obtain ⟨e1,e2,e3,e4,e5,e6,e7,e8⟩:=zet l (zau x a);have h:(zau x a).h.pw=x.h.pw/\(zau x a).h.np=x.h.np/\(zau x a).h.pages=x.h.pages/\(zau x a).h.space=x.h.space/\(zau x a).taken=x.taken/\(zau x a).queue=x.queue/\(zau x a).old=x.old/\(zau x a).h.bump=x.h.bump:=by
   unfold zau;split <;> exact ⟨rfl,rfl,rfl,rfl,rfl,rfl,rfl,rfl⟩
  obtain ⟨f1,f2,f3,f4,f5,f6,f7,f8⟩:=h;exact ⟨e1.trans f1,e2.trans f2,e3.trans f3,e4.trans f4,e5.trans f5,e6.trans f6,e7.trans f7,e8.trans f8⟩
theorem ztQ (xs:List Int) (a:Int) (l:List Int):(zax xs a l).length<=xs.length:=by
 unfold zax;split
 · rename_i hk;have h1:=qaq hk;rw [zc0 (by omega)];exact qan _
 · exact qa4 _
theorem zvd (n:Int):0<=encV 0 n 0/\encV 0 n 0<18446744073709551616:=by
 unfold encV;split
 · rename_i h;have:=zjO h (Int.le_refl 0)
   omega
 · omega
def frB (x:Wk) (k:Nat):Bool:=!decide ((x.h.pages.getD k Pg.zero).kind=0)&&decide ((x.h.pages.getD k Pg.zero).space=x.h.space)
def frPs (x:Wk):Nat->List Pg
 | 0=>x.h.pages
 | k+1=>if frB x k then (frPs x k).set k Pg.zero else frPs x k
def frWs (x:Wk):Nat->List Int
 | 0=>x.h.words
 | k+1=>if frB x k then splice (frWs x k) (k*x.h.pw.toNat) (List.replicate x.h.pw.toNat 0) else frWs x k
def frR (x:Wk):Nat->Int
 | 0=>x.r3
 | k+1=>if frB x k then wrap64 (frR x k+1) else frR x k
def zs3 (x:Wk):Wk:={ x with h:={ x.h with pages:=frPs x x.h.pages.length,words:=frWs x x.h.pages.length },r3:=frR x x.h.pages.length }
theorem zhc (x:Wk):∀ k,(frPs x k).length=x.h.pages.length
 | 0=>rfl
 | k+1=>by rw [frPs];split <;> simp [zhc x k]
theorem zqK (x:Wk):∀ (k j:Nat),k<=j->(frPs x k)[j]?=x.h.pages[j]?
 | 0,_,_=>rfl
 | k+1,j,h=>by
  rw [frPs];split
  · rw [qbH (by omega),zqK x k j (by omega)]
  · exact zqK x k j (by omega)
theorem zh0 {k m n:Nat} {pw:Int} (h0:0<=pw) (hk:k<m) (hn:(n:Int)=m*pw):k*pw.toNat+pw.toNat<=n:=by
 obtain ⟨q,rfl⟩:∃ q:Nat,pw=q:=⟨pw.toNat,by omega⟩
 rw [qad];have h1:(k+1)*q<=m*q:=qaL _ (by omega)
 rw [qaH,qa2]at h1;have h2:((m*q:Nat):Int)=n:=by rw [qca];exact hn.symm
 omega
theorem zhb (x:Wk) (h0:0<=x.h.pw) (hw:(x.h.words.length:Int)=x.h.pages.length*x.h.pw):∀ k,k<=x.h.pages.length->(frWs x k).length=x.h.words.length
 | 0,_=>rfl
 | k+1,hk=>by
  have ih:=zhb x h0 hw k (by omega)
  rw [frWs];split
  · rw [zc0 (by rw [qaY,ih];exact zh0 h0 (by omega) hw)];exact ih
  · exact ih
theorem zu6 (x:Wk) (hw:WB x.h.words):∀ k,WB (frWs x k)
 | 0=>hw
 | k+1=>by
  have ih:=zu6 x hw k;rw [frWs];split
  · intro v hv;unfold splice at hv;rcases qao.1 hv with h | h
    · exact ih v (qb0 h)
    · rcases qao.1 h with h | h
      · have:=(List.mem_replicate.1 h).2;omega
      · exact ih v (qbZ h)
  · exact ih
def zhq (x:Wk) (a:Int):Int:=if a∈x.queue then a else tgtV (evWd x a).toNat
def zf4 (x:Wk) (a:Int):Int:=if a=0 then 0 else zhq x a
def zey (x:Wk) (r a:Int):Int:=if a=0 then r else if zhq x a=0 then wrap64 (r+1) else r
def zir (h:Hp) (st:List Int):Wk×List Int×Int:=zaJ (zbV h) [] st
def zhm (h:Hp) (st:List Int):Wk×Int:=allV ((zaf h).length+1) (zir h st).1
def zbN (h:Hp) (st wk:List Int):Wk:={ (zhm h st).1 with r4:=wk.foldl (zey (zhm h st).1) (zhm h st).1.r4 }
def zqQ (h:Hp) (st wk:List Int):Wk:=zs3 (zaG (zbN h st wk))
def zex (h:Hp) (st wk:List Int):Int:=if okH h then (if zhX h st&&zhX h wk then (if (zir h st).2.2=0 then (zhm h st).2 else (zir h st).2.2) else 19) else 1
def zis (h:Hp) (st wk:List Int):Hp:={ (zqQ h st wk).h with space:=1-(zqQ h st wk).h.space,bump:=((zqQ h st wk).taken.getLast?).getD (-1) }
def zkV (h:Hp) (st:List Int):List Int:=(zir h st).2.1
def zpt (h:Hp) (st wk:List Int):List Int:=wk.map (zf4 (zhm h st).1)
def putV (x:Wd) (k n m:Int):Wd:=⟨zdr x.h k n m,x.st++[zfH x.h k n m],x.wk⟩
inductive MStep:Wd->Wd->Prop
 | none (x:Wd):MStep x x
 | put (x:Wd) (k n m:Int):1<=k->k<=3->0<=n->n<=100->0<=m->m<4096->zcE x.h k n m=0->MStep x (putV x k n m)
 | link (x:Wd) (a i b:Int):a∈0::(x.st++x.wk)->getE x.h a=0->0<=i->i<(getH x.h a).n->0<=b->b<18446744073709551616->(ptrB (getH x.h a).k (getH x.h a).n (getH x.h a).m i=true->b∈0::(x.st++x.wk))->MStep x { x with h:=setV x.h a i b }
 | pin (x:Wd) (a:Int) (i:Nat) (g:Pg) (p:Int):a∈0::(x.st++x.wk)->ofE x.h.pw x.h.np a=0->ofI x.h.pw x.h.np a=i->x.h.pages[i]?=some g->((0<g.pins/\p=g.pins-1)\/(p=g.pins+1/\(0<g.pins\/g.kind=2\/(zaY x.h.pages:Int)<x.h.np / 4)))->MStep x { x with h:={ x.h with pages:=x.h.pages.set i ⟨g.kind,g.space,g.used,p⟩ } }
 | drop (x:Wd) (i:Nat) (r:Int) (b:Bool):x.st[i]?=some r->MStep x ⟨x.h,x.st.take i++x.st.drop (i+1),if b then x.wk++[r] else x.wk⟩
 | collect (x:Wd):zex x.h x.st x.wk=0->MStep x ⟨zis x.h x.st x.wk,zkV x.h x.st,zpt x.h x.st x.wk⟩
 | dup (x:Wd) (a:Int):a∈0::(x.st++x.wk)->MStep x ⟨x.h,x.st++[a],x.wk⟩
inductive Made:Nat->Wd->Prop
 | empty (pw np:Int):(pw=16\/pw=20\/pw=32)->(np=8\/np=12\/np=16\/np=20\/np=24)->Made 0 ⟨zkt pw np,[],[]⟩
 | step (n:Nat) (x y:Wd):Made n x->MStep x y->Made (n+1) y
theorem mem_u64 {st wk:List Int} (h1:WB st) (h2:WB wk) {a:Int} (h:a∈0::(st++wk)):0<=a/\a<18446744073709551616:=by
 simp only [qar,qao]at h;rcases h with rfl | h | h
 · exact ⟨by omega,by omega⟩
 · exact h1 _ h
 · exact h2 _ h
theorem zrS {pw np a:Int} (h:ofE pw np a=0):confB pw np=true/\0<=ofI pw np a/\ofI pw np a<np:=by
 have h1:confB pw np=true:=by
  cases hv:confB pw np with
  | false=>have:=(zwe (a:=a) hv).2.2;omega
  | true=>rfl
 have h2:inAr pw np a=true:=by
  cases hi:inAr pw np a with
  | false=>have:=(zfq h1 hi).2.2;omega
  | true=>rfl
 have h3:=zak h1;refine ⟨h1,zsN h,?_⟩;rw [(zh5 h1 h2).1];unfold inAr at h2;have h4:=qaq h2;exact qcq (by omega) (by omega)
structure Lens (n:Nat) (x:Wd):Prop where
 conf:confB x.h.pw x.h.np=true
 words:(x.h.words.length:Int)=x.h.np*x.h.pw
 pages:(x.h.pages.length:Int)=x.h.np
 st:WB x.st
 wk:WB x.wk
 stn:x.st.length<=n
 wkn:x.wk.length<=n
 pins:∀ g∈x.h.pages,0<=g.pins/\g.pins<=n
theorem zmv {h:Hp} {a i:Int} (hg:getE h a=0) (h0:0<=i) (h1:i<(getH h a).n):zi1 h a i=0/\okA h.words.length (a+1+i) 1=true:=by
 obtain ⟨g1,g2,g3,-,-,g6,-,-,-,-⟩:=zns hg;obtain ⟨k,j,g,b⟩:=zcc g2;have h2:=b.wl;have h3:osz h a=(atH h a).n+1:=rfl
 rw [g3]at h1;have hk:okA h.words.length (a+1+i) 1=true:=zaL.2 ⟨by omega,by omega⟩
 refine ⟨?_,hk⟩;unfold zi1;rw [if_pos hg,if_neg (by rw [g3];omega)]
 unfold zkw;rw [if_pos hk]
theorem Lens.up {n:Nat} {x:Wd} (h:Lens n x):Lens (n+1) x :=
 ⟨h.conf,h.words,h.pages,h.st,h.wk,by have:=h.stn;omega,by have:=h.wkn;omega,fun g hg=>by have:=h.pins g hg;omega⟩
theorem zsX {pw np:Int} (h1:pw=16\/pw=20\/pw=32) (h2:np=8\/np=12\/np=16\/np=20\/np=24):Lens 0 ⟨zkt pw np,[],[]⟩:=by
 have hc:confB pw np=true:=zvi (by omega)
 have hp:=conf_prod hc;rw [(znk hc).1];refine ⟨hc,?_,?_,WB.nil,WB.nil,qan _,qan _,fun g hg=>?_⟩
 · show ((List.replicate (np*pw).toNat (0:Int)).length:Int)=np*pw
   rw [qaY];omega
 · show ((List.replicate np.toNat Pg.zero).length:Int)=np
   rw [qaY];omega
 · obtain ⟨-,rfl⟩:=List.mem_replicate.1 hg;exact ⟨by decide,by decide⟩
theorem zuQ {n:Nat} {x:Wd} (h:Lens n x) {a i b:Int} (hg:getE x.h a=0) (h0:0<=i) (h1:i<(getH x.h a).n) (b0:0<=b) (b1:b<18446744073709551616):Lens (n+1) { x with h:=setV x.h a i b }:=by
 obtain ⟨h2,h3⟩:=zmv hg h0 h1;have e:setV x.h a i b={ x.h with words:=zax x.h.words (a+1+i) [b] }:=by unfold setV;exact if_pos h2
 rw [e];have hl:(zax x.h.words (a+1+i) [b]).length=x.h.words.length:=zce (l:=[b]) h3
 refine ⟨h.conf,?_,h.pages,h.st,h.wk,by have:=h.stn;show x.st.length<=_;omega,by have:=h.wkn;show x.wk.length<=_;omega,fun g hg=>by have:=h.pins g hg;omega⟩
 show ((zax x.h.words (a+1+i) [b]).length:Int)=x.h.np*x.h.pw
 rw [hl];exact h.words
theorem zwm {n:Nat} {x:Wd} (h:Lens n x) {i:Nat} {g:Pg} {p:Int} (hg:x.h.pages[i]?=some g) (hp:(0<g.pins/\p=g.pins-1)\/p=g.pins+1):Lens (n+1) { x with h:={ x.h with pages:=x.h.pages.set i ⟨g.kind,g.space,g.used,p⟩ } }:=by
 have h1:=h.pins g (qav hg);refine ⟨h.conf,h.words,?_,h.st,h.wk,by have:=h.stn;show x.st.length<=_;omega,by have:=h.wkn;show x.wk.length<=_;omega,fun f hf=>?_⟩
 · show ((x.h.pages.set i _).length:Int)=x.h.np
   rw [List.length_set];exact h.pages
 · rcases qcw hf with h2 | rfl
   · have:=h.pins f h2;omega
   · show 0<=p/\p<=((n+1:Nat):Int);omega
theorem zuR {n:Nat} {x:Wd} (h:Lens n x) {i:Nat} {r:Int} (b:Bool) (hr:x.st[i]?=some r):Lens (n+1) ⟨x.h,x.st.take i++x.st.drop (i+1),if b then x.wk++[r] else x.wk⟩:=by
 have hrb:=h.st r (qav hr);refine ⟨h.conf,h.words,h.pages,fun y hy=>?_,fun y hy=>?_,?_,?_,fun g hg=>by have:=h.pins g hg;omega⟩
 · rcases qao.1 hy with h2 | h2
   · exact h.st y (qb0 h2)
   · exact h.st y (qbZ h2)
 · cases b with
   | false=>exact h.wk y hy
   | true=>
    rcases qao.1 hy with h2 | h2
    · exact h.wk y h2
    · rw [qau.1 h2];exact hrb
 · have:=h.stn
   show (x.st.take i++x.st.drop (i+1)).length<=n+1
   rw [qay,qax,qaK];omega
 · have:=h.wkn
   cases b with
   | false=>show x.wk.length<=_;omega
   | true=>show (x.wk++[r]).length<=_;rw [qay];simp;omega
theorem zwn {n:Nat} {x:Wd} (h:Lens n x) {a:Int} (ha:a∈0::(x.st++x.wk)):Lens (n+1) ⟨x.h,x.st++[a],x.wk⟩:=by
 have hab:=mem_u64 h.st h.wk ha;refine ⟨h.conf,h.words,h.pages,fun y hy=>?_,h.wk,?_,by have:=h.wkn;show x.wk.length<=_;omega,fun g hg=>by have:=h.pins g hg;omega⟩
 · rcases qao.1 hy with h2 | h2
   · exact h.st y h2
   · rw [qau.1 h2];exact hab
 · have:=h.stn
   show (x.st++[a]).length<=_
   rw [qay];simp;omega
def zsn:Prop:=∀ (n:Nat) (x:Wd) (k l m:Int),n<=400->Made n x->Lens n x->1<=k->k<=3->0<=l->l<=100->0<=m->m<4096->zcE x.h k l m=0->Lens (n+1) (putV x k l m)
def zjb:Prop:=∀ (n:Nat) (x:Wd),n<=400->Made n x->Lens n x->zex x.h x.st x.wk=0->Lens (n+1) ⟨zis x.h x.st x.wk,zkV x.h x.st,zpt x.h x.st x.wk⟩
theorem zwo (hP:zsn) (hC:zjb):∀ n x,Made n x->n<=400->Lens n x:=by
 intro n x hm;induction hm with
 | empty pw np h1 h2=>exact fun _=>zsX h1 h2
 | step n x y hm hs ih=>
  intro hn;have h:=ih (by omega)
  cases hs with
  | none=>exact h.up
  | put k l m h1 h2 h3 h4 h5 h6 h7=>exact hP n x k l m (by omega) hm h h1 h2 h3 h4 h5 h6 h7
  | link a i b h1 h2 h3 h4 h5 h6 h7=>exact zuQ h h2 h3 h4 h5 h6
  | pin a i g p h1 h2 h3 h4 h5=>exact zwm h h4 (by rcases h5 with h5 | h5;exact Or.inl h5;exact Or.inr h5.1)
  | drop i r b h1=>exact zuR h b h1
  | collect h1=>exact hC n x (by omega) hm h h1
  | dup a h1=>exact zwn h h1
def PinL (B:Int) (ps:List Pg):Prop:=∀ g∈ps,0<=g.pins/\g.pins<=B
theorem PinL.nil (B:Int):PinL B []:=fun g h=>by cases h
theorem PinL.set {B:Int} {ps:List Pg} (h:PinL B ps) {g:Pg} (hg:0<=g.pins/\g.pins<=B) (i:Nat):PinL B (ps.set i g):=fun f hf=>by
 rcases qcw hf with h2 | rfl
 · exact h f h2
 · exact hg
theorem PinL.getD {B:Int} {ps:List Pg} (h:PinL B ps) (hB:0<=B) (i:Nat):0<=(ps.getD i Pg.zero).pins/\(ps.getD i Pg.zero).pins<=B:=by
 rw [qaD];cases e:ps[i]? with
 | none=>exact ⟨Int.le_refl _,hB⟩
 | some g=>exact h g (qav e)
theorem PinL.use {B:Int} {ps:List Pg} (h:PinL B ps) (hB:0<=B) (j:Nat) (n:Int):PinL B (zf0 ps j n) :=
 h.set (g:=⟨(ps.getD j Pg.zero).kind,(ps.getD j Pg.zero).space,(ps.getD j Pg.zero).used+n,(ps.getD j Pg.zero).pins⟩) (h.getD hB j) j
theorem PinL.puts {B:Int} {b:Pg} (hb:0<=b.pins/\b.pins<=B) (k:Nat) (ps:List Pg) (i:Nat) (h:PinL B ps):PinL B (put ps i k b):=fun g hg=>by
 unfold put at hg;rcases qao.1 hg with h1 | h1
 · rcases qao.1 h1 with h2 | h2
   · exact h g (qb0 h2)
   · obtain ⟨-,rfl⟩:=List.mem_replicate.1 h2;exact hb
 · exact h g (qbZ h1)
theorem PinL.take {B:Int} {ps:List Pg} (h:PinL B ps) (hB:0<=B) (i k:Int) {a b:Pg} (ha:a.pins=0) (hb:b.pins=0):PinL B (zgl ps i k a b):=by
 unfold zgl;split
 · split
   · exact (PinL.puts (by rw [hb];omega) _ _ _ h).set (by rw [ha];omega) _
   · exact PinL.nil B
 · exact PinL.nil B
theorem PinL.spc {B:Int} {ps:List Pg} (h:PinL B ps) (i k:Nat) (sp:Int):PinL B (spc ps i k sp):=fun g hg=>by
 obtain ⟨j,hj,rfl⟩:=List.mem_mapIdx.1 hg;have:=h ps[j] (qbT hj)
 split <;> exact this
theorem zuj {B:Int} (hB:0<=B) {x:Wk} (h:PinL B x.h.pages) (a:Int):PinL B (evW x a).h.pages:=by
 unfold evW;split
 · exact h
 · exact h
 · exact h
 · exact h.spc _ _ _
 · show PinL B (zf0 (plPs x (evN x a)) _ _)
   refine PinL.use ?_ hB _ _;unfold plPs;split
   · exact h
   · unfold zcP;split
     · exact h.take hB _ _ rfl rfl
     · exact PinL.nil B
 · exact PinL.nil B
theorem zsJ {B:Int} (hB:0<=B) {x:Wk} (h:PinL B x.h.pages) (p:Int):PinL B (zcv x p).h.pages:=zuj hB h _
theorem zrK {B:Int} (hB:0<=B):∀ (l:List Int) (x:Wk) (A:Int),PinL B x.h.pages->PinL B (stGo x A l).1.h.pages
 | [],_,_,h=>h
 | i::r,x,A,h=>by
  rw [stGo];split
  · exact zrK hB r _ A (zsJ hB h _)
  · exact PinL.nil B
theorem zrL {B:Int} (hB:0<=B):∀ (f:Nat) (x:Wk),PinL B x.h.pages->PinL B (allV f x).1.h.pages
 | 0,_,h=>h
 | f+1,x,h=>by
  unfold allV;split
  · exact h
  · split
    · exact zrL hB f _ (zrK hB _ x _ h)
    · exact PinL.nil B
theorem zot {B:Int} (hB:0<=B):∀ (rs:List Int) (x:Wk) (acc:List Int),PinL B x.h.pages->PinL B (zaJ x acc rs).1.h.pages
 | [],_,_,h=>h
 | r::rs,x,acc,h=>by
  rw [zaJ];split
  · exact zot hB rs _ _ (zuj hB h r)
  · exact PinL.nil B
theorem zuk {B:Int} {h:Hp} (hp:PinL B h.pages):PinL B (zbV h).h.pages:=fun g hg=>by
 obtain ⟨f,hf,rfl⟩:=qaz.1 (show g∈List.map _ h.pages from hg)
 have:=hp f hf
 split <;> exact this
theorem zkJ:∀ (l:List Int) (x:Wk),(l.foldl zau x).h.pages=x.h.pages/\(l.foldl zau x).h.pw=x.h.pw/\(l.foldl zau x).h.np=x.h.np
 | [],_=>⟨rfl,rfl,rfl⟩
 | a::l,x=>by
  obtain ⟨e1,e2,e3⟩:=zkJ l (zau x a);obtain ⟨f1,f2,f3,-⟩:=zi0 x a;exact ⟨e1.trans f3,e2.trans f1,e3.trans f2⟩
theorem zm0 {B:Int} (hB:0<=B) {x:Wk} (h:PinL B x.h.pages):∀ k,PinL B (frPs x k)
 | 0=>h
 | k+1=>by
  rw [frPs];split
  · exact (zm0 hB h k).set ⟨Int.le_refl _,hB⟩ k
  · exact zm0 hB h k
theorem zwR (n:Nat):0<=tgtV n/\tgtV n<18446744073709551616:=by
 unfold tgtV;split
 · rename_i h;have:=zoz h
   omega
 · omega
theorem evA_in {h:Hp} {x:Wk} (I:Inv h x) {a:Int} (ha:0<=a/\a<18446744073709551616) (he:evE x a=0):0<=evA x a/\evA x a<18446744073709551616:=by
 have I2:=(I.forward he).1;unfold evA;split
 · exact ha
 · exact zwR _
 · exact ha
 · exact ha
 · rename_i h7;have hq:plA x (evN x a)∈(evW x a).queue:=by
    have e:evW x a=zbB x a:=by unfold evW;rw [h7];rfl
    rw [e];exact qbq _ (qau.2 rfl)
   have:=I2.queue_bd hq
   omega
 · omega
theorem zrH {h:Hp}:∀ (rs:List Int) (x:Wk) (acc:List Int),Inv h x->WB rs->WB acc->WB (zaJ x acc rs).2.1
 | [],_,_,_,_,h=>h
 | r::rs,x,acc,I,hl,ha=>by
  rw [zaJ];by_cases he:evE x r=0
  · rw [if_pos he];refine zrH rs _ _ (I.forward he).1 (fun q hq=>hl q (qaC _ hq)) (fun q hq=>?_)
    rcases qao.1 hq with h1 | h1
    · exact ha q h1
    · rw [qau.1 h1];exact evA_in I (hl r (qaT ..)) he
  · rw [if_neg he];exact WB.nil
theorem znG:zjb:=by
 intro n x hn hm L hc;have hE:okH x.h=true/\(zir x.h x.st).2.2=0/\(zhm x.h x.st).2=0:=by
  unfold zex at hc;split at hc
  · rename_i h1;split at hc
    · split at hc
      · rename_i h3;exact ⟨h1,h3,hc⟩
      · rename_i h3;exact absurd hc h3
    · exact absurd hc (by decide)
  · exact absurd hc (by decide)
 obtain ⟨h1,h2,h3⟩:=hE;obtain ⟨-,hr⟩:=zmU x.st (zbV x.h) [] (zho h1) L.st;obtain ⟨I7,L7,e7⟩:=hr h2;have hsc7:(zaJ (zbV x.h) [] x.st).1.sc=((0:Nat):Int):=L7.sc
 obtain ⟨-,ha⟩:=zvq ((zaf x.h).length+1) (zaJ (zbV x.h) [] x.st).1 0 I7 hsc7 (qa4 _) (by omega)
 have I8:Inv x.h (zhm x.h x.st).1:=ha h3;have I9:Inv x.h (zbN x.h x.st x.wk):=I8.reports _ _ _ _ _ _ _;have hB:(0:Int)<=n:=by omega
 have p8:PinL n (zhm x.h x.st).1.h.pages:=zrL hB _ _ (zot hB _ _ _ (zuk L.pins));obtain ⟨f1,f2,f3⟩:=zkJ (zbN x.h x.st x.wk).old (zbN x.h x.st x.wk);have hfl:=I9.fill;have hpl:(zaG (zbN x.h x.st x.wk)).h.pages.length=x.h.pages.length:=by
  rw [show (zaG (zbN x.h x.st x.wk)).h.pages=(zbN x.h x.st x.wk).h.pages from f1];exact I9.pl
 have hpw:(zaG (zbN x.h x.st x.wk)).h.pw=x.h.pw:=(show (zaG (zbN x.h x.st x.wk)).h.pw=(zbN x.h x.st x.wk).h.pw from f2).trans I9.pw
 have hnp:(zaG (zbN x.h x.st x.wk)).h.np=x.h.np:=(show (zaG (zbN x.h x.st x.wk)).h.np=(zbN x.h x.st x.wk).h.np from f3).trans I9.np
 have hcf:=zak L.conf;have hfw:=zhb (zaG (zbN x.h x.st x.wk)) (by rw [hpw];omega) (by rw [hfl,hpl,hpw,L.pages];exact L.words) (zaG (zbN x.h x.st x.wk)).h.pages.length (qan _)
 refine ⟨?_,?_,?_,?_,fun a ha=>?_,?_,?_,?_⟩
 · show confB (zaG (zbN x.h x.st x.wk)).h.pw (zaG (zbN x.h x.st x.wk)).h.np=true
   rw [hpw,hnp];exact L.conf
 · show ((frWs (zaG (zbN x.h x.st x.wk)) (zaG (zbN x.h x.st x.wk)).h.pages.length).length:Int)=(zaG (zbN x.h x.st x.wk)).h.np*(zaG (zbN x.h x.st x.wk)).h.pw
   rw [hfw,hfl,hpw,hnp];exact L.words
 · show ((frPs (zaG (zbN x.h x.st x.wk)) (zaG (zbN x.h x.st x.wk)).h.pages.length).length:Int)=(zaG (zbN x.h x.st x.wk)).h.np
   rw [zhc,hpl,hnp];exact L.pages
 · exact zrH x.st (zbV x.h) [] (zho h1) L.st WB.nil
 · obtain ⟨b,hb,rfl⟩:=qaz.1 ha;have hbb:=L.wk b hb;unfold zf4 zhq;split
   · omega
   · split
     · exact hbb
     · exact zwR _
 · have:=L.stn
   show (zaJ (zbV x.h) [] x.st).2.1.length<=_
   rw [e7];simp;omega
 · have:=L.wkn
   show (List.map _ x.wk).length<=_
   rw [qai];omega
 · intro g hg;have:=zm0 hB (x:=zaG (zbN x.h x.st x.wk)) (by rw [show (zaG (zbN x.h x.st x.wk)).h.pages=(zbN x.h x.st x.wk).h.pages from f1];exact p8) _ g hg
   omega
theorem zuH {pw n:Int} (h1:16<=pw) (h2:pw<=64) (h3:pw / 4<n) (h4:n<=4*pw):zeK pw n=(n+pw-1) / pw:=by
 have hd:∀ k:Int,(k-1)*pw<n->n<=k*pw->(n+pw-1) / pw=k:=by
  intro k a b;have e1:(k-1)*pw=k*pw-pw:=by rw [Int.sub_mul,qbk]
  have e2:(n+pw-1)=(n+pw-1-k*pw)+k*pw:=by omega
  rw [e2,qcB _ _ (by omega),qcD (by omega) (by omega)];omega
 unfold zeK;rw [if_neg (by omega)]
 split
 · rw [hd 1 (by omega) (by omega)]
 · split
   · rw [hd 2 (by omega) (by omega)]
   · split
     · rw [hd 3 (by omega) (by omega)]
     · rw [hd 4 (by omega) (by omega)]
def zcO (n:Int):Bool:=decide (n=0\/n=1)
def zpi (x:Pg):Bool:=decide (x.space=0/\x.used=0/\x.pins=0)
def zc1 (pw:Int) (x:Pg):Bool:=zcO x.space&&decide (0<=x.used/\x.used<=pw)&&zd9 x.pins
def zbK (pw np:Int) (ps:List Pg):Nat->Int->Bool
 | 0,_=>false
 | m+1,b=>if (ps.getD m Pg.zero).kind=2 then decide (b<zaz pw np (ps.getD m Pg.zero).used) else zbK pw np ps m (b+1)
def zfo (pw np:Int) (ps:List Pg) (i:Nat):Bool:=zbK pw np ps i 1
def zdX (pw np:Int) (ps:List Pg) (i:Nat) (x:Pg):Bool:=decide (x.used=0/\x.pins=0)&&zfo pw np ps i
def zct (pw np:Int) (ps:List Pg) (i:Nat) (x:Pg):Bool :=
 zcO x.space&&decide (1<=zaz pw np x.used)&&zd9 x.pins&&decide ((i:Int)+zaz pw np x.used<=ps.length)&&zbD x.space ((ps.drop (i+1)).take ((zaz pw np x.used).toNat-1))
def zbs (pw np:Int) (ps:List Pg) (i:Nat) (x:Pg):Bool :=
 if x.kind=0 then zpi x else if x.kind=1 then zc1 pw x else if x.kind=2 then zct pw np ps i x else if x.kind=3 then zdX pw np ps i x else false
def zaO (pw np:Int) (ps:List Pg):Nat->List Pg->Bool
 | _,[]=>true
 | i,x::r=>zbs pw np ps i x&&zaO pw np ps (i+1) r
def zbi (pw np:Int) (ps:List Pg):Bool:=zaO pw np ps 0 ps
theorem zsw {pw np:Int} {ps:List Pg} {i:Nat} {x:Pg} (h:ps[i]?=some x):zaO pw np ps i (ps.drop i)=(zbs pw np ps i x&&zaO pw np ps (i+1) (ps.drop (i+1))):=by
 obtain ⟨hi,rfl⟩:=qag.1 h;rw [qaQ hi,zaO]
theorem zt3 {pw np:Int} {ps:List Pg} {i:Nat} (h:ps.length<=i):zaO pw np ps i (ps.drop i)=true:=by
 rw [qbs h,zaO]
def zhY (pw np:Int) (nw:Nat) (ps:List Pg) (sp b:Int):Bool :=
 confB pw np&&decide ((nw:Int)=np*pw)&&decide ((ps.length:Int)=np)&&zcO sp&&zdU ps b&&zbi pw np ps
theorem zrJ {ps:List Pg} {i k:Nat} {x y:Pg} (h:i+k<=ps.length) (h1:1<=k):(put ps i k y).set i x=put (ps.set i x) (i+1) (k-1) y:=by
 have hl:(ps.set i x).length=ps.length:=List.length_set
 apply qbn
 intro j;rw [qaP];have hp:(put ps i k y).length=ps.length:=zd6 h
 by_cases hj:i=j
 · rw [if_pos hj,if_pos (by omega),zdj (by omega) (Or.inr (by omega)),qaP,if_pos hj,if_pos (by omega)]
 · rw [if_neg hj];by_cases h2:i+1<=j/\j<i+k
   · rw [zj5 h (by omega) (by omega),zj5 (by omega) h2.1 (by omega)]
   · rw [zdj h (by omega),zdj (by omega) (by omega),qaP,if_neg hj]
theorem zeC {sp:Int}:zcO sp=true↔0<=sp/\sp<=1:=by
 unfold zcO;rw [qab];omega
theorem zgM (pw np:Int) (ps:List Pg):∀ (l:List Pg) (i:Nat),zaO pw np ps i l=true↔∀ j x,l[j]?=some x->zbs pw np ps (i+j) x=true
 | [],i=>by simp [zaO]
 | y::r,i=>by
  rw [zaO,qae,zgM pw np ps r (i+1)];constructor
  · rintro ⟨h1,h2⟩ j x hx;cases j with
    | zero=>simp at hx;subst hx;exact h1
    | succ j=>rw [qb2]at hx;have:=h2 j x hx;rwa [show i+1+j=i+(j+1) by omega]at this
  · intro h;refine ⟨h 0 y rfl,fun j x hx=>?_⟩
    have:=h (j+1) x (by rw [qb2];exact hx)
    rwa [show i+(j+1)=i+1+j by omega]at this
theorem za8 {pw np:Int} {ps:List Pg}:zbi pw np ps=true↔∀ i x,ps[i]?=some x->zbs pw np ps i x=true:=by
 unfold zbi;rw [zgM];simp only [qa0]
theorem zb0 {sp:Int} {ps:List Pg} {i m:Nat}:zbD sp ((ps.drop i).take m)=true↔∀ t,i<=t->t<i+m->∀ z,ps[t]?=some z->z.kind=3/\z.space=sp:=by
 unfold zbD;rw [qaN];constructor
 · intro h t h1 h2 z hz;have hm:z∈(ps.drop i).take m:=by
    refine qav (i:=t-i) ?_
    rw [qa7,if_pos (by omega),qa5,show i+(t-i)=t by omega];exact hz
   exact qaq (h z hm)
 · intro h z hz;obtain ⟨j,hj⟩:=List.getElem?_of_mem hz;rw [qa7]at hj;split at hj
   · rename_i hjm;rw [qa5]at hj;exact qac (h (i+j) (by omega) (by omega) z hj)
   · cases hj
theorem zcQ (pw np:Int) (ps:List Pg):∀ (t:Nat) (b:Int),zbK pw np ps t b=true↔∃ l,l<t/\(ps.getD l Pg.zero).kind=2/\(∀ m,l<m->m<t->¬(ps.getD m Pg.zero).kind=2)/\b+(t-1-l:Int)<zaz pw np (ps.getD l Pg.zero).used
 | 0,b=>by
  rw [zbK];constructor
  · intro h;cases h
  · rintro ⟨l,h,-⟩;omega
 | t+1,b=>by
  rw [zbK];by_cases h2:(ps.getD t Pg.zero).kind=2
  · rw [if_pos h2];constructor
    · intro h;have:=qaq h
      exact ⟨t,by omega,h2,fun m a c=>by omega,by omega⟩
    · rintro ⟨l,h3,h4,h5,h6⟩;by_cases hl:l=t
      · subst hl;exact qac (by omega)
      · exact absurd h2 (h5 t (by omega) (by omega))
  · rw [if_neg h2,zcQ pw np ps t (b+1)];constructor
    · rintro ⟨l,h3,h4,h5,h6⟩;refine ⟨l,by omega,h4,fun m a c=>?_,by omega⟩
      by_cases hm:m=t
      · subst hm;exact h2
      · exact h5 m a (by omega)
    · rintro ⟨l,h3,h4,h5,h6⟩;have hl:l≠t:=fun e=>h2 (e ▸ h4)
      exact ⟨l,by omega,h4,fun m a c=>h5 m a (by omega),by omega⟩
theorem zjU {pw np:Int} {ps:List Pg} {j:Nat} {x y:Pg} (h:zbi pw np ps=true) (hy:ps[j]?=some y) (hk:y.kind=0\/y.kind=1) (hx:x.kind=1) (hs:zc1 pw x=true):zbi pw np (ps.set j x)=true:=by
 rw [za8]at h ⊢
 have hjl:=(qag.1 hy).1;have hget:∀ t,(ps.set j x)[t]?=if j=t then some x else ps[t]?:=fun t=>by
  rw [qaP];by_cases e:j=t
  · subst e;rw [if_pos rfl,if_pos rfl,if_pos hjl]
  · rw [if_neg e,if_neg e]
 have hD:∀ t,¬j=t->(ps.set j x).getD t Pg.zero=ps.getD t Pg.zero:=fun t ht=>by rw [qaD,qaD,hget,if_neg ht]
 have hDj:(ps.set j x).getD j Pg.zero=x:=zaq (by rw [hget,if_pos rfl])
 have hDy:ps.getD j Pg.zero=y:=zaq hy
 have hk2:∀ t,(((ps.set j x).getD t Pg.zero).kind=2↔(ps.getD t Pg.zero).kind=2):=fun t=>by
  by_cases ht:j=t
  · subst ht;rw [hDj,hDy];constructor <;> intro c <;> omega
  · rw [hD t ht]
 intro i z hz;rw [hget]at hz;split at hz
 · cases hz;unfold zbs;rw [if_neg (by omega),if_pos hx]
   exact hs
 · rename_i hji;have hp:=h i z hz;unfold zbs at hp ⊢
   split
   · rename_i k0;rw [if_pos k0]at hp;exact hp
   · rename_i k0;rw [if_neg k0]at hp;split
     · rename_i k1;rw [if_pos k1]at hp;exact hp
     · rename_i k1;rw [if_neg k1]at hp;split
       · rename_i k2;rw [if_pos k2]at hp;unfold zct at hp ⊢
         rw [List.length_set];rw [qae]at hp ⊢
         refine ⟨hp.1,?_⟩;rw [zb0] at *
         intro t h1 h2 z' hz'
         rw [hget]at hz'
         split at hz'
         · rename_i e;subst e;have:=hp.2 j h1 h2 y hy
           omega
         · exact hp.2 t h1 h2 z' hz'
       · rename_i k2;rw [if_neg k2]at hp;split
         · rename_i k3;rw [if_pos k3]at hp;unfold zdX zfo at hp ⊢
           rw [qae]at hp ⊢
           refine ⟨hp.1,?_⟩;obtain ⟨l,h1,h2,h3,h4⟩:=(zcQ pw np ps i 1).1 hp.2;have hlj:¬j=l:=fun e=>by subst e;rw [hDy]at h2;omega
           exact (zcQ pw np _ i 1).2 ⟨l,h1,(hk2 l).2 h2,fun m a c hh=>h3 m a c ((hk2 m).1 hh),by rw [hD l hlj];exact h4⟩
         · rename_i k3;rw [if_neg k3]at hp;cases hp
theorem zp0 {pw np:Int} {ps:List Pg} {i k:Nat} {sp n:Int} (h:zbi pw np ps=true) (hf:zcu ps i k=true) (hl:i+k<=ps.length) (h1:1<=k) (hs:zcO sp=true) (hn:zaz pw np n=k) :
 zbi pw np (put (ps.set i ⟨2,sp,n,0⟩) (i+1) (k-1) ⟨3,sp,0,0⟩)=true:=by
 rw [za8]at h ⊢
 have hfree:∀ t,i<=t->t<i+k->∀ z,ps[t]?=some z->z.kind=0:=fun t a c z hz=>by
  have hz':z∈(ps.drop i).take k:=by
   refine qav (i:=t-i) ?_
   rw [qa7,if_pos (by omega),qa5,show i+(t-i)=t by omega];exact hz
  unfold zcu at hf;exact qaq (qaN.1 hf z hz')
 obtain ⟨qs,hqs⟩:∃ qs,put (ps.set i ⟨2,sp,n,0⟩) (i+1) (k-1) ⟨3,sp,0,0⟩=qs:=⟨_,rfl⟩
 rw [hqs];have hql:qs.length=ps.length:=by rw [<-hqs,zd6 (by rw [List.length_set];omega),List.length_set]
 have hget:∀ t,qs[t]?=if t=i then some ⟨2,sp,n,0⟩ else if i<=t/\t<i+k then some ⟨3,sp,0,0⟩ else ps[t]?:=fun t=>by
  rw [<-hqs];split
  · rename_i e;subst e;rw [zdj (by rw [List.length_set];omega) (Or.inr (by omega)),qaP,if_pos rfl,if_pos (by omega)]
  · rename_i e;split
    · rename_i hr;rw [zj5 (by rw [List.length_set];omega) (by omega) (by omega)]
    · rw [zdj (by rw [List.length_set];omega) (by omega),qaP,if_neg (by omega)]
 have hin:∀ t,i<=t->t<i+k->∃ z,ps[t]?=some z:=fun t a c=>⟨_,qaj (show t<ps.length by omega)⟩
 have hD:∀ t,¬(i<=t/\t<i+k)->qs.getD t Pg.zero=ps.getD t Pg.zero:=fun t ht=>by rw [qaD,qaD,hget,if_neg (by omega),if_neg ht]
 have hDi:qs.getD i Pg.zero=⟨2,sp,n,0⟩:=zaq (by rw [hget,if_pos rfl])
 have hDt:∀ t,i<t->t<i+k->qs.getD t Pg.zero=⟨3,sp,0,0⟩:=fun t a c=>zaq (by rw [hget,if_neg (by omega),if_pos ⟨by omega,c⟩])
 have hD0:∀ t,i<=t->t<i+k->(ps.getD t Pg.zero).kind=0:=fun t a c=>by
  obtain ⟨z,hz⟩:=hin t a c;rw [zaq hz];exact hfree t a c z hz
 intro t z hz;rw [hget]at hz;split at hz
 · rename_i e;subst e;cases hz;unfold zbs;rw [if_neg (show ¬(2:Int)=0 by decide),if_neg (show ¬(2:Int)=1 by decide),if_pos rfl]
   unfold zct;simp only
   rw [hs,hn,hql,qac (show (1:Int)<=k by omega),qac (show (t:Int)+k<=ps.length by omega),show zd9 0=true from rfl,qaV,qaV,qaV,qaV,zb0]
   intro u a c z hz;rw [hget,if_neg (by omega),if_pos (by omega)]at hz
   cases hz;exact ⟨rfl,rfl⟩
 · rename_i e;split at hz
   · rename_i hr;cases hz;unfold zbs;rw [if_neg (show ¬(3:Int)=0 by decide),if_neg (show ¬(3:Int)=1 by decide),if_neg (show ¬(3:Int)=2 by decide),if_pos rfl]
     unfold zdX zfo;rw [show decide ((0:Int)=0/\(0:Int)=0)=true from rfl,qaV,zcQ]
     refine ⟨i,by omega,by rw [hDi],fun m a c=>?_,?_⟩
     · rw [hDt m a (by omega)];simp
     · rw [hDi];simp only;rw [hn];omega
   · rename_i hr;have hp:=h t z hz;unfold zbs at hp ⊢
     split
     · rename_i k0;rw [if_pos k0]at hp;exact hp
     · rename_i k0;rw [if_neg k0]at hp;split
       · rename_i k1;rw [if_pos k1]at hp;exact hp
       · rename_i k1;rw [if_neg k1]at hp;split
         · rename_i k2;rw [if_pos k2]at hp;unfold zct at hp ⊢
           rw [hql];rw [qae]at hp ⊢
           refine ⟨hp.1,?_⟩;rw [zb0] at *
           intro u a c z' hz'
           by_cases hu:i<=u/\u<i+k
           · obtain ⟨y,hy⟩:=hin u hu.1 hu.2;have h3:=(hp.2 u a c y hy).1;have h0:=hfree u hu.1 hu.2 y hy;omega
           · rw [hget,if_neg (by omega),if_neg hu]at hz'
             exact hp.2 u a c z' hz'
         · rename_i k2;rw [if_neg k2]at hp;split
           · rename_i k3;rw [if_pos k3]at hp;unfold zdX zfo at hp ⊢
             rw [qae]at hp ⊢
             refine ⟨hp.1,?_⟩;obtain ⟨l,h2,h3,h4,h5⟩:=(zcQ pw np ps t 1).1 hp.2;have hlo:¬(i<=l/\l<i+k):=fun c=>by have:=hD0 l c.1 c.2;omega
             have htl:t<ps.length:=(qag.1 hz).1;have hlz:ps[l]?=some (ps[l]'(by omega)):=qaj _
             have hpl:=h l _ hlz;rw [zaq hlz]at h3 h5;unfold zbs at hpl;rw [if_neg (by omega),if_neg (by omega),if_pos h3]at hpl
             unfold zct at hpl;rw [qae,zb0]at hpl;have hnot:∀ m,l<m->m<t->¬(i<=m/\m<i+k):=fun m a c hc=>by
              obtain ⟨y,hy⟩:=hin m hc.1 hc.2;have q3:=(hpl.2 m (by omega) (by omega) y hy).1
              have q0:=hfree m hc.1 hc.2 y hy;omega
             refine (zcQ pw np qs t 1).2 ⟨l,h2,by rw [hD l hlo,zaq hlz];exact h3,fun m a c=>by rw [hD m (hnot m a c)];exact h4 m a c,by rw [hD l hlo,zaq hlz];exact h5⟩
           · rename_i k3;rw [if_neg k3]at hp;cases hp
theorem zgR (pw np:Int) (ps:List Pg):∀ (i:Nat) (b:Int),1<=b->(zbK pw np ps i b=true↔b<=zfa pw np ps i)
 | 0,b,hb=>by
  rw [zbK,zfa];constructor
  · intro h;cases h
  · intro h;omega
 | i+1,b,hb=>by
  rw [zbK,zfa];by_cases h2:(ps.getD i Pg.zero).kind=2
  · rw [if_pos h2,if_pos h2,qab];omega
  · rw [if_neg h2,if_neg h2,zgR pw np ps i (b+1) (by omega)];omega
theorem zjV {pw np:Int} {ps:List Pg} (h:zaK pw np ps 0=true):zbi pw np ps=true:=by
 rw [za8];intro i x hx;have hi:i<ps.length:=(qag.1 hx).1;have hp:=zj6 h i (by omega)
 obtain ⟨_,rfl⟩:=qag.1 hx;rw [qaQ hi,zaK]at hp;generalize hX:ps[i]=x at *
 cases hs:zch pw np x (ps.drop (i+1)) (zfa pw np ps i) with
 | none=>rw [hs]at hp;cases hp
 | some d=>
  unfold zch at hs;split at hs
  · cases hs
  · rename_i hA;have hsp:zcO x.space=true:=zeC.2 ⟨by omega,by omega⟩
    have hpn:zd9 x.pins=true:=by
     cases hp':zd9 x.pins
     · exact absurd (Or.inr (Or.inr (Or.inr hp'))) hA
     · rfl
    unfold zbs;split
    · rename_i k0;rw [if_pos k0]at hs;split at hs
      · rename_i e;rw [e];rfl
      · cases hs
    · rename_i k0;rw [if_neg k0]at hs;split
      · rename_i k1;rw [if_pos k1]at hs;split at hs
        · cases hs
        · unfold zc1;rw [hsp,hpn,qac (show 0<=x.used/\x.used<=pw by omega)];rfl
      · rename_i k1;rw [if_neg k1]at hs;split
        · rename_i k2;rw [if_pos k2]at hs;split at hs
          · cases hs
          · rename_i hB;have hn1:1<=zaz pw np x.used:=by omega
            obtain ⟨t1,t2⟩:=(zjy x.space (ps.drop (i+1)) ((zaz pw np x.used).toNat-1)).1 (by omega)
            rw [qaK]at t1;unfold zct;rw [hsp,hpn,qac hn1,qac (show (i:Int)+zaz pw np x.used<=ps.length by omega),t2];rfl
        · rename_i k2;rw [if_neg k2]at hs;split
          · rename_i k3;rw [if_pos k3]at hs;split at hs
            · rename_i e;unfold zdX;rw [qac e,qaV];unfold zfo;rw [zgR pw np ps i 1 (by omega)]
              have:x.kind=3↔0<zfa pw np ps i:=Classical.not_not.1 fun c=>hA (Or.inl c)
              have:=this.1 k3
              omega
            · cases hs
          · rename_i k3;rw [if_neg k3]at hs;cases hs
theorem zfg {pw np:Int} {ps:List Pg} (h:zbi pw np ps=true):∀ (k i:Nat),i+k=ps.length->zaK pw np (ps.drop i) (zfa pw np ps i)=true
 | 0,i,hi=>by rw [qa6 (by omega)];rfl
 | k+1,i,hi=>by
  have ih:=zfg h k (i+1) (by omega)
  have hlt:i<ps.length:=by omega
  have hx:ps[i]?=some (ps[i]'hlt):=qaj _
  rw [za8]at h;have hp:=h i _ hx;rw [qaQ hlt,zaK];generalize ps[i]'hlt=x at *
  have hdue:0<zfa pw np ps i->x.kind=3/\0<=x.space/\x.space<=1:=fun hd=>by
   obtain ⟨l,h1,h2,-,h4⟩:=(zcQ pw np ps i 1).1 ((zgR pw np ps i 1 (by omega)).2 (by omega))
   have hl:ps[l]?=some (ps[l]'(by omega)):=qaj _
   have hpl:=h l _ hl;rw [zaq hl]at h2 h4;unfold zbs at hpl;rw [if_neg (by omega),if_neg (by omega),if_pos h2]at hpl
   unfold zct at hpl;simp only [qae]at hpl;have ht:=(zb0.1 hpl.2) i (by omega) (by omega) x hx
   have hs:=zeC.1 hpl.1.1.1.1;exact ⟨ht.1,by omega,by omega⟩
  have key:zch pw np x (ps.drop (i+1)) (zfa pw np ps i)≠none:=by
   have h3:x.kind=3->0<zfa pw np ps i/\x.used=0/\x.pins=0:=fun k3=>by
    unfold zbs at hp;rw [if_neg (by omega),if_neg (by omega),if_neg (by omega),if_pos k3]at hp
    unfold zdX at hp;rw [qae,qab]at hp;have:=(zgR pw np ps i 1 (by omega)).1 hp.2
    exact ⟨by omega,hp.1⟩
   have hiff:x.kind=3↔0<zfa pw np ps i:=⟨fun k=>(h3 k).1,fun d=>(hdue d).1⟩
   unfold zbs at hp;unfold zch;split at hp
   · rename_i k0;obtain ⟨a1,a2,a3⟩:=qaq hp;have ex:x=Pg.zero:=by cases x;simp only at k0 a1 a2 a3;subst k0 a1 a2 a3;rfl
     rw [if_neg (by rw [a1,a3];rintro (c | c | c | c);exact c hiff;omega;omega;cases c),if_pos k0,if_pos ex]
     exact fun c=>by cases c
   · rename_i k0;split at hp
     · rename_i k1;unfold zc1 at hp;simp only [qae,qab]at hp;have hs:=zeC.1 hp.1.1;rw [if_neg (by rintro (c | c | c | c);exact c hiff;omega;omega;rw [hp.2]at c;cases c),if_neg k0,if_pos k1,if_neg (by omega)]
       exact fun c=>by cases c
     · rename_i k1;split at hp
       · rename_i k2;unfold zct at hp;simp only [qae,qab]at hp;obtain ⟨⟨⟨⟨a1,a2⟩,a3⟩,a4⟩,a5⟩:=hp;have hs:=zeC.1 a1;have ht:=(zjy x.space (ps.drop (i+1)) ((zaz pw np x.used).toNat-1)).2 ⟨by rw [qaK];omega,a5⟩
         rw [if_neg (by rintro (c | c | c | c);exact c hiff;omega;omega;rw [a3]at c;cases c),if_neg k0,if_neg k1,if_pos k2,if_neg (by omega)]
         exact fun c=>by cases c
       · rename_i k2;split at hp
         · rename_i k3;obtain ⟨b1,b2,b3⟩:=h3 k3;obtain ⟨-,c1,c2⟩:=hdue b1;rw [if_neg (by rw [b3];rintro (c | c | c | c);exact c hiff;omega;omega;cases c),if_neg k0,if_neg k1,if_neg k2,if_pos k3,if_pos ⟨b2,b3⟩]
           exact fun c=>by cases c
         · cases hp
  cases hs:zch pw np x (ps.drop (i+1)) (zfa pw np ps i) with
  | none=>exact absurd hs key
  | some d=>
   simp only
   rw [zsg hx hs];exact ih
theorem ziU (pw np:Int) (ps:List Pg):zaK pw np ps 0=zbi pw np ps:=by
 cases h:zbi pw np ps
 · cases h2:zaK pw np ps 0
   · rfl
   · rw [zjV h2]at h;cases h
 · have:=zfg h ps.length 0 (by omega)
   rwa [qbS]at this
theorem zcj (pw np:Int) (nw:Nat) (ps:List Pg) (sp b:Int):zhY pw np nw ps sp b=zc2 pw np nw ps sp b:=by
 unfold zhY zc2;rw [ziU];have:zcO sp=decide (0<=sp/\sp<=1):=by
  unfold zcO;by_cases h:0<=sp/\sp<=1
  · rw [qac h];exact qac (by omega)
  · rw [qak h];exact qak (by omega)
 rw [this]
theorem zvm {pw np k n m:Int} (h:k=0):zit pw np k n m=false:=by
 unfold zit;simp [h]
theorem zvn {pw np k n m:Int} (h:¬k=0):zit pw np k n m=(zaz pw np (zaV k n m) != -1):=by
 unfold zit;cases hv:zaA k n m
 · rw [zp3 hv,zgw (Or.inr (by omega))];rfl
 · by_cases hz:zaz pw np (zaV k n m) = -1 <;> simp [h,hz]
structure PlOK7 (h:Hp):Prop where
 conf:confB h.pw h.np=true
 len:(h.pages.length:Int)=h.np
 sp:0<=h.space/\h.space<=1
 bp:h.bump = -1\/∃ K:Nat,∃ x:Pg,h.bump=K/\h.pages[K]?=some x/\x.kind=1/\0<=x.used/\x.used<=h.pw
theorem PlOK7.bump {h:Hp} (hp:PlOK7 h):(h.bump = -1\/0<=h.bump/\h.bump<h.pages.length)/\(¬h.bump = -1->0<=(h.pages.getD h.bump.toNat Pg.zero).used/\(h.pages.getD h.bump.toNat Pg.zero).used<=100000):=by
 obtain ⟨_,k2,_⟩:=zak hp.conf;rcases hp.bp with h1 | ⟨K,x,h1,h2,-,h3,h4⟩
 · exact ⟨Or.inl h1,fun c=>absurd h1 c⟩
 · have:=(qag.1 h2).1
   rw [h1,qad,zaq h2];exact ⟨Or.inr ⟨by omega,by omega⟩,fun _=>⟨h3,by omega⟩⟩
theorem zfI {pw np:Int} {K:Nat} {o:Int} (hc:confB pw np=true) (hk:(K:Int)<np) (h0:0<=o) (h1:o<pw):zk3 pw np K o=0/\za5 pw np K o=4096+K*pw+o:=by
 obtain ⟨a,b⟩:=zeg hc (p:=(K:Int)) (o:=o) (qac ⟨by omega,hk,h0,h1⟩)
 exact ⟨b,a⟩
theorem zmc {h:Hp} {nn:Int} (hp:PlOK7 h) (h1:1<=nn) (hn:newB h nn=false) :
 ∃ (K:Nat) (x:Pg),h.bump=K/\h.pages[K]?=some x/\(0<=x.used/\x.used<=100000)/\zb4 h nn=true/\ziS h nn=⟨h.pw,h.np,h.words,h.pages.set K ⟨x.kind,x.space,x.used+nn,x.pins⟩,h.space,K⟩/\zk3 h.pw h.np K x.used=0/\zgN h nn=za5 h.pw h.np K x.used:=by
 have hd:=qa8 hn;obtain ⟨_,k2,_⟩:=zak hp.conf;rcases hp.bp with h2 | ⟨K,x,h2,h3,-,h4,h5⟩
 · exact absurd (Or.inl (by omega)) hd
 · have hK:=(qag.1 h3).1;have hbp:zi4 h=x:=by unfold zi4;rw [h2,qad,zaq h3]
   have hl:=hp.len;rw [hbp]at hd;obtain ⟨a,b⟩:=zfI (K:=K) (o:=x.used) hp.conf (by omega) h4 (by omega)
   have hJ:ze3 h nn=K:=by unfold ze3;rw [hn];exact h2
   have hP:zbJ h nn=h.pages:=by unfold zbJ;rw [hn];rfl
   refine ⟨K,x,h2,h3,⟨h4,by omega⟩,by unfold zb4;rw [hn];rfl,?_,a,?_⟩
   · unfold ziS zf0;rw [hJ,hP,qad,zaq h3]
   · unfold zgN;rw [hJ,hP,qad,zaq h3,b]
theorem zoq {h:Hp} {nn:Int} (hp:PlOK7 h) (hn:newB h nn=true) (hf:zdE h=false) :
 ∃ (K:Nat),zaC h.pages 1=K/\K<h.pages.length/\zhU h.pages K h.space=0/\zcP h.pages K h.space=h.pages.set K ⟨1,h.space,0,0⟩/\(∃ y,h.pages[K]?=some y/\y.kind=0)/\zb4 h nn=true/\ziS h nn=⟨h.pw,h.np,h.words,(h.pages.set K ⟨1,h.space,0,0⟩).set K ⟨1,h.space,0+nn,0⟩,h.space,K⟩/\zk3 h.pw h.np K 0=0/\zgN h nn=za5 h.pw h.np K 0:=by
 have hd:=qa8 hf;have hF:0<=zaC h.pages 1:=by omega
 obtain ⟨-,f1,f2⟩:=zc7 hF;obtain ⟨K,hK⟩:=qaS hF;rw [hK]at f1 f2;obtain ⟨y,hy,hy0⟩:=f2 K (by omega) (by omega)
 have hlt:K<h.pages.length:=(qag.1 hy).1;have hfree:zcu h.pages K 1=true:=by
  have:=zb5 (ps:=h.pages) (i:=K) (k:=0) (x:=y) (by rw [qbc];exact hy)
  rw [zcD,hy0]at this;simpa using this
 obtain ⟨t1,t2⟩:=zhR (x:=⟨1,h.space,0,0⟩) (y:=Pg.zero) hlt (show K+1<=h.pages.length by omega) hfree
 rw [zrJ (by omega) (by omega),zmZ]at t1
 have hps:zcP h.pages K h.space=h.pages.set K ⟨1,h.space,0,0⟩:=by
  unfold zcP;rw [if_pos hp.sp];exact t1
 have hpe:zhU h.pages K h.space=0:=by unfold zhU;rw [if_pos hp.sp];exact t2
 have hl:=hp.len;obtain ⟨k1,k2,_⟩:=zak hp.conf;obtain ⟨a,b⟩:=zfI (K:=K) (o:=0) hp.conf (by omega) (by omega) (by omega)
 have hJ:ze3 h nn=K:=by unfold ze3;rw [hn];exact hK
 have hP:zbJ h nn=h.pages.set K ⟨1,h.space,0,0⟩:=by unfold zbJ;rw [hn,if_pos rfl,hK,hps]
 have hg:(h.pages.set K ⟨1,h.space,0,0⟩)[K]?=some ⟨1,h.space,0,0⟩:=by rw [qaP,if_pos rfl,if_pos hlt]
 refine ⟨K,hK,hlt,hpe,hps,⟨y,hy,hy0⟩,by unfold zb4;rw [hn,hf];rfl,?_,a,?_⟩
 · unfold ziS zf0;rw [hJ,hP,qad,zaq hg]
 · unfold zgN;rw [hJ,hP,qad,zaq hg,b]
theorem zsI {h:Hp} {nn:Int} (hn:newB h nn=true) (hf:zdE h=true):zb4 h nn=false:=by
 unfold zb4;rw [hn,hf];rfl
theorem zqb {h:Hp} {n k:Int} (hp:PlOK7 h) (hk:zaz h.pw h.np n=k) (h1:1<=k) (hF:0<=zaC h.pages k) :
 ∃ (K kk:Nat),k=kk/\zaC h.pages k=K/\K+kk<=h.pages.length/\zcu h.pages K kk=true/\zgy h.pw h.np h.pages K h.space n=0/\zed h.pw h.np h.pages K h.space n=put (h.pages.set K ⟨2,h.space,n,0⟩) (K+1) (kk-1) ⟨3,h.space,0,0⟩/\zk3 h.pw h.np K 0=0/\ziX h k=za5 h.pw h.np K 0:=by
 obtain ⟨-,f1,f2⟩:=zc7 hF;obtain ⟨K,hK⟩:=qaS hF;obtain ⟨kk,hkk⟩:=qaS (show 0<=k by omega)
 rw [hK]at f1 f2;have hfree:∀ j:Nat,j<=kk->zcu h.pages K j=true:=by
  intro j;induction j with
  | zero=>intro _;exact zcD _ _
  | succ j ih=>
   intro hj;obtain ⟨y,hy,hy0⟩:=f2 (K+j) (by omega) (by omega)
   rw [zb5 hy,ih (by omega),hy0];rfl
 have hl:=hp.len;obtain ⟨k1,k2,_⟩:=zak hp.conf;obtain ⟨a,b⟩:=zfI (K:=K) (o:=0) hp.conf (by omega) (by omega) (by omega)
 obtain ⟨t1,t2⟩:=zhR (x:=⟨2,h.space,n,0⟩) (y:=⟨3,h.space,0,0⟩) (show K<h.pages.length by omega) (show K+kk<=h.pages.length by omega) (hfree kk (qan _))
 rw [zrJ (by omega) (by omega)]at t1
 obtain ⟨e1,e2⟩:=zuS (ps:=h.pages) (i:=(K:Int)) (show 1<=zaz h.pw h.np n/\0<=h.space/\h.space<=1 from ⟨by omega,hp.sp⟩)
 refine ⟨K,kk,hkk,hK,by omega,hfree kk (qan _),?_,?_,a,?_⟩
 · rw [e2,hk,hkk];exact t2
 · rw [e1,hk,hkk];exact t1
 · unfold ziX;rw [hK,b];omega
def zdk (h:Hp) (n:Int):Bool:=if 0<zaz h.pw h.np n then zeN h (zaz h.pw h.np n) else zb4 h n
def zbT (h:Hp) (n:Int):Hp:=if 0<zaz h.pw h.np n then zkx h n (zaz h.pw h.np n) else ziS h n
def zca (h:Hp) (n:Int):Int:=if 0<zaz h.pw h.np n then ziX h (zaz h.pw h.np n) else zgN h n
def okP (h:Hp):Bool:=zhY h.pw h.np h.words.length h.pages h.space h.bump
theorem za1 {h:Hp} (hp:okP h=true):confB h.pw h.np=true/\(h.words.length:Int)=h.np*h.pw/\(h.pages.length:Int)=h.np/\zcO h.space=true/\zdU h.pages h.bump=true/\zbi h.pw h.np h.pages=true:=by
 unfold okP zhY at hp;simp only [qae,qab]at hp;obtain ⟨⟨⟨⟨⟨h1,h2⟩,h3⟩,h4⟩,h5⟩,h6⟩:=hp;exact ⟨h1,h2,h3,h4,h5,h6⟩
theorem zoA {h:Hp} (h1:confB h.pw h.np=true) (h2:(h.words.length:Int)=h.np*h.pw) (h3:(h.pages.length:Int)=h.np) (h4:zcO h.space=true) (h5:zdU h.pages h.bump=true) (h6:zbi h.pw h.np h.pages=true):okP h=true:=by
 unfold okP zhY;rw [h1,qac h2,qac h3,h4,h5,h6];rfl
theorem zjA {pw np:Int} {ps:List Pg} {K:Nat} {x:Pg} (h:zbi pw np ps=true) (hx:ps[K]?=some x) (h1:x.kind=1):zcO x.space=true/\(0<=x.used/\x.used<=pw)/\zd9 x.pins=true:=by
 have:=za8.1 h K x hx
 unfold zbs at this;rw [if_neg (by omega),if_pos h1]at this
 unfold zc1 at this;rw [qae,qae,qab]at this;exact ⟨this.1.1,this.1.2,this.2⟩
theorem PlOK7.of {h:Hp} (hp:okP h=true):PlOK7 h:=by
 obtain ⟨h1,h2,h3,h4,h5,h6⟩:=za1 hp;refine ⟨h1,h3,zeC.1 h4,?_⟩;rcases qaq h5 with e | ⟨e1,e2,e3⟩
 · exact Or.inl e
 · have hx:h.pages[h.bump.toNat]?=some (h.pages[h.bump.toNat]'(by omega)):=qaj _
   rw [zaq hx]at e3;obtain ⟨-,hu,-⟩:=zjA h6 hx e3;exact Or.inr ⟨h.bump.toNat,_,by omega,hx,e3,hu.1,hu.2⟩
theorem zrV {pw n:Int} (hn:0<zeK pw n):n<=zeK pw n*pw:=by
 unfold zeK at *
 split at hn
 · omega
 · rename_i h0;rw [if_neg h0];split at hn
   · rename_i h1;rw [if_pos h1];omega
   · rename_i h1;rw [if_neg h1];split at hn
     · rename_i h2;rw [if_pos h2];omega
     · rename_i h2;rw [if_neg h2];split at hn
       · rename_i h3;rw [if_pos h3];omega
       · rename_i h3;rw [if_neg h3];split at hn
         · rename_i h4;rw [if_pos h4];omega
         · omega
theorem zku {pw np n:Int} (hc:confB pw np=true) (h0:¬0<zaz pw np n) (h1:¬zaz pw np n = -1):1<=n/\n<=pw / 4:=by
 have hz:zaz pw np n=0:=by have:=znl pw np n;omega
 by_cases hn:1<=n
 · rw [zgv hc hn]at hz;refine ⟨hn,?_⟩;unfold zeK at hz;split at hz
   · assumption
   · split at hz
     · omega
     · split at hz
       · omega
       · split at hz
         · omega
         · split at hz <;> omega
 · rw [zgw (Or.inr (by omega))]at hz;omega
theorem zjL {ps:List Pg} {K:Nat} {x:Pg} (h:ps[K]?=some x) (h1:x.kind=1):zdU ps K=true:=by
 have:=(qag.1 h).1
 refine qac (Or.inr ⟨by omega,by omega,?_⟩)
 rw [qad,zaq h];exact h1
theorem zfi {h:Hp} {s:Int} (hp:okP h=true) (h1:1<=s) (hn:¬zaz h.pw h.np s = -1) (hok:zdk h s=true) :
 okP (zbT h s)=true/\(zbT h s).words=h.words/\(0<=zca h s/\zca h s<18446744073709551616)/\okA h.words.length (zca h s) s.toNat=true:=by
 obtain ⟨p1,p2,p3,p4,p5,p6⟩:=za1 hp;have hpl:=PlOK7.of hp;obtain ⟨g1,g2⟩:=conf_prod p1;obtain ⟨k1,k2,-,k4,k5⟩:=zak p1;unfold zdk at hok;unfold zbT zca;by_cases hk:0<zaz h.pw h.np s
 · rw [if_pos hk]at hok;rw [if_pos hk,if_pos hk];have hd:=qaq hok;obtain ⟨K,kk,e1,e2,e3,e4,-,e6,-,e8⟩:=zqb (n:=s) hpl rfl (by omega) (show 0<=zaC h.pages (zaz h.pw h.np s) by omega)
   have hH:zkx h s (zaz h.pw h.np s)={ h with pages:=put (h.pages.set K ⟨2,h.space,s,0⟩) (K+1) (kk-1) ⟨3,h.space,0,0⟩ }:=by unfold zkx;rw [e2,e6]
   have hlen:(put (h.pages.set K ⟨2,h.space,s,0⟩) (K+1) (kk-1) ⟨3,h.space,0,0⟩).length=h.pages.length:=by rw [zd6 (by rw [List.length_set];omega),List.length_set]
   obtain ⟨a1,a2⟩:=zfI (K:=K) (o:=0) p1 (by omega) (by omega) (by omega)
   have hsz:s<=zaz h.pw h.np s*h.pw:=by
    have h3:=zgv p1 h1;rw [h3]at hk ⊢
    exact zrV hk
   have hmul:(K:Int)*h.pw+zaz h.pw h.np s*h.pw<=h.np*h.pw:=by
    rw [<-qbG];exact qaR (by omega) (by omega)
   have hK0:0<=(K:Int)*h.pw:=qbw (by omega) (by omega)
   rw [hH,e8,a2];refine ⟨zoA p1 p2 (by simp only;rw [hlen];exact p3) p4 ?_ (zp0 p6 e4 e3 (by omega) p4 e1),rfl,⟨by omega,by omega⟩,qac ⟨by omega,by omega⟩⟩
   simp only
   rcases qaq p5 with e | ⟨c1,c2,c3⟩
   · exact qac (Or.inl e)
   · have hx:h.pages[h.bump.toNat]?=some (h.pages[h.bump.toNat]'(by omega)):=qaj _
     rw [zaq hx]at c3;have hnf:¬(K<=h.bump.toNat/\h.bump.toNat<K+kk):=fun c=>by
      have hz':h.pages[h.bump.toNat]'(by omega)∈(h.pages.drop K).take kk:=by
       refine qav (i:=h.bump.toNat-K) ?_
       rw [qa7,if_pos (by omega),qa5,show K+(h.bump.toNat-K)=h.bump.toNat by omega];exact hx
      unfold zcu at e4;have:=qaq (qaN.1 e4 _ hz')
      omega
     have hy:(put (h.pages.set K ⟨2,h.space,s,0⟩) (K+1) (kk-1) ⟨3,h.space,0,0⟩)[h.bump.toNat]?=some (h.pages[h.bump.toNat]'(by omega)):=by
      rw [zdj (by rw [List.length_set];omega) (by omega),qaP,if_neg (by omega)];exact hx
     have:=zjL hy c3
     rwa [show ((h.bump.toNat:Nat):Int)=h.bump by omega]at this
 · rw [if_neg hk]at hok;rw [if_neg hk,if_neg hk];obtain ⟨s1,s4⟩:=zku p1 hk hn;cases hnb:newB h s
   · obtain ⟨K,x,b1,b2,b3,-,b5,-,b7⟩:=zmc hpl h1 hnb;have hKl:=(qag.1 b2).1;have hx1:x.kind=1:=by
      rcases hpl.bp with e | ⟨K',x',e1,e2,e3,-⟩
      · omega
      · obtain rfl:K=K':=by omega
        rw [b2]at e2;cases e2;exact e3
     obtain ⟨u1,u2,u3⟩:=zjA p6 b2 hx1;have hfit:x.used+s<=h.pw:=by
      have hd:=qa8 hnb;unfold zi4 at hd;rw [b1,qad,zaq b2]at hd;omega
     obtain ⟨a1,a2⟩:=zfI (K:=K) (o:=x.used) p1 (by omega) (by omega) (by omega)
     have hmul:(K:Int)*h.pw+h.pw<=h.np*h.pw:=(za0 p1 (by omega) (by omega)).2
     have hK0:0<=(K:Int)*h.pw:=qbw (by omega) (by omega)
     rw [b5,b7,a2];refine ⟨zoA p1 p2 (by simp only;rw [List.length_set];exact p3) p4 ?_ ?_,rfl,⟨by omega,by omega⟩,qac ⟨by omega,by omega⟩⟩
     · exact zjL (x:=⟨x.kind,x.space,x.used+s,x.pins⟩) (by simp only;rw [qaP,if_pos rfl,if_pos hKl]) hx1
     · refine zjU p6 b2 (Or.inr hx1) hx1 ?_;unfold zc1;simp only
       rw [u1,u3,qac (show 0<=x.used+s/\x.used+s<=h.pw by omega)];rfl
   · have hf:zdE h=false:=by
      unfold zb4 at hok;rw [hnb,qaV]at hok;simpa using hok
     obtain ⟨K,-,b2,-,-,⟨y,hy,hy0⟩,-,b5,-,b7⟩:=zoq hpl hnb hf;obtain ⟨a1,a2⟩:=zfI (K:=K) (o:=0) p1 (by omega) (by omega) (by omega)
     have hmul:(K:Int)*h.pw+h.pw<=h.np*h.pw:=(za0 p1 (by omega) (by omega)).2
     have hK0:0<=(K:Int)*h.pw:=qbw (by omega) (by omega)
     rw [List.set_set]at b5;rw [b5,b7,a2];refine ⟨zoA p1 p2 (by simp only;rw [List.length_set];exact p3) p4 ?_ ?_,rfl,⟨by omega,by omega⟩,qac ⟨by omega,by omega⟩⟩
     · exact zjL (x:=⟨1,h.space,0+s,0⟩) (by simp only;rw [qaP,if_pos rfl,if_pos b2]) rfl
     · refine zjU p6 hy (Or.inl hy0) rfl ?_;unfold zc1;simp only
       rw [p4,show zd9 0=true from rfl,qac (show 0<=0+s/\0+s<=h.pw by omega)];rfl
theorem zj7 (h:Hp) (k n m:Int):zkr h k n m=zdk h (zaV k n m)/\zks h k n m=zbT h (zaV k n m)/\znj h k n m=zca h (zaV k n m):=by
 unfold zkr zks znj zrU zdk zbT zca;by_cases hb:0<zaz h.pw h.np (zaV k n m)
 · simp [hb]
 · simp [hb]
theorem zui {B:Int} (hB:0<=B) {h:Hp} (hp:PinL B h.pages) (s:Int):PinL B (zbT h s).pages:=by
 unfold zbT;split
 · show PinL B (zed _ _ _ _ _ _)
   unfold zed;split
   · exact hp.take hB _ _ rfl rfl
   · exact PinL.nil B
 · show PinL B (zf0 (zbJ h s) _ _)
   refine PinL.use ?_ hB _ _;unfold zbJ;split
   · unfold zcP;split
     · exact hp.take hB _ _ rfl rfl
     · exact PinL.nil B
   · exact hp
theorem zue:zsn:=by
 intro n x k l m hn hm L k1 k3 l0 l1 m0 m1 he;obtain ⟨ha,hr⟩:zgc x.h k l m=true/\zkr x.h k l m=true:=by
  unfold zcE at he;split at he
  · rename_i h1;split at he
    · rename_i h2;exact ⟨h1,h2⟩
    · exact absurd he (by decide)
  · exact absurd he (by decide)
 obtain ⟨e1,e2,e3⟩:=zj7 x.h k l m;rw [e1]at hr;unfold zgc zit at ha;simp only [qae,qab]at ha;obtain ⟨ho,⟨hv,hk0⟩,hnd⟩:=ha;have hs:=zbj hv;have hop:okP x.h=true:=by unfold okP;rw [zcj];exact ho
 obtain ⟨q1,q2,q3,q4⟩:=zfi hop (show 1<=zaV k l m by rw [hs];omega) hnd hr
 have hoh:okH (zbT x.h (zaV k l m))=true:=by unfold okP at q1;rw [zcj]at q1;exact q1
 have hil:(zbP k l m).length=(zaV k l m).toNat:=by rw [zdM,hs];omega
 have hka:okA (zbT x.h (zaV k l m)).words.length (zca x.h (zaV k l m)) (zbP k l m).length=true:=by rw [q2,hil];exact q4
 have hie:zdx (zbT x.h (zaV k l m)) (zca x.h (zaV k l m)) k l m=0:=by
  unfold zdx;rw [if_pos ⟨hv,hoh⟩];unfold zcf;rw [if_pos hka]
 have hH:zdr x.h k l m={ zbT x.h (zaV k l m) with words:=zax (zbT x.h (zaV k l m)).words (zca x.h (zaV k l m)) (zbP k l m) }:=by
  unfold zdr;rw [if_pos he,e2,e3];unfold ze9;rw [if_pos hie]
 have hA:zfH x.h k l m=zca x.h (zaV k l m):=by unfold zfH;rw [if_pos he,e3]
 obtain ⟨p1,p2,p3,-⟩:=zap hoh;unfold putV;rw [hH,hA];refine ⟨p1,?_,p3,fun y hy=>?_,L.wk,?_,by have:=L.wkn;show x.wk.length<=_;omega,fun g hg=>?_⟩
 · show ((zax _ _ _).length:Int)=_
   rw [zce hka];exact p2
 · rcases qao.1 hy with h2 | h2
   · exact L.st y h2
   · rw [qau.1 h2];exact q3
 · have:=L.stn
   show (x.st++[zca x.h (zaV k l m)]).length<=_
   rw [qay];simp;omega
 · have:=zui (B:=n) (by omega) L.pins (zaV k l m) g hg
   omega
theorem zpb:∀ n x,Made n x->n<=400->Lens n x:=zwo zue znG
theorem zuo {fs:List (Int×Nat)} (h1:fitL 64 (fs.map (·.1))=true) (h:okF fs=false):zm3 fs=(0,2):=by
 unfold zm3;rw [if_pos h1,if_neg (by simp [h])]
theorem zrP {fs:List (Int×Nat)} (h1:fitL 64 (fs.map (·.1))=true) (h:okF fs=true):zm3 fs=(((zgp fs:Nat):Int),0):=by
 unfold zm3;rw [if_pos h1,if_pos h]
theorem zv4 {fs:List (Int×Nat)} (h1:¬fitL 64 (fs.map (·.1))=true):zm3 fs=(0,1):=by
 unfold zm3;rw [if_neg h1]
theorem zt4 (l:List Int) (x:Int):sumW (l++[x])=sumW l+x.toNat:=by
 induction l with
 | nil=>simp [sumW]
 | cons g l ih=>rw [qaJ,sumW,ih,sumW];omega
def zlo:Nat->List Int->List Int
 | _,[]=>[]
 | x,a::r=>((x &&& zgS a:Nat):Int)::zlo (x >>> a.toNat) r
theorem ztT (ws:List Int):∀ x,(zlo x ws).length=ws.length:=by
 induction ws with
 | nil=>intro x;rfl
 | cons b r ih=>intro x;rw [zlo,qaO,ih,qaO]
def unpE (x:Nat) (ws:List Int):Int:=if fitL 64 ws=true then (if x >>> sumW ws=0 then 0 else 2) else 1
def unpV (x:Nat) (ws:List Int):List Int:=if fitL 64 ws=true then (if x >>> sumW ws=0 then zlo x ws else []) else []
theorem zt5 {ws:List Int} {k:Nat} {a:Int} (h:ws[k]?=some a):sumW (ws.take (k+1))=sumW (ws.take k)+a.toNat:=by
 rw [zbE h,zt4]
theorem zrQ {n m:Int} (h1:0<=n) (h2:n<=32):m<=zf2 n↔m<2 ^ n.toNat:=by
 unfold zf2;rw [show min n.toNat 64=n.toNat from by omega]
 omega
theorem map_no {n m:Int} (h1:0<=n) (h2:n<=32) (h3:zf2 n<m):zaA 1 n m=false :=
 zcJ fun h=>by have:=(zrQ h1 h2).2 (h.2.2.2.2.1 rfl).2;omega
theorem zgk {k n m:Int} (hk:k=0\/k=2\/k=3) (h:0<=n) (h2:n<=255) (h3:m=0):zaA k n m=true :=
 zgJ ⟨by omega,by omega,h,h2,fun c=>by omega,fun _=>h3⟩
theorem zfU {f:Int×Nat} {r:List (Int×Nat)} (h:f.2<2 ^ f.1.toNat):zgp (f::r)=zgp r*2 ^ f.1.toNat+f.2:=by
 rw [zgp,<-Nat.shiftLeft_add_eq_or_of_lt h,Nat.shiftLeft_eq]
theorem zun {k n m:Nat} (h1:k<=3) (h2:n<=255) (h3:m<4294967296):zm3 [(2,1),(2,k),(12,n),(32,m)]=(zcG k n m,0):=by
 rw [zrP (by simp [fitL]) (by simp [okF,zf2];omega)]
 rw [zfU (by simp),zfU (by simp;omega),zfU (by simp;omega),zfU (by simp;omega)]
 simp only [zgp,zcG];simp
 omega
end Go.VI.P
