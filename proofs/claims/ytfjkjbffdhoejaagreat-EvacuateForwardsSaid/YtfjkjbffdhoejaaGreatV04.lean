import Derived.Test.YtfjkjbffdhoejaaGreatV00
import Derived.Calls
import Derived.Laws.CopyOwn
import Derived.Laws.Entries
import Derived.RowKit
import Derived.IntWalk
set_option linter.unusedSimpArgs false
set_option linter.unusedVariables false
set_option maxRecDepth 100000
set_option maxHeartbeats 4000000
namespace Go.VI.P
open Go
open Go.RowKit
theorem zbd{α:Type}{l:List α}{k:Nat}{x:α}(h:l[k]?=some x):l.take (k+1)=l.take k++[x]:=by
 rw [List.take_add_one,h];rfl
def confB(pw np:Int):Bool:=decide (16<=pw/\pw<=64/\pw % 4=0/\8<=np/\np<=64)
theorem zaj{pw np:Int}(h:confB pw np=true):16<=pw/\pw<=64/\pw % 4=0/\8<=np/\np<=64:=by
 unfold confB at h;exact qat h
theorem conf_mk{pw np:Int}(h:16<=pw/\pw<=64/\pw % 4=0/\8<=np/\np<=64):confB pw np=true:=by
 unfold confB;exact qad h
def zhb(pw np:Int):Int:=if confB pw np then np / 4 else 0
def zeA(pw np:Int):Int:=if confB pw np then pw / 4 else 0
def zeS(pw n:Int):Int:=if n<=pw / 4 then 0 else if n<=pw then 1 else if n<=2*pw then 2 else if n<=3*pw then 3 else if n<=4*pw then 4 else -1
def zat(pw np n:Int):Int:=if confB pw np=true/\1<=n then zeS pw n else -1
theorem zhv{pw np n:Int}(h:confB pw np=true)(h1:1<=n):zat pw np n=zeS pw n:=by unfold zat;rw [if_pos ⟨h,h1⟩]
theorem zhw{pw np n:Int}(h:confB pw np=false\/n<1):zat pw np n = -1:=by
 unfold zat;rw [if_neg];rintro ⟨a,b⟩;rcases h with h | h
 . rw [a]at h;cases h
 . omega
def inPg(pw np p o:Int):Bool:=decide (0<=p/\p<np/\0<=o/\o<pw)
def zbm(pw np p o:Int):Int:=if confB pw np then (if inPg pw np p o then 4096+p*pw+o else 0) else 0
def zmV(pw np p o:Int):Int:=if confB pw np then (if inPg pw np p o then 0 else 2) else 1
def inAr(pw np a:Int):Bool:=decide (4096<=a/\a<4096+np*pw)
def ofI(pw np a:Int):Int:=if confB pw np then (if inAr pw np a then (a-4096) / pw else 0) else 0
def ofK(pw np a:Int):Int:=if confB pw np then (if inAr pw np a then (a-4096) % pw else 0) else 0
def ofE(pw np a:Int):Int:=if confB pw np then (if inAr pw np a then 0 else 2) else 1
theorem zy4{pw np:Int}(h:confB pw np=true):zhb pw np=np / 4:=by unfold zhb;rw [if_pos h]
theorem zy5{pw np:Int}(h:confB pw np=false):zhb pw np=0:=by unfold zhb;rw [if_neg (by simp [h])]
theorem zpd{pw np:Int}(h:confB pw np=true):zeA pw np=pw / 4:=by unfold zeA;rw [if_pos h]
theorem zyB{pw np:Int}(h:confB pw np=false):zeA pw np=0:=by unfold zeA;rw [if_neg (by simp [h])]
theorem zhE{pw np p o:Int}(h:confB pw np=true)(h1:inPg pw np p o=true):zbm pw np p o=4096+p*pw+o/\zmV pw np p o=0:=by
 unfold zbm zmV;rw [if_pos h,if_pos h,if_pos h1,if_pos h1];exact ⟨rfl,rfl⟩
theorem zql{pw np p o:Int}(h:confB pw np=true)(h1:inPg pw np p o=false):zbm pw np p o=0/\zmV pw np p o=2:=by
 unfold zbm zmV;rw [if_pos h,if_pos h,if_neg (by simp [h1]),if_neg (by simp [h1])];exact ⟨rfl,rfl⟩
theorem addr_no{pw np p o:Int}(h:confB pw np=false):zbm pw np p o=0/\zmV pw np p o=1:=by
 unfold zbm zmV;rw [if_neg (by simp [h]),if_neg (by simp [h])];exact ⟨rfl,rfl⟩
theorem zma{pw np a:Int}(h:confB pw np=true)(h1:inAr pw np a=true):ofI pw np a=(a-4096) / pw/\ofK pw np a=(a-4096) % pw/\ofE pw np a=0:=by
 unfold ofI ofK ofE;rw [if_pos h,if_pos h,if_pos h,if_pos h1,if_pos h1,if_pos h1];exact ⟨rfl,rfl,rfl⟩
theorem zga{pw np a:Int}(h:confB pw np=true)(h1:inAr pw np a=false):ofI pw np a=0/\ofK pw np a=0/\ofE pw np a=2:=by
 unfold ofI ofK ofE;rw [if_pos h,if_pos h,if_pos h,if_neg (by simp [h1]),if_neg (by simp [h1]),if_neg (by simp [h1])];exact ⟨rfl,rfl,rfl⟩
theorem zyY{pw np a:Int}(h:confB pw np=false):ofI pw np a=0/\ofK pw np a=0/\ofE pw np a=1:=by
 unfold ofI ofK ofE;rw [if_neg (by simp [h]),if_neg (by simp [h]),if_neg (by simp [h])];exact ⟨rfl,rfl,rfl⟩
theorem conf_prod{pw np:Int}(h:confB pw np=true):128<=np*pw/\np*pw<=4096:=by
 obtain ⟨h1,h2,_,h4,h5⟩:=zaj h;exact ⟨Int.le_trans (show (128:Int)<=8*16 from by decide) (qco h4 h1 (by decide) (by omega)),Int.le_trans (qco h5 h2 (by omega) (by omega)) (by decide)⟩
theorem zaM{pw np p:Int}(h:confB pw np=true)(h0:0<=p)(h1:p<np):0<=p*pw/\p*pw+pw<=np*pw:=by
 obtain ⟨h2,_⟩:=zaj h;have e:p*pw+pw=(p+1)*pw:=by rw [qbd,qbi]
 exact ⟨qbl h0 (by omega),by rw [e];exact qaV (by omega) (by omega)⟩
theorem zs6{pw np p o:Int}(h:confB pw np=true)(h1:inPg pw np p o=true):inAr pw np (4096+p*pw+o)=true/\(4096+p*pw+o-4096) / pw=p/\(4096+p*pw+o-4096) % pw=o:=by
 unfold inPg at h1;obtain ⟨a,b,c,d⟩:=qat h1;obtain ⟨e,f⟩:=zaM h a b;have g:=zaj h;have e1:4096+p*pw+o-4096=o+p*pw:=by omega
 refine ⟨qad (by omega),?_,?_⟩
 . rw [e1,Int.add_mul_ediv_right _ _ (by omega),Int.ediv_eq_zero_of_lt c d];omega
 . rw [e1,Int.add_mul_emod_self_right,Int.emod_eq_of_lt c d]
structure Pg where
 kind:Int
 space:Int
 used:Int
 pins:Int
 deriving DecidableEq
def Pg.zero:Pg:=⟨0,0,0,0⟩
theorem zam{ps:List Pg}{i:Nat}{x:Pg}(h:ps[i]?=some x):ps.getD i Pg.zero=x:=by rw [qax,h];rfl
def zhk(sp:Int):List Pg->Nat
 | []=>0
 | x::r=>if x.kind=3/\x.space=sp then zhk sp r+1 else 0
def zbe:List Pg->Nat
 | []=>0
 | x::r=>(if x.kind=0 then 0 else 1)+zbe r
theorem ziz:∀ ps:List Pg,zbe ps<=ps.length
 | []=>qao _
 | x::r=>by have:=ziz r;unfold zbe;rw [qaJ];split <;> omega
theorem zku:∀ a b:List Pg,zbe (a++b)=zbe a+zbe b
 | [],b=>by simp [zbe]
 | x::r,b=>by rw [qaM,zbe,zbe,zku r b];omega
theorem zoH{ps:List Pg}{k:Nat}{x:Pg}(h:ps[k]?=some x):zbe (ps.take (k+1))=zbe (ps.take k)+if x.kind=0 then 0 else 1:=by
 rw [zbd h,zku];simp [zbe]
def zeh(out:List (Int×Int))(k:Int)(x:Pg):List (Int×Int) :=
 if x.kind=0 then (match out.getLast? with | some r=>if r.1+r.2=k then out.dropLast++[(r.1,r.2+1)] else out++[(k,1)] | none=>[(k,1)]) else out
def zbg(ps:List Pg):Nat->List (Int×Int)
 | 0=>[]
 | k+1=>match ps[k]? with | some x=>zeh (zbg ps k) k x | none=>zbg ps k
def zlW(ps:List Pg):List (Int×Int):=zbg ps ps.length
def zau(ps:List Pg)(k:Int):Int:=match (zlW ps).find? (fun r=>decide (1<=k)&&decide (k<=r.2)) with | some r=>r.1 | none=>-1
def put(ps:List Pg)(i k:Nat)(x:Pg):List Pg:=ps.take i++List.replicate k x++ps.drop (i+k)
theorem zpm(ps:List Pg)(i:Nat)(x:Pg):put ps i 0 x=ps:=by simp [put]
theorem zfb{ps:List Pg}{i k:Nat}{x:Pg}(h:i+k<=ps.length):(put ps i k x).length=ps.length:=by
 unfold put;rw [qaD,qaD,qau,qbf,qaK];omega
theorem zdO{ps:List Pg}{i k:Nat}{x:Pg}(h:i+k<=ps.length){j:Nat}(hj:i+k<=j\/j<i):(put ps i k x)[j]?=ps[j]?:=by
 unfold put;rcases hj with hj | hj
 . rw [qbo (by rw [qaD,qau,qbf];omega),qbb]
   congr 1
   rw [qaD,qau,qbf];omega
 . rw [qaR,qbL (by rw [qau];omega),qa7,if_pos hj]
theorem zol{ps:List Pg}{i k:Nat}{x:Pg}(h:i+k<=ps.length){j:Nat}(h1:i<=j)(h2:j<i+k):(put ps i k x)[j]?=some x:=by
 unfold put;rw [qaR,qbo (by rw [qau];omega),qbL (by rw [qau,qbf];omega),List.getElem?_replicate,if_pos (by rw [qau];omega)]
theorem zyH{ps:List Pg}{i k:Nat}{x:Pg}(h:i+k<ps.length):(put ps i k x).set (i+k) x=put ps i (k+1) x:=by
 apply qbw
 intro j;rw [qa1];have hl:(put ps i k x).length=ps.length:=zfb (by omega)
 by_cases hj:i+k=j
 . rw [if_pos hj,if_pos (by omega),zol (by omega) (by omega) (by omega)]
 . rw [if_neg hj];by_cases h1:i<=j/\j<i+k
   . rw [zol (by omega) h1.1 h1.2,zol (by omega) h1.1 (by omega)]
   . rw [zdO (by omega) (by omega),zdO (by omega) (by omega)]
def zcB(ps:List Pg)(i k:Nat):Bool:=((ps.drop i).take k).all fun x=>decide (x.kind=0)
theorem zcY(ps:List Pg)(i:Nat):zcB ps i 0=true:=by simp [zcB]
theorem zcp{ps:List Pg}{i k:Nat}{x:Pg}(h:ps[i+k]?=some x):zcB ps i (k+1)=(zcB ps i k&&decide (x.kind=0)):=by
 unfold zcB;rw [zbd (l:=ps.drop i) (k:=k) (x:=x) (by rw [qbb];exact h),List.all_append]
 simp
theorem zv0{ps:List Pg}{i k m:Nat}(h:zcB ps i k=true)(hm:m<=k):zcB ps i m=true:=by
 unfold zcB at *
 rw [qaN] at *
 intro x hx;refine h x ?_;rw [show (ps.drop i).take m=((ps.drop i).take k).take m from by rw [qbJ,qbE hm]]at hx
 exact qcf hx
def zhj(ps:List Pg)(i k:Int)(x y:Pg):List Pg:=if 0<=i/\i<ps.length/\k<=ps.length-i then (if zcB ps i.toNat k.toNat then (put ps i.toNat k.toNat y).set i.toNat x else []) else []
def zkR(ps:List Pg)(i k:Int):Int:=if 0<=i/\i<ps.length/\k<=ps.length-i then (if zcB ps i.toNat k.toNat then 0 else 20) else 2
def zb6(ps:List Pg)(i sp:Int):List Pg:=if 0<=sp/\sp<=1 then zhj ps i 1 ⟨1,sp,0,0⟩ Pg.zero else []
def zjl(ps:List Pg)(i sp:Int):Int:=if 0<=sp/\sp<=1 then zkR ps i 1 else 1
def zgj(pw np:Int)(ps:List Pg)(i sp n:Int):List Pg:=if 1<=zat pw np n/\0<=sp/\sp<=1 then zhj ps i (zat pw np n) ⟨2,sp,n,0⟩ ⟨3,sp,0,0⟩ else []
def zmv(pw np:Int)(ps:List Pg)(i sp n:Int):Int:=if 1<=zat pw np n/\0<=sp/\sp<=1 then zkR ps i (zat pw np n) else 1
def zf1(n:Int):Bool:=decide (0<=n/\n<=2147483647)
def zcr(pw np:Int)(x:Pg)(r:List Pg)(due:Int):Option Int :=
 if ¬(x.kind=3↔0<due)\/x.space<0\/1<x.space\/zf1 x.pins=false then none
 else if x.kind=0 then (if x=Pg.zero then some (max 0 (due-1)) else none)
 else if x.kind=1 then (if x.used<0\/pw<x.used then none else some (max 0 (due-1)))
 else if x.kind=2 then (if zat pw np x.used<1\/(zhk x.space r:Int)<zat pw np x.used-1 then none else some (max 0 (zat pw np x.used-1)))
 else if x.kind=3 then (if x.used=0/\x.pins=0 then some (max 0 (due-1)) else none)
 else none
def zaG(pw np:Int):List Pg->Int->Bool
 | [],_=>true
 | x::r,due=>match zcr pw np x r due with | some d=>zaG pw np r d | none=>false
def zgo(ps:List Pg)(b:Int):Bool:=decide (b = -1\/(0<=b/\b<ps.length/\(ps.getD b.toNat Pg.zero).kind=1))
def zfc(pw np:Int)(nw:Nat)(ps:List Pg)(sp b:Int):Bool :=
 confB pw np&&decide ((nw:Int)=np*pw)&&decide ((ps.length:Int)=np)&&decide (0<=sp/\sp<=1)&&zgo ps b&&zaG pw np ps 0
theorem ztz{pw n:Int}(h:n<=pw / 4):zeS pw n=0:=by unfold zeS;rw [if_pos h]
theorem zvT{pw n:Int}(hp:16<=pw)(h0:pw / 4<n)(h:4*pw<n):zeS pw n = -1:=by
 unfold zeS;rw [if_neg (by omega),if_neg (by omega),if_neg (by omega),if_neg (by omega),if_neg (by omega)]
theorem zeD{out:List (Int×Int)}{k:Int}{x:Pg}(h:¬x.kind=0):zeh out k x=out:=by unfold zeh;rw [if_neg h]
theorem zdL{k:Int}{x:Pg}(h:x.kind=0):zeh [] k x=[(k,1)]:=by unfold zeh;rw [if_pos h];rfl
theorem zde{pre:List (Int×Int)}{r:Int×Int}{k:Int}{x:Pg}(h:x.kind=0)(he:r.1+r.2=k):zeh (pre++[r]) k x=pre++[(r.1,r.2+1)]:=by
 unfold zeh;rw [if_pos h];simp [he]
theorem zdM{pre:List (Int×Int)}{r:Int×Int}{k:Int}{x:Pg}(h:x.kind=0)(he:¬r.1+r.2=k):zeh (pre++[r]) k x=pre++[r]++[(k,1)]:=by
 unfold zeh;rw [if_pos h];simp [he]
theorem zcV{ps:List Pg}{k:Nat}{x:Pg}(h:ps[k]?=some x):zbg ps (k+1)=zeh (zbg ps k) k x:=by
 rw [zbg,h]
theorem zgK(out:List (Int×Int)):out=[]\/∃ pre r,out=pre++[r]:=by
 rcases qcg out with h | ⟨pre,r,h⟩
 . exact Or.inl h
 . exact Or.inr ⟨pre,r,by rw [h,qcw]⟩
theorem zpf(ps:List Pg):∀ (k:Nat) (r:Int×Int),r∈zbg ps k->0<=r.1/\1<=r.2/\r.1+r.2<=k
 | 0,r,h=>by simp [zbg]at h
 | k+1,r,h=>by
  have ih:=zpf ps k;cases hx:ps[k]? with
  | none=>
   rw [zbg,hx]at h;have:=ih r h;omega
  | some x=>
   rw [zcV hx]at h;by_cases h0:x.kind=0
   . rcases zgK (zbg ps k) with e | ⟨pre,q,e⟩
     . rw [e,zdL h0]at h;simp at h;subst h;simp
     . rw [e]at h ih;have hq:=ih q (by simp)
       by_cases he:q.1+q.2=k
       . rw [zde h0 he]at h;rcases qak.1 h with h | h
         . have:=ih r (qaG _ h);omega
         . simp at h;subst h;simp;omega
       . rw [zdM h0 he]at h;rcases qak.1 h with h | h
         . have:=ih r h;omega
         . simp at h;subst h;simp
   . rw [zeD h0]at h;have:=ih r h;omega
theorem zlt(ps:List Pg):∀ k:Nat,(zbg ps k).length<=k
 | 0=>qao _
 | k+1=>by
  have ih:=zlt ps k;cases hx:ps[k]? with
  | none=>rw [zbg,hx];exact Nat.le_succ_of_le ih
  | some x=>
   rw [zcV hx];by_cases h0:x.kind=0
   . rcases zgK (zbg ps k) with e | ⟨pre,q,e⟩
     . rw [e,zdL h0];simp
     . rw [e]at ih ⊢
       by_cases he:q.1+q.2=k
       . rw [zde h0 he];simp at ih ⊢;omega
       . rw [zdM h0 he];simp at ih ⊢;omega
   . rw [zeD h0];omega
def zaY(k:Int):List (Int×Int)->Int
 | []=>-1
 | r::t=>if 1<=k/\k<=r.2 then r.1 else zaY k t
theorem zhy(ps:List Pg)(k:Int):zau ps k=zaY k (zlW ps):=by
 unfold zau;generalize zlW ps=l
 induction l with
 | nil=>rfl
 | cons r t ih=>
  rw [List.find?_cons,zaY];by_cases h:1<=k/\k<=r.2
  . rw [if_pos h];simp [h]
  . rw [if_neg h];have:(decide (1<=k)&&decide (k<=r.2))=false:=by simp;omega
    rw [this];exact ih
theorem zkw{k:Int}{l:List (Int×Int)}{i:Nat}{r:Int×Int}(h:l[i]?=some r):zaY k (l.drop i)=if 1<=k/\k<=r.2 then r.1 else zaY k (l.drop (i+1)):=by
 obtain ⟨hi,rfl⟩:=qap.1 h;rw [qaU hi,zaY]
theorem ziD{k:Int}{l:List (Int×Int)}{i:Nat}(h:l.length<=i):zaY k (l.drop i) = -1:=by
 rw [qbx h];rfl
theorem zyx{ps:List Pg}{i k:Int}{x y:Pg}(h:¬(0<=i/\i<ps.length/\k<=ps.length-i)):zhj ps i k x y=[]/\zkR ps i k=2:=by
 unfold zhj zkR;rw [if_neg h,if_neg h];exact ⟨rfl,rfl⟩
theorem zlN{ps:List Pg}{i k:Nat}{x y:Pg}(h:i<ps.length)(hk:i+k<=ps.length)(hf:zcB ps i k=true):zhj ps i k x y=(put ps i k y).set i x/\zkR ps i k=0:=by
 have hc:0<=(i:Int)/\(i:Int)<ps.length/\(k:Int)<=ps.length-i:=⟨by omega,by omega,by omega⟩
 unfold zhj zkR;rw [if_pos hc,if_pos hc,qac,qac,if_pos hf,if_pos hf];exact ⟨rfl,rfl⟩
theorem zoI{ps:List Pg}{i k m:Nat}{x:Pg}(hx:ps[i+m]?=some x)(hm:m<k)(h:¬x.kind=0):zcB ps i k=false:=by
 rw [<-qbs];intro hf;have:=zv0 hf (show m+1<=k from hm)
 rw [zcp hx]at this;simp at this;exact h this.2
structure Hp where
 pw:Int
 np:Int
 words:List Int
 pages:List Pg
 space:Int
 bump:Int
def Hp.zero:Hp:=⟨0,0,[],[],0,0⟩
def WB(xs:List Int):Prop:=∀ x∈xs,0<=x/\x<18446744073709551616
theorem WB.zeros(n:Nat):WB (List.replicate n 0):=by
 intro x hx;obtain ⟨_,rfl⟩:=List.mem_replicate.1 hx;omega
theorem WB.nil:WB []:=fun x h=>by cases h
def zpP(pw np:Int):Hp:=if confB pw np then ⟨pw,np,List.replicate (np*pw).toNat 0,List.replicate np.toNat Pg.zero,0,-1⟩ else Hp.zero
def newHE(pw np:Int):Int:=if confB pw np then 0 else 1
theorem ztx{pw np:Int}(h:confB pw np=true):zpP pw np=⟨pw,np,List.replicate (np*pw).toNat 0,List.replicate np.toNat Pg.zero,0,-1⟩/\newHE pw np=0:=by
 unfold zpP newHE;rw [if_pos h,if_pos h];exact ⟨rfl,rfl⟩
def zf8(n:Int):Int:=2 ^ min n.toNat 64-1
def zfL(n:Int):Nat:=2 ^ min n.toNat 64-1
theorem zyL(k:Nat)(h:k<=64):(2:Nat) ^ k<=18446744073709551616:=by
 have:(2:Nat) ^ k<=2 ^ 64:=qb2 (by decide) h
 simpa using this
theorem zyK(k:Nat)(h:k<64):(2:Nat) ^ k<=9223372036854775808:=by
 have:(2:Nat) ^ k<=2 ^ 63:=qb2 (by decide) (by omega)
 simpa using this
theorem zlu(k:Nat):1<=(2:Nat) ^ k:=Nat.one_le_two_pow
theorem zgk(k:Nat):((2 ^ k:Nat):Int)=(2:Int) ^ k:=by rw [qck];rfl
theorem zxS(k:Nat)(h:k<64):(2:Int) ^ k<=9223372036854775808:=by
 have:=zyK k h;rw [<-zgk];omega
theorem zxR(k:Nat):1<=(2:Int) ^ k:=by
 have:=zlu k;rw [<-zgk];omega
theorem zot(n:Int):zf8 n=((zfL n:Nat):Int):=by
 unfold zf8 zfL;have:=zlu (min n.toNat 64)
 rw [Int.natCast_sub this];simp
theorem zxt(n:Int)(h:n<0):zf8 n=0:=by
 unfold zf8;have:n.toNat=0:=by omega
 simp [this]
theorem zyW(n:Int):zfL n<18446744073709551616:=by
 unfold zfL;have:=zyL (min n.toNat 64) (by omega);have:=zlu (min n.toNat 64);omega
theorem shr_lt(x k:Nat)(hx:x<18446744073709551616):x >>> k<18446744073709551616:=by
 rw [qbS];exact Nat.lt_of_le_of_lt (Nat.div_le_self _ _) hx
theorem zlG(v:Nat)(n:Int):v &&& zfL n=v % 2 ^ min n.toNat 64:=by
 unfold zfL;exact qch v _
def fitL:Int->List Int->Bool
 | _,[]=>true
 | left,x::r=>if x<1\/left<x then false else fitL (left-x) r
theorem zp3{left x:Int}{ws:List Int}{k:Nat}(hx:ws[k]?=some x)(h:x<1\/left<x):fitL left (ws.drop k)=false:=by
 obtain ⟨hk,rfl⟩:=qap.1 hx;rw [qaU hk,fitL,if_pos h]
theorem zvc{left x:Int}{ws:List Int}{k:Nat}(hx:ws[k]?=some x)(h1:¬x<1)(h2:¬left<x):fitL left (ws.drop k)=fitL (left-x) (ws.drop (k+1)):=by
 obtain ⟨hk,rfl⟩:=qap.1 hx;rw [qaU hk,fitL,if_neg (by omega)]
theorem zve{left:Int}{ws:List Int}{k:Nat}(hk:ws.length<=k):fitL left (ws.drop k)=true:=by
 rw [qbx hk,fitL]
theorem zrZ{left x:Int}{r:List Int}(h:fitL left (x::r)=true):1<=x/\x<=left/\fitL (left-x) r=true:=by
 rw [fitL]at h;by_cases c:x<1\/left<x
 . rw [if_pos c]at h;cases h
 . rw [if_neg c]at h;exact ⟨by omega,by omega,h⟩
def sumW:List Int->Nat
 | []=>0
 | x::r=>x.toNat+sumW r
theorem zvd:∀ (ws:List Int) (left:Int),0<=left->fitL left ws=true->(sumW ws:Int)<=left
 | [],_,h,_=>by simp [sumW];exact h
 | x::r,left,h,hf=>by
  obtain ⟨h1,h2,h3⟩:=zrZ hf;have:=zvd r (left-x) (by omega) h3
  rw [sumW];omega
theorem zp4:∀ (ws:List Int) (left:Int),0<=left->fitL left ws=true->∀ x∈ws,1<=x/\x<=left
 | [],_,_,_,x,hx=>by cases hx
 | y::r,left,h,hf,x,hx=>by
  obtain ⟨h1,h2,h3⟩:=zrZ hf;rcases qas.1 hx with rfl | hx
  . exact ⟨h1,h2⟩
  . have:=zp4 r (left-y) (by omega) h3 x hx
    omega
theorem zqR:∀ (k:Nat) (ws:List Int),sumW (ws.drop k)<=sumW ws
 | 0,ws=>by simp
 | _+1,[]=>by simp
 | k+1,x::r=>by
  have:=zqR k r
  rw [List.drop_succ_cons,sumW];omega
def okF(fs:B6):Bool:=fs.all fun f=>decide ((f.2:Int)<=zf8 f.1)
def zkT:List (Int×Nat)->Nat
 | []=>0
 | f::r=>zkT r <<< f.1.toNat ||| f.2
def zq7(fs:B6):Int×Int:=if fitL 64 (fs.map (·.1))=true then (if okF fs=true then ((zkT fs:Nat),0) else (0,2)) else (0,1)
theorem znU{v:Nat}{x:Int}(h1:x<=64)(h:(v:Int)<=zf8 x):v<2 ^ x.toNat:=by
 have e:min x.toNat 64=x.toNat:=by omega
 have hp:=zlu x.toNat;rw [zot]at h;unfold zfL at h;rw [e]at h;omega
theorem join_lt{a b s t:Nat}(ha:a<2 ^ s)(hb:b<2 ^ t):a <<< t ||| b<2 ^ (s+t):=by
 rw [<-Nat.shiftLeft_add_eq_or_of_lt hb,Nat.shiftLeft_eq,Nat.pow_add];calc a*2 ^ t+b<a*2 ^ t+2 ^ t:=by omega
  _=(a+1)*2 ^ t:=by rw [qaO];omega
  _<=2 ^ s*2 ^ t:=qaT _ ha
theorem zuO:∀ (fs:B6),okF fs=true->(∀ x∈fs.map (·.1),1<=x/\x<=64)->zkT fs<2 ^ sumW (fs.map (·.1))
 | [],_,_=>by simp [zkT,sumW]
 | f::r,hok,hw=>by
  simp only [okF,qb0,qae,qab]at hok;have h1:=zuO r hok.2 (fun x hx=>hw x (qaF _ hx))
  have h2:=znU (hw f.1 (by simp)).2 hok.1
  have:=join_lt h1 h2
  rw [zkT,qaX,sumW,Nat.add_comm];exact this
theorem zvb{fs:List (Int×Nat)}(hf:fitL 64 (fs.map (·.1))=true)(k:Nat):(∀ x∈(fs.drop k).map (·.1),1<=x/\x<=64)/\sumW ((fs.drop k).map (·.1))<=64:=by
 refine ⟨fun x hx=>zp4 _ _ (by omega) hf x ?_,?_⟩
 . rw [List.map_drop]at hx;exact qci hx
 . rw [List.map_drop];have h1:=zqR k (fs.map (·.1));have h2:=zvd _ _ (by omega) hf
   omega
theorem zyN{fs:List (Int×Nat)}{i:Nat}{x:Int×Nat}(hx:fs[i]?=some x)(hv:¬(x.2:Int)<=zf8 x.1):okF fs=false:=by
 rw [<-qbs];intro h;have:=qaN.1 h x (qa0 hx)
 simp at this;exact hv this
def zay(k n m:Int):Bool:=decide (0<=k/\k<=3/\0<=n/\n<=255/\(k=1->n<=32/\m<2 ^ n.toNat)/\(¬k=1->m=0))
theorem zax{k n m:Int}(h:zay k n m=true):0<=k/\k<=3/\0<=n/\n<=255/\(k=1->n<=32/\m<2 ^ n.toNat)/\(¬k=1->m=0):=by
 unfold zay at h;exact qat h
theorem zlo{k n m:Int}(h:0<=k/\k<=3/\0<=n/\n<=255/\(k=1->n<=32/\m<2 ^ n.toNat)/\(¬k=1->m=0)):zay k n m=true:=by
 unfold zay;exact qad h
theorem zcs{k n m:Int}(h:¬(0<=k/\k<=3/\0<=n/\n<=255/\(k=1->n<=32/\m<2 ^ n.toNat)/\(¬k=1->m=0))):zay k n m=false:=by
 unfold zay;exact qai h
theorem zyM(n:Int)(h:n<=32):(2:Int) ^ n.toNat<=4294967296:=by
 have:(2:Nat) ^ n.toNat<=2 ^ 32:=qb2 (by decide) (by omega)
 rw [<-zgk];omega
theorem zlJ{k n m:Int}(h:zay k n m=true):m<4294967296:=by
 obtain ⟨h1,h2,h3,h4,h5,h6⟩:=zax h;by_cases c:k=1
 . obtain ⟨h7,h8⟩:=h5 c;have:=zyM n h7;omega
 . have:=h6 c;omega
def ze8(k n m:Int):Int:=1+4*k+16*n+65536*m
def encV(k n m:Int):Int:=if zay k n m then ze8 k n m else 0
def encE(k n m:Int):Int:=if zay k n m then 0 else 1
theorem zwN{k n m:Int}(h:zay k n m=true)(hm:0<=m):0<=ze8 k n m/\ze8 k n m<281474976710656:=by
 have:=zlJ h
 obtain ⟨h1,h2,h3,h4,h5,h6⟩:=zax h;unfold ze8;omega
def dK(x:Nat):Nat:=x / 4 % 4
def dN(x:Nat):Nat:=x / 16 % 4096
def dM(x:Nat):Nat:=x / 65536 % 4294967296
def okD(x:Nat):Bool:=decide (x % 4=1)&&decide (x<281474976710656)&&zay (dK x) (dN x) (dM x)
def decK(x:Nat):Int:=if okD x then dK x else 0
def decN(x:Nat):Int:=if okD x then dN x else 0
def decM(x:Nat):Int:=if okD x then dM x else 0
theorem zr5{x:Nat}(h:okD x=true):decK x=dK x/\decN x=dN x/\decM x=dM x:=by
 unfold decK decN decM;rw [if_pos h,if_pos h,if_pos h];exact ⟨rfl,rfl,rfl⟩
theorem zr6{x:Nat}(h:okD x=false):decK x=0/\decN x=0/\decM x=0:=by
 unfold decK decN decM;rw [if_neg (by simp [h]),if_neg (by simp [h]),if_neg (by simp [h])];exact ⟨rfl,rfl,rfl⟩
theorem zcx{x:Nat}(h:okD x=true):x % 4=1/\x<281474976710656/\zay (dK x) (dN x) (dM x)=true:=by
 unfold okD at h;simp only [qae,qab]at h;exact ⟨h.1.1,h.1.2,h.2⟩
theorem zzE{x:Nat}(h1:x % 4=1)(h2:x<281474976710656)(h3:zay (dK x) (dN x) (dM x)=true):okD x=true:=by
 unfold okD;simp only [qae,qab];exact ⟨⟨h1,h2⟩,h3⟩
theorem zxu{x:Nat}(h:¬x % 4=1\/¬x<281474976710656\/zay (dK x) (dN x) (dM x)=false):okD x=false:=by
 rw [<-qbs];intro c;obtain ⟨h1,h2,h3⟩:=zcx c
 rcases h with h | h | h
 . exact h h1
 . exact h h2
 . rw [h3]at h;cases h
theorem zzj{x:Nat}(h:okD x=true):ze8 (dK x) (dN x) (dM x)=x:=by
 obtain ⟨h1,h2,h3⟩:=zcx h;obtain ⟨_,_,_,h4,_,_⟩:=zax h3;unfold ze8 dK dN dM at *;omega
theorem zys{k n m:Int}(h:zay k n m=true)(hm:0<=m){x:Nat}(hx:ze8 k n m=x):okD x=true/\(dK x:Int)=k/\(dN x:Int)=n/\(dM x:Int)=m:=by
 have hm2:=zlJ h;obtain ⟨h1,h2,h3,h4,h5,h6⟩:=zax h;have e1:(dK x:Int)=k:=by unfold ze8 at hx;unfold dK;omega
 have e2:(dN x:Int)=n:=by unfold ze8 at hx;unfold dN;omega
 have e3:(dM x:Int)=m:=by unfold ze8 at hx;unfold dM;omega
 refine ⟨zzE ?_ ?_ ?_,e1,e2,e3⟩
 . unfold ze8 at hx;omega
 . unfold ze8 at hx;omega
 . rw [e1,e2,e3];exact h
theorem zo7{x:Nat}:okD x=true↔zay (dK x) (dN x) (dM x)=true/\ze8 (dK x) (dN x) (dM x)=x :=
 ⟨fun h=>⟨(zcx h).2.2,zzj h⟩,fun h=>(zys h.1 (Int.natCast_nonneg _) h.2).1⟩
def fwdV(a:Int):Int:=if a<4294967296 then 4*a+2 else 0
def fwdE(a:Int):Int:=if a<4294967296 then 0 else 1
theorem zzL{a:Int}(h:a<4294967296):fwdV a=4*a+2/\fwdE a=0:=by
 unfold fwdV fwdE;rw [if_pos h,if_pos h];exact ⟨rfl,rfl⟩
def okT(x:Nat):Bool:=decide (x % 4=2)&&decide (x<17179869184)
def tgtV(x:Nat):Int:=if okT x then ((x / 4:Nat):Int) else 0
theorem zrb{x:Nat}(h:okT x=true):x % 4=2/\x<17179869184:=by
 unfold okT at h;simp only [qae,qab]at h;exact h
theorem okT_mk{x:Nat}(h1:x % 4=2)(h2:x<17179869184):okT x=true:=by
 unfold okT;simp only [qae,qab];exact ⟨h1,h2⟩
theorem zzA{x:Nat}(h:okT x=true):tgtV x=((x / 4:Nat):Int):=by unfold tgtV;rw [if_pos h]
theorem tgt_no{x:Nat}(h:okT x=false):tgtV x=0:=by unfold tgtV;rw [if_neg (by simp [h])]
theorem apart(x:Nat):¬(okD x=true/\okT x=true):=by
 rintro ⟨h,k⟩;have:=(zcx h).1;have:=(zrb k).1;omega
def zaP(k n m:Int):Int:=if zay k n m then n+1 else 0
theorem zcv{k n m:Int}(h:zay k n m=true):zaP k n m=n+1:=by unfold zaP;rw [if_pos h]
theorem zsV{k n m:Int}(h:zay k n m=false):zaP k n m=0:=by unfold zaP;rw [if_neg (by simp [h])]
def ptrB(k n m i:Int):Bool:=zay k n m&&decide (0<=i)&&decide (i<n)&&(decide (k=2) || (decide (k=1)&&m.toNat.testBit i.toNat))
def zdf(k n m:Int)(j:Nat):List Int:=((List.range j).map Int.ofNat).filter (fun i=>ptrB k n m i)
def zgU(k n m:Int):List Int:=if zay k n m then zdf k n m n.toNat else []
theorem zl1(k n m:Int)(j:Nat):zdf k n m (j+1)=if ptrB k n m j then zdf k n m j++[(j:Int)] else zdf k n m j:=by
 unfold zdf;rw [List.range_succ,qa2,List.filter_append];by_cases h:ptrB k n m j=true
 . rw [if_pos h];have:([j].map Int.ofNat).filter (fun i=>ptrB k n m i)=[(j:Int)]:=by simp [h]
   rw [this]
 . rw [if_neg h];have:([j].map Int.ofNat).filter (fun i=>ptrB k n m i)=[]:=by simp [h]
   rw [this,qaW]
theorem zvG(k n m:Int)(j:Nat):(zdf k n m j).length<=j:=by
 unfold zdf;refine qaA (qbH _ _) ?_;simp
theorem zvF{k n m:Int}{j:Nat}{x:Int}(h:x∈zdf k n m j):ptrB k n m x=true:=(qbR.1 h).2
theorem zqX{k n m:Int}{x:Int}(h:x∈zgU k n m):ptrB k n m x=true:=by
 unfold zgU at h;by_cases c:zay k n m=true
 . rw [if_pos c]at h;exact zvF h
 . rw [if_neg c]at h;cases h
theorem zs0{k n m:Int}(h:zay k n m=true):zgU k n m=zdf k n m n.toNat:=by unfold zgU;rw [if_pos h]
theorem zxc{k n m:Int}(h:zay k n m=false):zgU k n m=[]:=by unfold zgU;rw [if_neg (by simp [h])]
theorem ptr_bd{k n m i:Int}(h:ptrB k n m i=true):0<=i/\i<256:=by
 unfold ptrB at h;simp only [qae,qab]at h
 obtain ⟨⟨⟨h1,h2⟩,h3⟩,_⟩:=h;obtain ⟨_,_,_,h4,_⟩:=zax h1;omega
def okA(len:Nat)(a:Int)(n:Nat):Bool:=decide (4096<=a/\a-4096+n<=len)
theorem zpt(i:Nat):((4096+(i:Int))-4096).toNat=i:=by omega
def zrN(len:Nat)(a:Int):Int:=if okA len a 1 then a-4096 else 0
def zrO(len:Nat)(a:Int):Int:=if okA len a 1 then 0 else 2
def zap(xs:List Int)(a:Int):Int:=if okA xs.length a 1 then xs.getD (a-4096).toNat 0 else 0
def zg0(xs:List Int)(a:Int):Int:=if okA xs.length a 1 then 0 else 2
def zl0(xs:List Int)(a n:Int):List Int:=if n<0 then [] else if okA xs.length a n.toNat then (xs.drop (a-4096).toNat).take n.toNat else []
def zpk(xs:List Int)(a n:Int):Int:=if n<0 then 1 else if okA xs.length a n.toNat then 0 else 2
def zaI(xs:List Int)(a:Int)(l:List Int):List Int:=if okA xs.length a l.length then splice xs (a-4096).toNat l else []
def zdI(xs:List Int)(a:Int)(l:List Int):Int:=if okA xs.length a l.length then 0 else 2
def zdy(xs:List Int)(t f n:Int):List Int:=if n<0 then [] else if okA xs.length t n.toNat/\okA xs.length f n.toNat then splice xs (t-4096).toNat ((xs.drop (f-4096).toNat).take n.toNat) else []
def zvU(xs:List Int)(t f n:Int):Int:=if n<0 then 1 else if okA xs.length t n.toNat/\okA xs.length f n.toNat then 0 else 2
theorem nneg(n:Nat):¬((n:Int)<0):=by omega
theorem zu0{xs:List Int}{i:Nat}{x:Int}(h:okA xs.length (4096+(i:Int)) 1=true)(hx:xs[i]?=some x):zap xs (4096+(i:Int))=x/\zg0 xs (4096+(i:Int))=0:=by
 unfold zap zg0;rw [if_pos h,if_pos h,zpt,qax,hx];exact ⟨rfl,rfl⟩
theorem zyF{xs:List Int}{a n:Int}(h:n<0):zl0 xs a n=[]/\zpk xs a n=1:=by
 unfold zl0 zpk;rw [if_pos h,if_pos h];exact ⟨rfl,rfl⟩
theorem read_ok{xs:List Int}{i n:Nat}(h:okA xs.length (4096+(i:Int)) n=true):zl0 xs (4096+(i:Int)) n=(xs.drop i).take n/\zpk xs (4096+(i:Int)) n=0:=by
 unfold zl0 zpk;rw [if_neg (nneg n),if_neg (nneg n),qac,if_pos h,if_pos h,zpt];exact ⟨rfl,rfl⟩
theorem read_no{xs:List Int}{a:Int}{n:Nat}(h:okA xs.length a n=false):zl0 xs a n=[]/\zpk xs a n=2:=by
 unfold zl0 zpk;rw [if_neg (nneg n),if_neg (nneg n),qac,if_neg (by simp [h]),if_neg (by simp [h])];exact ⟨rfl,rfl⟩
theorem zyq{xs l:List Int}{i:Nat}(h:okA xs.length (4096+(i:Int)) l.length=true):zaI xs (4096+(i:Int)) l=splice xs i l/\zdI xs (4096+(i:Int)) l=0:=by
 unfold zaI zdI;rw [if_pos h,if_pos h,zpt];exact ⟨rfl,rfl⟩
theorem zyr{xs l:List Int}{a:Int}(h:okA xs.length a l.length=false):zaI xs a l=[]/\zdI xs a l=2:=by
 unfold zaI zdI;rw [if_neg (by simp [h]),if_neg (by simp [h])];exact ⟨rfl,rfl⟩
theorem zcT{xs l:List Int}{i:Nat}(h:i+l.length<=xs.length):(splice xs i l).length=xs.length:=length_splice xs i l h
theorem zfX{xs l:List Int}{i j:Nat}(h:i+l.length<=xs.length)(h1:i<=j)(h2:j<i+l.length):(splice xs i l)[j]?=l[j-i]?:=by
 unfold splice;have e:(xs.take i).length=i:=by rw [qau];omega
 rw [qbo (by omega),e,qbL (by omega)]
theorem zgI{xs l:List Int}{i j:Nat}(h:i+l.length<=xs.length)(h1:j<i\/i+l.length<=j):(splice xs i l)[j]?=xs[j]?:=by
 unfold splice;have e:(xs.take i).length=i:=by rw [qau];omega
 rcases h1 with h1 | h1
 . rw [qbL (by omega),qa7,if_pos h1]
 . rw [qbo (by omega),e,qbo (by omega),qbb]
   congr 1;omega
structure Hd where
 k:Int
 n:Int
 m:Int
 deriving DecidableEq
def Hd.zero:Hd:=⟨0,0,0⟩
def okH(h:Hp):Bool:=zfc h.pw h.np h.words.length h.pages h.space h.bump
def zb5(h:Hp)(a:Int):Pg:=h.pages.getD (ofI h.pw h.np a).toNat Pg.zero
def zaX(h:Hp)(a:Int):Nat:=(h.words.getD (a-4096).toNat 0).toNat
def hdOf(x:Nat):Hd:=⟨dK x,dN x,dM x⟩
def atB(h:Hp)(a:Int):Bool :=
 decide ((zb5 h a).kind=1\/(zb5 h a).kind=2)&&decide (ofK h.pw h.np a<(zb5 h a).used)&&okD (zaX h a) &&
 (if (zb5 h a).kind=1 then decide (ofK h.pw h.np a+(dN (zaX h a)+1)<=(zb5 h a).used) else decide (ofK h.pw h.np a=0/\(dN (zaX h a):Int)+1=(zb5 h a).used))
def atE(h:Hp)(a:Int):Int:=if okH h then (if ofE h.pw h.np a=0 then (if atB h a then 0 else 19) else 2) else 1
def atH(h:Hp)(a:Int):Hd:=if atE h a=0 then hdOf (zaX h a) else Hd.zero
def getE(h:Hp)(a:Int):Int:=if okH h then (if a=0 then 5 else if atE h a=0/\(atH h a).k=0 then 4 else atE h a) else 1
def getH(h:Hp)(a:Int):Hd:=if getE h a=0 then atH h a else Hd.zero
def zky(h:Hp)(a i:Int):Int:=if getE h a=0 then (if i<0\/(getH h a).n<=i then 2 else zg0 h.words (a+1+i)) else getE h a
def zzM(h:Hp)(a i:Int):Int:=if getE h a=0 then (if i<0\/(getH h a).n<=i then 0 else zap h.words (a+1+i)) else 0
def setE(h:Hp)(a i:Int):Int:=zky h a i
def setV(h:Hp)(a i v:Int):Hp:=if zky h a i=0 then { h with words:=zaI h.words (a+1+i) [v] } else Hp.zero
theorem zan{h:Hp}(hp:okH h=true):confB h.pw h.np=true/\(h.words.length:Int)=h.np*h.pw/\(h.pages.length:Int)=h.np/\0<=h.space/\h.space<=1/\zgo h.pages h.bump=true/\zaG h.pw h.np h.pages 0=true:=by
 unfold okH zfc at hp;simp only [qae,qab]at hp;obtain ⟨⟨⟨⟨⟨h1,h2⟩,h3⟩,h4⟩,h5⟩,h6⟩:=hp;exact ⟨h1,h2,h3,h4.1,h4.2,h5,h6⟩
theorem zbT(pw np:Int):∀ (ps:List Pg) (due:Int),zaG pw np ps due=true->∀ x∈ps,0<=x.space/\x.space<=1/\0<=x.pins/\x.pins<=2147483647/\(x.kind=0->x=Pg.zero)/\(x.kind=1->0<=x.used/\x.used<=pw)/\(x.kind=2->1<=zat pw np x.used)/\(x.kind=3->x.used=0/\x.pins=0)/\(x.kind=0\/x.kind=1\/x.kind=2\/x.kind=3)
 | [],_,_,x,hx=>by cases hx
 | y::r,due,h,x,hx=>by
  rw [zaG]at h;cases hs:zcr pw np y r due with
  | none=>rw [hs]at h;cases h
  | some d=>
   rw [hs]at h;rcases qas.1 hx with rfl | hx
   . unfold zcr at hs;split at hs
     . cases hs
     . rename_i hA;have h1:0<=x.space:=by omega
       have h2:x.space<=1:=by omega
       have h3:zf1 x.pins=true:=by
        cases hp:zf1 x.pins
        . exact absurd (Or.inr (Or.inr (Or.inr hp))) hA
        . rfl
       have h4:=qat h3;refine ⟨h1,h2,h4.1,h4.2,?_⟩;split at hs
       . rename_i k;refine ⟨fun _=>?_,fun c=>by omega,fun c=>by omega,fun c=>by omega,Or.inl k⟩
         split at hs
         . assumption
         . cases hs
       . split at hs
         . rename_i k;refine ⟨fun c=>by omega,fun _=>?_,fun c=>by omega,fun c=>by omega,Or.inr (Or.inl k)⟩
           split at hs
           . cases hs
           . omega
         . split at hs
           . rename_i k;refine ⟨fun c=>by omega,fun c=>by omega,fun _=>?_,fun c=>by omega,Or.inr (Or.inr (Or.inl k))⟩
             split at hs
             . cases hs
             . omega
           . split at hs
             . rename_i k;refine ⟨fun c=>by omega,fun c=>by omega,fun c=>by omega,fun _=>?_,Or.inr (Or.inr (Or.inr k))⟩
               split at hs
               . assumption
               . cases hs
             . cases hs
   . exact zbT pw np r d h x hx
theorem zxv{h:Hp}{a:Int}(hp:okH h=true)(he:ofE h.pw h.np a=0):inAr h.pw h.np a=true/\(∃ i j:Nat,ofI h.pw h.np a=i/\ofK h.pw h.np a=j/\i<h.pages.length/\(j:Int)<h.pw/\a=4096+i*h.pw+j)/\(∃ t:Nat,a=4096+t/\t<h.words.length):=by
 obtain ⟨h1,h2,h3,_⟩:=zan hp;have hc:=zaj h1;have hin:inAr h.pw h.np a=true:=by
  cases hi:inAr h.pw h.np a
  . rw [(zga h1 hi).2.2]at he;cases he
  . rfl
 obtain ⟨e1,e2,_⟩:=zma h1 hin;obtain ⟨b1,b2⟩:=qat hin;have m1:=Int.emod_nonneg (a-4096) (show h.pw≠0 by omega)
 have m2:=Int.emod_lt_of_pos (a-4096) (show 0<h.pw by omega)
 have d1:0<=(a-4096) / h.pw:=qbU (by omega) (by omega)
 have d2:(a-4096) / h.pw<h.np:=qcr (by omega) (by omega)
 have de:=Int.mul_ediv_add_emod (a-4096) h.pw;refine ⟨hin,⟨((a-4096) / h.pw).toNat,((a-4096) % h.pw).toNat,by rw [e1];omega,by rw [e2];omega,by omega,by omega,?_⟩,⟨(a-4096).toNat,by omega,by omega⟩⟩
 rw [qcD d1,qcD m1,Int.mul_comm];omega
theorem zs2{pw np:Int}{ps:List Pg}{k:Nat}{x:Pg}(h:ps[k]?=some x)(due:Int):zaG pw np (ps.drop k) due=match zcr pw np x (ps.drop (k+1)) due with | some d=>zaG pw np (ps.drop (k+1)) d | none=>false:=by
 obtain ⟨hk,rfl⟩:=qap.1 h;rw [qaU hk,zaG]
def wrow(xs l:List Int)(i k:Nat):List Int:=splice xs i (l.take k)
theorem zo6{xs l:List Int}{i k:Nat}(h:i+l.length<=xs.length):(wrow xs l i k).length=xs.length:=by
 unfold wrow;rw [zcT (by rw [qau];omega)]
theorem zqJ(xs l:List Int)(i:Nat):wrow xs l i 0=xs:=by unfold wrow splice;simp
theorem zuB{xs l:List Int}{i k:Nat}(h:l.length<=k):wrow xs l i k=splice xs i l:=by unfold wrow;rw [qa3 h]
theorem zuA{xs l:List Int}{i k:Nat}{x:Int}(h:i+l.length<=xs.length)(hx:l[k]?=some x):(wrow xs l i k).set (i+k) x=wrow xs l i (k+1):=by
 have hk:=(qap.1 hx).1;apply qbw
 intro j;have hl1:(l.take k).length=k:=by rw [qau];omega
 have hl2:(l.take (k+1)).length=k+1:=by rw [qau];omega
 rw [qa1];by_cases h1:i+k=j
 . subst h1;rw [if_pos rfl,if_pos (by rw [zo6 h];omega)]
   unfold wrow;rw [zfX (by omega) (by omega) (by omega),qa7,if_pos (by omega),show i+k-i=k from by omega,hx]
 . rw [if_neg h1];unfold wrow;by_cases h2:i<=j/\j<i+k
   . rw [zfX (by omega) (by omega) (by omega),zfX (by omega) (by omega) (by omega),qa7,qa7,if_pos (by omega),if_pos (by omega)]
   . rw [zgI (by omega) (by omega),zgI (by omega) (by omega)]
theorem zxa(xs:List Int)(a m:Int):(zl0 xs a m).length<=xs.length:=by
 unfold zl0;by_cases h1:m<0
 . rw [if_pos h1];exact qbe _
 . rw [if_neg h1];by_cases h2:okA xs.length a m.toNat=true
   . rw [if_pos h2,qau,qaK];omega
   . rw [if_neg h2];exact qbe _
theorem ztZ{h:Hp}{a:Int}(h1:okH h=false):atE h a=1/\atH h a=Hd.zero:=by
 have e:atE h a=1:=by unfold atE;rw [if_neg (by simp [h1])]
 exact ⟨e,by unfold atH;rw [if_neg (by rw [e];decide)]⟩
theorem zjU{h:Hp}{a:Int}(h1:okH h=true)(h2:¬ofE h.pw h.np a=0):atE h a=2/\atH h a=Hd.zero:=by
 have e:atE h a=2:=by unfold atE;rw [if_pos h1,if_neg h2]
 exact ⟨e,by unfold atH;rw [if_neg (by rw [e];decide)]⟩
theorem zsh{h:Hp}{a:Int}(h1:okH h=true)(h2:ofE h.pw h.np a=0)(h3:atB h a=false):atE h a=19/\atH h a=Hd.zero:=by
 have e:atE h a=19:=by unfold atE;rw [if_pos h1,if_pos h2,if_neg (by simp [h3])]
 exact ⟨e,by unfold atH;rw [if_neg (by rw [e];decide)]⟩
theorem zoW{h:Hp}{a:Int}(h1:okH h=true)(h2:ofE h.pw h.np a=0)(h3:atB h a=true):atE h a=0/\atH h a=hdOf (zaX h a):=by
 have e:atE h a=0:=by unfold atE;rw [if_pos h1,if_pos h2,if_pos h3]
 exact ⟨e,by unfold atH;rw [if_pos e]⟩
theorem zwM{h:Hp}{a:Int}(hw:WB h.words)(hp:okH h=true)(he:ofE h.pw h.np a=0):zap h.words a=zaX h a/\zg0 h.words a=0/\zaX h a<18446744073709551616:=by
 obtain ⟨_,_,t,rfl,ht⟩:=zxv hp he;have hx:h.words[t]?=some (h.words[t]):=qaq ht
 have hk:okA h.words.length (4096+(t:Int)) 1=true:=qad (by omega)
 obtain ⟨e1,e2⟩:=zu0 hk hx;obtain ⟨b1,b2⟩:=hw _ (qcp ht);have e3:zaX h (4096+(t:Int))=(h.words[t]).toNat:=by unfold zaX;rw [zpt,qax,hx];rfl
 rw [e1,e2,e3];exact ⟨by omega,rfl,by omega⟩
theorem ziA{h:Hp}{a:Int}(e:¬getE h a=0):getH h a=Hd.zero:=by unfold getH;rw [if_neg e]
theorem zva{h:Hp}{a:Int}(h1:okH h=false):getE h a=1/\getH h a=Hd.zero:=by
 have e:getE h a=1:=by unfold getE;rw [if_neg (by simp [h1])]
 exact ⟨e,ziA (by rw [e];decide)⟩
theorem zrT{h:Hp}(h1:okH h=true):getE h 0=5/\getH h 0=Hd.zero:=by
 have e:getE h 0=5:=by unfold getE;rw [if_pos h1,if_pos rfl]
 exact ⟨e,ziA (by rw [e];decide)⟩
theorem zrU{h:Hp}{a:Int}(h1:okH h=true)(h2:¬a=0)(h3:atE h a=0)(h4:(atH h a).k=0):getE h a=4/\getH h a=Hd.zero:=by
 have e:getE h a=4:=by unfold getE;rw [if_pos h1,if_neg h2,if_pos ⟨h3,h4⟩]
 exact ⟨e,ziA (by rw [e];decide)⟩
theorem ztK{h:Hp}{a:Int}(h1:okH h=true)(h2:¬a=0)(h3:¬(atE h a=0/\(atH h a).k=0)):getE h a=atE h a/\getH h a=atH h a:=by
 have e:getE h a=atE h a:=by unfold getE;rw [if_pos h1,if_neg h2,if_neg h3]
 refine ⟨e,?_⟩;unfold getH;by_cases h4:getE h a=0
 . rw [if_pos h4]
 . rw [if_neg h4];rw [e]at h4;unfold atH;rw [if_neg h4]
theorem ztJ{h:Hp}{a:Int}(e:getE h a=0):okH h=true/\atE h a=0/\getH h a=atH h a/\ofE h.pw h.np a=0/\atB h a=true/\4096<=a/\a<8192/\0<=(getH h a).n/\(getH h a).n<=255/\¬(getH h a).k=0:=by
 have h1:okH h=true:=by
  cases h1:okH h
  . rw [(zva (a:=a) h1).1]at e;cases e
  . rfl
 have h2:¬a=0:=by intro h2;subst h2;rw [(zrT h1).1]at e;cases e
 have h3:¬(atE h a=0/\(atH h a).k=0):=by rintro ⟨h3,h4⟩;rw [(zrU h1 h2 h3 h4).1]at e;cases e
 obtain ⟨e1,e2⟩:=ztK h1 h2 h3;have h4:atE h a=0:=by rw [<-e1];exact e
 have h5:ofE h.pw h.np a=0:=by
  by_cases h5:ofE h.pw h.np a=0
  . exact h5
  . rw [(zjU h1 h5).1]at h4;cases h4
 have h6:atB h a=true:=by
  cases h6:atB h a
  . rw [(zsh h1 h5 h6).1]at h4;cases h4
  . rfl
 obtain ⟨hin,_,t,ht,htl⟩:=zxv h1 h5;obtain ⟨g1,g2,_⟩:=zan h1;have:=(conf_prod g1).2
 have hok:okD (zaX h a)=true:=by
  unfold atB at h6;simp only [qae]at h6;exact h6.1.2
 have hv:=zax (zcx hok).2.2;have hH:getH h a=hdOf (zaX h a):=by rw [e2,(zoW h1 h5 h6).2]
 refine ⟨h1,h4,e2,h5,h6,by omega,by omega,?_,?_,?_⟩
 . rw [hH];exact hv.2.2.1
 . rw [hH];exact hv.2.2.2.1
 . rw [e2];intro c;exact h3 ⟨h4,c⟩
theorem zqL{xs l:List Int}{i:Nat}(h:WB xs)(hl:WB l):WB (splice xs i l):=by
 intro x hx;unfold splice at hx;rcases qak.1 hx with hx | hx
 . exact h x (qcf hx)
 . rcases qak.1 hx with hx | hx
   . exact hl x hx
   . exact h x (qci hx)
theorem zhT{xs l:List Int}{a:Int}(h:WB xs)(hl:WB l):WB (zaI xs a l):=by
 unfold zaI;split
 . exact zqL h hl
 . exact WB.nil
def znV(k n m:Int):List Int:=ze8 k n m::List.replicate n.toNat 0
def znW(h:Hp)(a k n m:Int):Int:=if zay k n m=true/\okH h=true then zdI h.words a (znV k n m) else 1
def ztE(h:Hp)(a k n m:Int):Hp:=if znW h a k n m=0 then { h with words:=zaI h.words a (znV k n m) } else Hp.zero
theorem zrM{k n m:Int}:(znV k n m).length=n.toNat+1:=by unfold znV;rw [qaJ,qbf]
theorem zzb{k n m:Int}(h:zay k n m=true)(hm:0<=m):WB (znV k n m):=by
 intro x hx;rcases qas.1 hx with rfl | hx
 . have:=zwN h hm;omega
 . exact WB.zeros _ x hx
def zx2(h:Hp)(a:Int):Int:=if getE h a=0 then zpk h.words (a+1) (getH h a).n else getE h a
def zbG(h:Hp)(a:Int):List Int:=if getE h a=0 then zl0 h.words (a+1) (getH h a).n else []
theorem zmU(pw np p o:Int):0<=zbm pw np p o/\zbm pw np p o<18446744073709551616:=by
 cases h:confB pw np
 . unfold zbm;rw [h];simp
 . cases h1:inPg pw np p o
   . rw [(zql h h1).1];omega
   . rw [(zhE h h1).1];have hc:=conf_prod h;obtain ⟨a1,a2,a3,a4⟩:=qat h1;obtain ⟨c1,c2,_⟩:=zaj h;have e1:p*pw<=(np-1)*pw:=qaV (by omega) (by omega)
     have e2:(np-1)*pw=np*pw-pw:=by rw [Int.sub_mul,qbi]
     have e3:0<=p*pw:=qbl a1 (by omega)
     omega
theorem zjT{h:Hp}{a:Int}(e:atE h a=0):okH h=true/\zay (atH h a).k (atH h a).n (atH h a).m=true/\0<=(atH h a).m/\(atH h a).m<4294967296/\0<=(atH h a).n/\(atH h a).n<=255:=by
 have h1:okH h=true:=by
  cases h1:okH h
  . unfold atE at e;rw [h1]at e;simp at e
  . rfl
 have h5:ofE h.pw h.np a=0:=by
  by_cases h5:ofE h.pw h.np a=0
  . exact h5
  . rw [(zjU h1 h5).1]at e;cases e
 have h6:atB h a=true:=by
  cases h6:atB h a
  . rw [(zsh h1 h5 h6).1]at e;cases e
  . rfl
 have hok:okD (zaX h a)=true:=by
  unfold atB at h6;simp only [qae]at h6;exact h6.1.2
 have hv:=(zcx hok).2.2;have hp:=zax hv;have hm:=zlJ hv;rw [(zoW h1 h5 h6).2];exact ⟨h1,hv,Int.natCast_nonneg _,hm,hp.2.2.1,hp.2.2.2.1⟩
theorem zzP{h:Hp}{a:Int}(e:¬atE h a=0):atH h a=Hd.zero:=by unfold atH;exact if_neg e
def zcL(h:Hp)(i:Int)(big:Bool)(u o:Nat):Option (List Int) :=
 if _hlt:o<u then
  if atE h (zbm h.pw h.np i o)=0 then
   if big then some [zbm h.pw h.np i o]
   else (zcL h i big u (o+((atH h (zbm h.pw h.np i o)).n.toNat+1))).map (zbm h.pw h.np i o :: ·)
  else none
 else some []
 termination_by u-o
theorem zcd{h:Hp}{i:Int}{big:Bool}{u o:Nat}(hlt:¬o<u):zcL h i big u o=some []:=by
 rw [zcL,dif_neg hlt]
theorem zd4{h:Hp}{i:Int}{big:Bool}{u o:Nat}(hlt:o<u)(e:¬atE h (zbm h.pw h.np i o)=0):zcL h i big u o=none:=by
 rw [zcL,dif_pos hlt,if_neg e]
theorem zgF{h:Hp}{i:Int}{u o:Nat}(hlt:o<u)(e:atE h (zbm h.pw h.np i o)=0):zcL h i true u o=some [zbm h.pw h.np i o]:=by
 rw [zcL,dif_pos hlt,if_pos e,if_pos rfl]
theorem zey{h:Hp}{i:Int}{u o:Nat}(hlt:o<u)(e:atE h (zbm h.pw h.np i o)=0):zcL h i false u o=(zcL h i false u (o+((atH h (zbm h.pw h.np i o)).n.toNat+1))).map (zbm h.pw h.np i o :: ·):=by
 rw [zcL,dif_pos hlt,if_pos e,if_neg (by decide)]
def zcR(h:Hp)(i:Int)(big:Bool)(u o:Nat)(acc:List Int):Prop:=zcL h i big u 0=(zcL h i big u o).map (acc ++ ·)
theorem zcR.start(h:Hp)(i:Int)(big:Bool)(u:Nat):zcR h i big u 0 []:=by
 unfold zcR;cases zcL h i big u 0 <;> simp
theorem zcR.fin{h:Hp}{i:Int}{big:Bool}{u o:Nat}{acc:List Int}(hw:zcR h i big u o acc)(hlt:¬o<u):zcL h i big u 0=some acc:=by
 unfold zcR at hw;rw [hw,zcd hlt];simp
theorem zcR.bad{h:Hp}{i:Int}{big:Bool}{u o:Nat}{acc:List Int}(hw:zcR h i big u o acc)(hlt:o<u)(e:¬atE h (zbm h.pw h.np i o)=0):zcL h i big u 0=none:=by
 unfold zcR at hw;rw [hw,zd4 hlt e];rfl
theorem zcR.big{h:Hp}{i:Int}{u o:Nat}{acc:List Int}(hw:zcR h i true u o acc)(hlt:o<u)(e:atE h (zbm h.pw h.np i o)=0):zcL h i true u 0=some (acc++[zbm h.pw h.np i o]):=by
 unfold zcR at hw;rw [hw,zgF hlt e];rfl
theorem zcR.step{h:Hp}{i:Int}{u o:Nat}{acc:List Int}(hw:zcR h i false u o acc)(hlt:o<u)(e:atE h (zbm h.pw h.np i o)=0):zcR h i false u (o+((atH h (zbm h.pw h.np i o)).n.toNat+1)) (acc++[zbm h.pw h.np i o]):=by
 unfold zcR at hw ⊢;rw [hw,zey hlt e]
 cases zcL h i false u (o+((atH h (zbm h.pw h.np i o)).n.toNat+1)) <;> simp
def pgAt(h:Hp)(i:Int):Pg:=h.pages.getD i.toNat Pg.zero
def zeI(h:Hp)(i:Int):Option (List Int):=zcL h i (decide ((pgAt h i).kind=2)) (pgAt h i).used.toNat 0
def zbx(h:Hp)(i:Int):Int:=if okH h then (if i<0\/h.pages.length<=i then 2 else if (pgAt h i).kind=0\/(pgAt h i).kind=3 then 0 else if (zeI h i).isSome then 0 else 19) else 1
def zaQ(h:Hp)(i:Int):List Int:=if okH h then (if i<0\/h.pages.length<=i then [] else if (pgAt h i).kind=0\/(pgAt h i).kind=3 then [] else (zeI h i).getD []) else []
theorem zpq{h:Hp}{i:Int}(h1:okH h=false):zbx h i=1/\zaQ h i=[]:=by
 unfold zbx zaQ;rw [if_neg (by simp [h1]),if_neg (by simp [h1])];exact ⟨rfl,rfl⟩
theorem zpp{h:Hp}{i:Int}(h1:okH h=true)(h2:i<0\/h.pages.length<=i):zbx h i=2/\zaQ h i=[]:=by
 unfold zbx zaQ;rw [if_pos h1,if_pos h1,if_pos h2,if_pos h2];exact ⟨rfl,rfl⟩
theorem zf3{h:Hp}{i:Int}(h1:okH h=true)(h2:¬(i<0\/h.pages.length<=i))(h3:(pgAt h i).kind=0\/(pgAt h i).kind=3):zbx h i=0/\zaQ h i=[]:=by
 unfold zbx zaQ;rw [if_pos h1,if_pos h1,if_neg h2,if_neg h2,if_pos h3,if_pos h3];exact ⟨rfl,rfl⟩
theorem zh3{h:Hp}{i:Int}(h1:okH h=true)(h2:¬(i<0\/h.pages.length<=i))(h3:¬((pgAt h i).kind=0\/(pgAt h i).kind=3)):zbx h i=(if (zeI h i).isSome then 0 else 19)/\zaQ h i=(zeI h i).getD []:=by
 unfold zbx zaQ;rw [if_pos h1,if_pos h1,if_neg h2,if_neg h2,if_neg h3,if_neg h3];exact ⟨rfl,rfl⟩
theorem zq5{h:Hp}{i:Int}{l:List Int}(h1:okH h=true)(h2:¬(i<0\/h.pages.length<=i))(h3:¬((pgAt h i).kind=0\/(pgAt h i).kind=3))(h4:zeI h i=some l):zbx h i=0/\zaQ h i=l:=by
 obtain ⟨e1,e2⟩:=zh3 h1 h2 h3;rw [e1,e2,h4];exact ⟨rfl,rfl⟩
theorem zq6{h:Hp}{i:Int}(h1:okH h=true)(h2:¬(i<0\/h.pages.length<=i))(h3:¬((pgAt h i).kind=0\/(pgAt h i).kind=3))(h4:zeI h i=none):zbx h i=19/\zaQ h i=[]:=by
 obtain ⟨e1,e2⟩:=zh3 h1 h2 h3;rw [e1,e2,h4];exact ⟨rfl,rfl⟩
def zkS(h:Hp)(i o:Int):Int:=zap h.words (zbm h.pw h.np i o)
theorem zuD(h:Hp)(i:Int)(u:Nat):∀ (f o:Nat) (l:List Int),u-o<=f->zcL h i false u o=some l->l.length<=u-o
 | 0,o,l,hf,hl=>by
  rw [zcd (by omega)]at hl;cases hl;simp
 | f+1,o,l,hf,hl=>by
  by_cases hlt:o<u
  . by_cases e:atE h (zbm h.pw h.np i o)=0
    . rw [zey hlt e]at hl;cases hr:zcL h i false u (o+((atH h (zbm h.pw h.np i o)).n.toNat+1)) with
      | none=>rw [hr]at hl;cases hl
      | some r=>
       rw [hr]at hl;cases hl
       have:=zuD h i u f _ r (by omega) hr
       rw [qaJ];omega
    . rw [zd4 hlt e]at hl;cases hl
  . rw [zcd hlt]at hl;cases hl;simp
theorem zf4{h:Hp}{i:Int}(h1:okH h=true):(zaQ h i).length<=64:=by
 by_cases h2:i<0\/h.pages.length<=i
 . rw [(zpp h1 h2).2];simp
 . by_cases h3:(pgAt h i).kind=0\/(pgAt h i).kind=3
   . rw [(zf3 h1 h2 h3).2];simp
   . rw [(zh3 h1 h2 h3).2];cases hw:zeI h i with
     | none=>simp
     | some l=>
      rw [qb7];unfold zeI at hw;by_cases h4:(pgAt h i).kind=2
      . rw [qad h4]at hw;by_cases hlt:0<(pgAt h i).used.toNat
        . by_cases e:atE h (zbm h.pw h.np i ((0:Nat):Int))=0
          . rw [zgF hlt e]at hw;cases hw;simp
          . rw [zd4 hlt e]at hw;cases hw
        . rw [zcd hlt]at hw;cases hw;simp
      . rw [qai h4]at hw;have hlen:=zuD h i _ _ _ _ (qao _) hw;obtain ⟨g1,-,-,-,-,-,hL⟩:=zan h1;have hpw:=(zaj g1).2.1;have hil:i.toNat<h.pages.length:=by omega
        have hmem:pgAt h i∈h.pages:=by
         unfold pgAt;rw [zam (qaq hil)];exact qcp hil
        obtain ⟨-,-,-,-,-,k1,-,-,hk⟩:=zbT _ _ _ _ hL _ hmem;have:=k1 (by omega)
        omega
theorem zxl{h:Hp}{i:Int}(h1:okH h=true)(h2:¬(i<0\/h.pages.length<=i))(h3:¬zbx h i=0):zbx h i=19:=by
 unfold zbx at h3 ⊢
 rw [if_pos h1,if_neg h2]at h3 ⊢
 split at h3
 . exact absurd rfl h3
 . rename_i h4;rw [if_neg h4];split at h3
   . exact absurd rfl h3
   . rename_i h5;rw [if_neg h5]
def zbC(h:Hp)(k:Nat):List Int:=(List.range k).flatMap (fun (j:Nat)=>zaQ h j)
def zjk(h:Hp):Bool:=(List.range h.pages.length).all (fun (j:Nat)=>decide (zbx h j=0))
def zck(h:Hp):Int:=if okH h then (if zjk h then 0 else 19) else 1
def zbf(h:Hp):List Int:=if okH h then (if zjk h then zbC h h.pages.length else []) else []
theorem zof{h:Hp}(h1:okH h=false):zck h=1/\zbf h=[]:=by
 unfold zck zbf;rw [if_neg (by simp [h1]),if_neg (by simp [h1])];exact ⟨rfl,rfl⟩
theorem zqS{h:Hp}{k:Nat}(h1:okH h=true)(hk:k<h.pages.length)(h2:¬zbx h k=0):zck h=19/\zbf h=[]:=by
 have hB:zjk h=false:=by
  rw [<-qbs];intro c
  unfold zjk at c;exact h2 (qat (qaN.1 c k (qbN.2 hk)))
 unfold zck zbf;rw [if_pos h1,if_pos h1,if_neg (by simp [hB]),if_neg (by simp [hB])];exact ⟨rfl,rfl⟩
theorem zlQ{h:Hp}(h1:okH h=true)(h2:∀ k:Nat,k<h.pages.length->zbx h k=0):zck h=0/\zbf h=zbC h h.pages.length:=by
 have hB:zjk h=true:=by
  unfold zjk;exact qaN.2 fun j hj=>qad (h2 j (qbN.1 hj))
 unfold zck zbf;rw [if_pos h1,if_pos h1,if_pos hB,if_pos hB];exact ⟨rfl,rfl⟩
theorem zfa(h:Hp)(k:Nat):zbC h (k+1)=zbC h k++zaQ h k:=by
 unfold zbC;rw [List.range_succ,List.flatMap_append];simp
theorem zfW{h:Hp}(h1:okH h=true):∀ k,(zbC h k).length<=64*k
 | 0=>by simp [zbC]
 | k+1=>by
  rw [zfa,qaD];have:=zfW h1 k
  have:=zf4 (i:=k) h1
  omega
theorem zwQ(h:Hp)(i:Int)(big:Bool)(u:Nat):∀ (f o:Nat) (l:List Int),u-o<=f->zcL h i big u o=some l->WB l
 | 0,o,l,hf,hl=>by
  rw [zcd (by omega)]at hl;cases hl;exact WB.nil
 | f+1,o,l,hf,hl=>by
  by_cases hlt:o<u
  . by_cases e:atE h (zbm h.pw h.np i o)=0
    . cases big
      . rw [zey hlt e]at hl;cases hr:zcL h i false u (o+((atH h (zbm h.pw h.np i o)).n.toNat+1)) with
        | none=>rw [hr]at hl;cases hl
        | some r=>
         rw [hr]at hl;cases hl
         intro x hx;rcases qas.1 hx with rfl | hx
         . exact zmU _ _ _ _
         . exact zwQ h i false u f _ r (by omega) hr x hx
      . rw [zgF hlt e]at hl;cases hl
        intro x hx;rw [qaE.1 hx];exact zmU _ _ _ _
    . rw [zd4 hlt e]at hl;cases hl
  . rw [zcd hlt]at hl;cases hl;exact WB.nil
theorem zuN(h:Hp)(i:Int):WB (zaQ h i):=by
 unfold zaQ;split
 . split
   . exact WB.nil
   . split
     . exact WB.nil
     . cases hw:zeI h i with
       | none=>exact WB.nil
       | some l=>exact zwQ h i _ _ _ _ l (qao _) hw
 . exact WB.nil
theorem zog(h:Hp):WB (zbf h):=by
 unfold zbf;split
 . split
   . intro x hx;obtain ⟨j,-,hj⟩:=List.mem_flatMap.1 hx;exact zuN h j x hj
   . exact WB.nil
 . exact WB.nil
theorem zcj(h:Hp):(zbf h).length<=4096:=by
 unfold zbf;split
 . rename_i h1;split
   . have:=zfW h1 h.pages.length
     obtain ⟨g1,_,g3,_⟩:=zan h1;have:=(zaj g1).2.2.2.2
     omega
   . simp
 . simp
def zca(h:Hp)(l:List Int):List Int:=l.filter (fun a=>decide (¬(atH h a).k=0))
def zaf(h:Hp):List Int:=zca h (zbf h)
theorem objs_in{h:Hp}{l:List Int}{k:Nat}{x:Int}(hx:l[k]?=some x)(hk:¬(atH h x).k=0):zca h (l.take (k+1))=zca h (l.take k)++[x]:=by
 unfold zca;rw [zbd hx,List.filter_append];simp [hk]
theorem zyZ{h:Hp}{l:List Int}{k:Nat}{x:Int}(hx:l[k]?=some x)(hk:(atH h x).k=0):zca h (l.take (k+1))=zca h (l.take k):=by
 unfold zca;rw [zbd hx,List.filter_append];simp [hk]
theorem zy0(h:Hp)(l:List Int)(k:Nat):(zca h (l.take k)).length<=l.length:=by
 unfold zca;exact qaA (qbH _ _) (by rw [qau];omega)
def zmE(P:Int->Bool):List Int->Int
 | []=>0
 | x::r=>if P x then x else zmE P r
theorem zvf{P:Int->Bool}{l:List Int}{k:Nat}{x:Int}(h:l[k]?=some x):zmE P (l.drop k)=if P x then x else zmE P (l.drop (k+1)):=by
 obtain ⟨hk,rfl⟩:=qap.1 h;rw [qaU hk,zmE]
theorem zr0{P:Int->Bool}{l:List Int}{k:Nat}(h:l.length<=k):zmE P (l.drop k)=0:=by
 rw [qbx h];rfl
theorem atH_m(h:Hp)(a:Int):0<=(atH h a).m/\(atH h a).m<4294967296:=by
 by_cases e:atE h a=0
 . have:=zjT e;exact ⟨this.2.2.1,this.2.2.2.1⟩
 . rw [zzP e];decide
def clsB(h:Hp)(i:Nat)(x:Int):Bool :=
 (decide ((pgAt h i).kind=1) && !decide (zaP (atH h x).k (atH h x).n (atH h x).m<=zeA h.pw h.np)) || (decide ((pgAt h i).kind=2)&&decide ((atH h x).k=0))
def clsV(h:Hp)(i:Nat)(l:List Int):Int:=zmE (clsB h i) l
def za5(ps:List Pg):Nat->Nat
 | 0=>0
 | j+1=>if (ps.getD (j+1) Pg.zero).kind=3 then za5 ps j else j+1
theorem zmA(ps:List Pg):∀ i,za5 ps i<=i
 | 0=>qao _
 | j+1=>by unfold za5;split;exact Nat.le_succ_of_le (zmA ps j);exact qao _
theorem zxV{h:Hp}(h1:okH h=true):¬(h.pages.getD 0 Pg.zero).kind=3:=by
 obtain ⟨-,-,-,-,-,-,hL⟩:=zan h1;cases hp:h.pages with
 | nil=>simp [Pg.zero]
 | cons x r=>
  rw [hp,zaG]at hL;intro hk;have hk':x.kind=3:=hk
  unfold zcr at hL;rw [if_pos (Or.inl (by rw [hk'];simp))]at hL
  cases hL
def zeg(h:Hp)(x:Int):Int:=if (atH h x).k=0 then 1 else zaP (atH h x).k (atH h x).n (atH h x).m
def zo8(h:Hp)(i:Nat)(l:List Int)(t:Nat):Bool:=l.any fun x=>decide (x-4096-(i:Int)*h.pw<=t/\(t:Int)<x-4096-(i:Int)*h.pw+zeg h x)
def zhi(h:Hp)(i:Nat)(l:List Int):List Bool:=(List.range h.pw.toNat).map (zo8 h i l)
def zjh(h:Hp)(i:Nat)(l:List Int)(x:Int)(z:Nat):List Bool:=(List.range h.pw.toNat).map fun t=>zo8 h i l t || decide (x-4096-(i:Int)*h.pw<=t/\(t:Int)<x-4096-(i:Int)*h.pw+z)
theorem zqO(h:Hp)(i:Nat)(l:List Int)(x:Int)(z:Nat):(zjh h i l x z).length=h.pw.toNat:=by unfold zjh;rw [qaj,qcu]
theorem zvw(h:Hp)(i:Nat)(l:List Int)(x:Int):zjh h i l x 0=zhi h i l:=by
 unfold zjh zhi;congr 1;funext t
 rw [show decide (x-4096-(i:Int)*h.pw<=t/\(t:Int)<x-4096-(i:Int)*h.pw+((0:Nat):Int))=false from qai (by omega),Bool.or_false]
theorem zyu{h:Hp}{i:Nat}{l:List Int}{x:Int}{z T:Nat}(hT:x-4096-(i:Int)*h.pw+z=T)(hp:T<h.pw.toNat):(zjh h i l x z).set T true=zjh h i l x (z+1):=by
 apply qbw
 intro j;rw [qa1,zqO];unfold zjh;rw [qbc,qbc];by_cases hj:j<h.pw.toNat
 . rw [List.getElem?_range hj];by_cases hjT:T=j
   . subst hjT;rw [if_pos rfl,if_pos hp];simp only [qbI];rw [qad (by omega),Bool.or_true]
   . rw [if_neg hjT];simp only [qbI];congr 2
     exact decide_eq_decide.2 (by omega)
 . rw [qbV (by rw [qcu];omega),if_neg (by omega)]
   rfl
theorem zwU{h:Hp}{i:Nat}{l:List Int}{x:Int}{z:Nat}(hT:x-4096-(i:Int)*h.pw+z<0\/h.pw<=x-4096-(i:Int)*h.pw+z):zjh h i l x (z+1)=zjh h i l x z:=by
 unfold zjh;apply List.map_congr_left
 intro t ht;have:=qbN.1 ht
 congr 1
 exact decide_eq_decide.2 (by omega)
theorem zwV{h:Hp}{i:Nat}{l:List Int}{x:Int}{z:Nat}(hz:zeg h x=z):zjh h i l x z=zhi h i (l++[x]):=by
 unfold zjh zhi;congr 1;funext t
 unfold zo8;rw [List.any_append,List.any_cons,List.any_nil,Bool.or_false,hz]
theorem zyt(h:Hp)(x:Int):1<=zeg h x/\zeg h x<=256:=by
 unfold zeg;split
 . omega
 . by_cases e:atE h x=0
   . have:=zjT e
     rw [zcv this.2.1];omega
   . rw [zzP e];decide
theorem zwT(h:Hp)(i:Nat):zhi h i []=List.replicate h.pw.toNat false:=by
 unfold zhi zo8;rw [List.eq_replicate_iff];refine ⟨by rw [qaj,qcu],fun b hb=>?_⟩
 obtain ⟨t,-,rfl⟩:=qav.1 hb
 rfl
theorem zsO(h:Hp)(i:Int)(big:Bool)(u:Nat):∀ (f o:Nat) (l:List Int),u-o<=f->zcL h i big u o=some l->∀ x∈l,atE h x=0/\∃ o':Nat,o<=o'/\o'<u/\x=zbm h.pw h.np i o'
 | 0,o,l,hf,hl,x,hx=>by
  rw [zcd (by omega)]at hl;cases hl;cases hx
 | f+1,o,l,hf,hl,x,hx=>by
  by_cases hlt:o<u
  . by_cases e:atE h (zbm h.pw h.np i o)=0
    . cases big
      . rw [zey hlt e]at hl;cases hr:zcL h i false u (o+((atH h (zbm h.pw h.np i o)).n.toNat+1)) with
        | none=>rw [hr]at hl;cases hl
        | some r=>
         rw [hr]at hl;cases hl
         rcases qas.1 hx with rfl | hx
         . exact ⟨e,o,qao _,hlt,rfl⟩
         . obtain ⟨a,o',b1,b2,b3⟩:=zsO h i false u f _ r (by omega) hr x hx
           exact ⟨a,o',by omega,b2,b3⟩
      . rw [zgF hlt e]at hl;cases hl
        rw [qaE.1 hx];exact ⟨e,o,qao _,hlt,rfl⟩
    . rw [zd4 hlt e]at hl;cases hl
  . rw [zcd hlt]at hl;cases hl;cases hx
theorem zfe{h:Hp}{i:Int}{x:Int}(hx:x∈zaQ h i):atE h x=0:=by
 unfold zaQ at hx;split at hx
 . split at hx
   . cases hx
   . split at hx
     . cases hx
     . cases hw:zeI h i with
       | none=>rw [hw]at hx;cases hx
       | some l=>
        rw [hw]at hx;exact (zsO h i _ _ _ _ l (qao _) hw x hx).1
 . cases hx
theorem zsg{h:Hp}{x:Int}(e:atE h x=0):4096<=x/\x<8192:=by
 have h1:=(zjT e).1;have h5:ofE h.pw h.np x=0:=by
  by_cases h5:ofE h.pw h.np x=0
  . exact h5
  . rw [(zjU h1 h5).1]at e;cases e
 obtain ⟨-,-,t,ht,htl⟩:=zxv h1 h5;obtain ⟨k1,k2,-⟩:=zan h1;have:=(conf_prod k1).2
 omega
theorem zgH{h:Hp}{x:Int}(hx:x∈zbf h):atE h x=0:=by
 unfold zbf at hx;split at hx
 . split at hx
   . unfold zbC at hx;obtain ⟨j,-,hj⟩:=List.mem_flatMap.1 hx;exact zfe hj
   . cases hx
 . cases hx
theorem zbU{h:Hp}{x:Int}(hx:x∈zaf h):atE h x=0/\¬(atH h x).k=0:=by
 unfold zaf zca at hx;obtain ⟨h1,h2⟩:=qbR.1 hx;exact ⟨zgH h1,qat h2⟩
def zdi(h:Hp)(i:Nat):Nat->List Bool->Int
 | _,[]=>0
 | k,b::r=>if b=false/\¬zkS h i k=0 then 4096+(i:Int)*h.pw+k else zdi h i (k+1) r
def zhB(h:Hp)(i:Nat):Int:=zdi h i 0 (zhi h i (zaQ h (za5 h.pages i)))
theorem dirt_at{h:Hp}{i:Nat}{l:List Bool}{k:Nat}{b:Bool}(hb:l[k]?=some b):zdi h i k (l.drop k)=if b=false/\¬zkS h i k=0 then 4096+(i:Int)*h.pw+k else zdi h i (k+1) (l.drop (k+1)):=by
 obtain ⟨hk,rfl⟩:=qap.1 hb;rw [qaU hk,zdi]
theorem zzi{h:Hp}{i:Nat}{l:List Bool}{k:Nat}(hk:l.length<=k):zdi h i k (l.drop k)=0:=by
 rw [qbx hk];rfl
theorem zlK(h:Hp)(i:Nat)(l:List Int):(zhi h i l).length=h.pw.toNat:=by unfold zhi;rw [qaj,qcu]
structure Fd where
 fault:Int
 page:Int
 addr:Int
 deriving DecidableEq
def Fd.none:Fd:=⟨0,0,0⟩
def zej(h:Hp)(i:Nat):Fd :=
 if ¬(pgAt h i).kind=0/\¬(pgAt h i).space=h.space then ⟨2,i,0⟩
 else if ¬zbx h i=0 then ⟨3,i,0⟩
 else if ¬clsV h i (zaQ h i)=0 then ⟨5,i,clsV h i (zaQ h i)⟩
 else if ¬zhB h i=0 then ⟨4,i,zhB h i⟩ else Fd.none
theorem getH_m(h:Hp)(a:Int):0<=(getH h a).m/\(getH h a).m<4294967296:=by
 by_cases e:getE h a=0
 . rw [(ztJ e).2.2.1];exact atH_m h a
 . rw [ziA e];decide
theorem ztP(h:Hp)(a:Int):(zbG h a).length<=h.words.length:=by
 unfold zbG;split
 . exact zxa _ _ _
 . simp
def za1(all:List Int)(x:Hd):Nat->List Int->Option Nat
 | _,[]=>none
 | k,f::r=>if ptrB x.k x.n x.m k=true/\¬f=0/\¬f∈all then some k else za1 all x (k+1) r
theorem bad_at{all:List Int}{x:Hd}{l:List Int}{k:Nat}{f:Int}(hf:l[k]?=some f):za1 all x k (l.drop k)=if ptrB x.k x.n x.m k=true/\¬f=0/\¬f∈all then some k else za1 all x (k+1) (l.drop (k+1)):=by
 obtain ⟨hk,rfl⟩:=qap.1 hf;rw [qaU hk,za1]
theorem bad_end{all:List Int}{x:Hd}{l:List Int}{k:Nat}(hk:l.length<=k):za1 all x k (l.drop k)=none:=by
 rw [qbx hk];rfl
def zs1(h:Hp)(a:Int):Fd:=⟨6,ofI h.pw h.np a,a⟩
def zb4(h:Hp)(all:List Int):List Int->Fd
 | []=>Fd.none
 | x::r=>match za1 all (getH h x) 0 (zbG h x) with | some k=>zs1 h (x+1+k) | none=>zb4 h all r
def zbw(h:Hp):Fd:=zb4 h (zaf h) (zaf h)
theorem zxd{h:Hp}{all l:List Int}{k:Nat}{x:Int}(hx:l[k]?=some x):zb4 h all (l.drop k)=match za1 all (getH h x) 0 (zbG h x) with | some k=>zs1 h (x+1+k) | none=>zb4 h all (l.drop (k+1)):=by
 obtain ⟨hk,rfl⟩:=qap.1 hx;rw [qaU hk,zb4]
theorem zuK{h:Hp}{all l:List Int}{k:Nat}(hk:l.length<=k):zb4 h all (l.drop k)=Fd.none:=by
 rw [qbx hk];rfl
def zaC(h:Hp):Nat->Nat->Fd
 | _,0=>Fd.none
 | i,n+1=>if ¬(zej h i).fault=0 then zej h i else zaC h (i+1) n
def zaZ:List Pg->Nat
 | []=>0
 | x::r=>(if x.kind=1/\0<x.pins then 1 else 0)+zaZ r
theorem ziG:∀ a b:List Pg,zaZ (a++b)=zaZ a+zaZ b
 | [],b=>by simp [zaZ]
 | x::r,b=>by rw [qaM,zaZ,zaZ,ziG r b];omega
theorem zhD{ps:List Pg}{k:Nat}{x:Pg}(h:ps[k]?=some x):zaZ (ps.take (k+1))=zaZ (ps.take k)+if x.kind=1/\0<x.pins then 1 else 0:=by
 rw [zbd h,ziG];simp [zaZ]
theorem zr7:∀ ps:List Pg,zaZ ps<=ps.length
 | []=>qao _
 | x::r=>by have:=zr7 r;unfold zaZ;rw [qaJ];split <;> omega
def zeY(h:Hp):Fd :=
 if okH h then
  (if ¬(zaC h 0 h.pages.length).fault=0 then zaC h 0 h.pages.length
   else if ¬(zbw h).fault=0 then zbw h
   else if h.np / 4<zaZ h.pages then ⟨7,0,0⟩ else Fd.none)
 else ⟨1,0,0⟩
def zg1(h:Hp):Bool:=decide ((zeY h).fault=0)
theorem zoT{h:Hp}(e:(zeY h).fault=0):zeY h=Fd.none:=by
 unfold zeY at e ⊢
 split at e
 . rename_i h1;rw [if_pos h1];split at e
   . contradiction
   . rename_i h2;rw [if_neg h2];split at e
     . contradiction
     . rename_i h3;rw [if_neg h3];split at e
       . cases e
       . rename_i h4;rw [if_neg h4]
 . cases e
def zjn(h:Hp)(l:List Int):Bool:=zg1 h&&l.all fun x=>decide (x=0\/x∈zaf h)
theorem all_at{P:Int->Bool}{l:List Int}{k:Nat}{x:Int}(hx:l[k]?=some x):(l.drop k).all P=(P x&&(l.drop (k+1)).all P):=by
 obtain ⟨hk,rfl⟩:=qap.1 hx;rw [qaU hk,qb0]
def zk7(pw np k n m:Int):Bool:=zay k n m&&decide (¬k=0)&&decide (¬zat pw np (zaP k n m) = -1)
theorem zqV(ps:List Pg):∀ (k:Nat) (r:Int×Int),r∈zbg ps k->∀ t:Nat,r.1<=t->(t:Int)<r.1+r.2->∃ x,ps[t]?=some x/\x.kind=0
 | 0,r,h=>by simp [zbg]at h
 | k+1,r,h=>by
  have ih:=zqV ps k;cases hx:ps[k]? with
  | none=>rw [zbg,hx]at h;exact ih r h
  | some x=>
   rw [zcV hx]at h;by_cases h0:x.kind=0
   . rcases zgK (zbg ps k) with e | ⟨pre,q,e⟩
     . rw [e,zdL h0]at h;simp at h;subst h
       intro t h1 h2;obtain rfl:t=k:=by simp only at h1 h2;omega
       exact ⟨x,hx,h0⟩
     . by_cases he:q.1+q.2=k
       . rw [e,zde h0 he]at h;rcases qak.1 h with h | h
         . exact ih r (by rw [e];exact qaG _ h)
         . simp at h;subst h
           intro t h1 h2;by_cases ht:t=k
           . subst ht;exact ⟨x,hx,h0⟩
           . exact ih q (by rw [e];simp) t h1 (by simp only at h2;omega)
       . rw [e,zdM h0 he]at h;rcases qak.1 h with h | h
         . exact ih r (by rw [e];exact h)
         . simp at h;subst h
           intro t h1 h2;obtain rfl:t=k:=by simp only at h1 h2;omega
           exact ⟨x,hx,h0⟩
   . rw [zeD h0]at h;exact ih r h
theorem zfj{k:Int}:∀ l:List (Int×Int),zaY k l = -1\/∃ r∈l,zaY k l=r.1/\1<=k/\k<=r.2
 | []=>Or.inl rfl
 | r::t=>by
  unfold zaY;split
  . rename_i h;exact Or.inr ⟨r,by simp,rfl,h⟩
  . rcases zfj t with h | ⟨q,hq,h⟩
    . exact Or.inl h
    . exact Or.inr ⟨q,by simp [hq],h⟩
theorem zdF{ps:List Pg}{k:Int}(h:0<=zau ps k):1<=k/\zau ps k+k<=ps.length/\∀ t:Nat,zau ps k<=t->(t:Int)<zau ps k+k->∃ x,ps[t]?=some x/\x.kind=0:=by
 rw [zhy]at h ⊢
 rcases zfj (k:=k) (zlW ps) with e | ⟨r,hr,e,h1,h2⟩
 . omega
 . rw [e];have hb:=zpf ps ps.length r hr;exact ⟨h1,by omega,fun t a b=>zqV ps ps.length r hr t a (by omega)⟩
def zkC(h:Hp):Pg:=h.pages.getD h.bump.toNat Pg.zero
def newB(h:Hp)(n:Int):Bool:=decide (h.bump<0\/¬(zkC h).space=h.space\/h.pw<(zkC h).used+n\/zhb h.pw h.np<zbe h.pages)
def zdJ(h:Hp):Bool:=decide (zau h.pages 1<0\/zhb h.pw h.np<=zbe h.pages)
def zce(h:Hp)(n:Int):Bool:=!(newB h n&&zdJ h)
def zfY(h:Hp)(n:Int):Int:=if newB h n then zau h.pages 1 else h.bump
def zbS(h:Hp)(n:Int):List Pg:=if newB h n then zb6 h.pages (zau h.pages 1) h.space else h.pages
def zgS(ps:List Pg)(j:Nat)(n:Int):List Pg:=ps.set j ⟨(ps.getD j Pg.zero).kind,(ps.getD j Pg.zero).space,(ps.getD j Pg.zero).used+n,(ps.getD j Pg.zero).pins⟩
def zlT(h:Hp)(n:Int):Hp:={ h with pages:=zgS (zbS h n) (zfY h n).toNat n,bump:=zfY h n }
def zlU(h:Hp)(n:Int):Int:=4096+zfY h n*h.pw+((zbS h n).getD (zfY h n).toNat Pg.zero).used
def ziy(h:Hp)(k:Int):Bool:=decide (¬(zau h.pages k<0\/zhb h.pw h.np<zbe h.pages+k))
def zoE(h:Hp)(n k:Int):Hp:={ h with pages:=zgj h.pw h.np h.pages (zau h.pages k) h.space n }
def zoF(h:Hp)(k:Int):Int:=4096+zau h.pages k*h.pw
theorem zxP{pw np:Int}{ps:List Pg}{i sp n:Int}(h:1<=zat pw np n/\0<=sp/\sp<=1):zgj pw np ps i sp n=zhj ps i (zat pw np n) ⟨2,sp,n,0⟩ ⟨3,sp,0,0⟩/\zmv pw np ps i sp n=zkR ps i (zat pw np n):=by
 unfold zgj zmv;rw [if_pos h,if_pos h];exact ⟨rfl,rfl⟩
theorem small_spec{h:Hp}{n:Int}(h1:okH h=true)(hok:zce h n=true):
 ∃ j:Nat,∃ x:Pg,zfY h n=j/\j<h.pages.length/\(zbS h n).length=h.pages.length/\(zbS h n)[j]?=some x/\x.kind=1/\0<=x.used/\x.used<=h.pw/\x.space=h.space /\
  ((newB h n=true/\zbS h n=h.pages.set j ⟨1,h.space,0,0⟩/\x=⟨1,h.space,0,0⟩/\zjl h.pages (zau h.pages 1) h.space=0/\∃ y,h.pages[j]?=some y/\y.kind=0)\/(newB h n=false/\zbS h n=h.pages/\x.used+n<=h.pw)):=by
 obtain ⟨g1,g2,g3,g4,g5,g6,g7⟩:=zan h1;obtain ⟨k1,k2,-,k4,k5⟩:=zaj g1;unfold zce at hok;cases hn:newB h n
 . have hd:=qa4 hn;have hb0:0<=h.bump:=by omega
   have hbb:=qat g6;have hbs:h.bump<h.pages.length/\(h.pages.getD h.bump.toNat Pg.zero).kind=1:=by
    rcases hbb with h | h
    . omega
    . exact ⟨h.2.1,h.2.2⟩
   have hx:h.pages[h.bump.toNat]?=some (h.pages[h.bump.toNat]'(by omega)):=qaq _
   have hgd:=zam hx;have hmem:=zbT _ _ _ _ g7 _ (qa0 hx);rw [hgd]at hbs;have hbp:zkC h=h.pages[h.bump.toNat]'(by omega):=hgd
   rw [hbp]at hd;refine ⟨h.bump.toNat,h.pages[h.bump.toNat]'(by omega),by unfold zfY;rw [hn];simp;omega,by omega,by unfold zbS;rw [hn];rfl,by unfold zbS;rw [hn];exact hx,hbs.2,(hmem.2.2.2.2.2.1 hbs.2).1,(hmem.2.2.2.2.2.1 hbs.2).2,?_,Or.inr ⟨rfl,by unfold zbS;rw [hn];rfl,by omega⟩⟩
   have:¬¬(h.pages[h.bump.toNat]'(by omega)).space=h.space:=fun c=>hd (Or.inr (Or.inl c))
   exact Classical.not_not.1 this
 . rw [hn,qaY]at hok;have hf:zdJ h=false:=by simpa using hok
   have hd:=qa4 hf;have hF:0<=zau h.pages 1:=by omega
   obtain ⟨-,f1,f2⟩:=zdF hF;obtain ⟨y,hy,hy0⟩:=f2 (zau h.pages 1).toNat (by omega) (by omega)
   have hlt:(zau h.pages 1).toNat<h.pages.length:=(qap.1 hy).1;have hfree:zcB h.pages (zau h.pages 1).toNat 1=true:=by
    have:=zcp (ps:=h.pages) (i:=(zau h.pages 1).toNat) (k:=0) (x:=y) (by rw [qa9];exact hy)
    rw [zcY,hy0]at this;simpa using this
   obtain ⟨t1,t2⟩:=zlN (x:=⟨1,h.space,0,0⟩) (y:=Pg.zero) hlt (show (zau h.pages 1).toNat+1<=h.pages.length by omega) hfree
   have eF:(((zau h.pages 1).toNat:Nat):Int)=zau h.pages 1:=by omega
   rw [eF]at t1 t2;have hps:zbS h n=h.pages.set (zau h.pages 1).toNat ⟨1,h.space,0,0⟩:=by
    unfold zbS zb6;rw [hn,if_pos rfl,if_pos ⟨g4,g5⟩];rw [show ((1:Nat):Int)=1 from rfl]at t1
    rw [t1];apply qbw
    intro i;have hl:(put h.pages (zau h.pages 1).toNat 1 Pg.zero).length=h.pages.length:=zfb (by omega)
    rw [qa1,qa1,hl];split
    . rfl
    . rw [zdO (by omega) (by omega)]
   have hpe:zjl h.pages (zau h.pages 1) h.space=0:=by
    unfold zjl;rw [if_pos ⟨g4,g5⟩];exact t2
   refine ⟨(zau h.pages 1).toNat,⟨1,h.space,0,0⟩,by unfold zfY;rw [hn];exact eF.symm,hlt,by rw [hps,List.length_set],by rw [hps,qa1];simp [hlt],rfl,by simp,by simp only;omega,rfl,Or.inl ⟨rfl,hps,rfl,hpe,y,hy,hy0⟩⟩
theorem zgf(pw np n:Int):zat pw np n<=4:=by
 unfold zat zeS;repeat' split
 all_goals omega
theorem zpQ(pw np n:Int): -1<=zat pw np n:=by
 unfold zat zeS;repeat' split
 all_goals omega
def zks(h:Hp)(k n m:Int):Bool:=okH h&&zk7 h.pw h.np k n m
def zuW(h:Hp)(k n m:Int):Bool:=decide (0<zat h.pw h.np (zaP k n m))
def zpN(h:Hp)(k n m:Int):Bool:=if zuW h k n m then ziy h (zat h.pw h.np (zaP k n m)) else zce h (zaP k n m)
def zms(h:Hp)(k n m:Int):Hp:=if zuW h k n m then zoE h (zaP k n m) (zat h.pw h.np (zaP k n m)) else zlT h (zaP k n m)
def zpO(h:Hp)(k n m:Int):Int:=if zuW h k n m then zoF h (zat h.pw h.np (zaP k n m)) else zlU h (zaP k n m)
def zcQ(h:Hp)(k n m:Int):Int:=if zks h k n m then (if zpN h k n m then 0 else 3) else 1
def zdr(h:Hp)(k n m:Int):Hp:=if zcQ h k n m=0 then ztE (zms h k n m) (zpO h k n m) k n m else Hp.zero
def ziL(h:Hp)(k n m:Int):Int:=if zcQ h k n m=0 then zpO h k n m else 0
structure Wk where
 h:Hp
 old:List Int
 taken:List Int
 queue:List Int
 sc:Int
 r0:Int
 r1:Int
 r2:Int
 r3:Int
 r4:Int
 r5:Int
def Wk.zero:Wk:=⟨Hp.zero,[],[],[],0,0,0,0,0,0,0⟩
def zdv(x:Wk)(i:Int):Bool:=match x.h.pages[i.toNat]? with
 | some g=>decide (0<=i)&&(decide (g.kind=1) && !decide (g.space=x.h.space) && !decide (i∈x.taken))
 | none=>false
def zcA(x:Wk)(a:Int):Wk:={ x with queue:=x.queue++[a],r1:=wrap64 (x.r1+1) }
theorem zhZ{ps:List Pg}{sp:Int}(h0:0<=sp)(h1:sp<=1)(hF:0<=zau ps 1):
 (zau ps 1).toNat<ps.length/\zb6 ps (zau ps 1) sp=ps.set (zau ps 1).toNat ⟨1,sp,0,0⟩/\∃ y,ps[(zau ps 1).toNat]?=some y/\y.kind=0:=by
 obtain ⟨-,f1,f2⟩:=zdF hF;obtain ⟨y,hy,hy0⟩:=f2 (zau ps 1).toNat (by omega) (by omega)
 have hlt:(zau ps 1).toNat<ps.length:=(qap.1 hy).1;have hfree:zcB ps (zau ps 1).toNat 1=true:=by
  have:=zcp (ps:=ps) (i:=(zau ps 1).toNat) (k:=0) (x:=y) (by rw [qa9];exact hy)
  rw [zcY,hy0]at this;simpa using this
 obtain ⟨t1,t2⟩:=zlN (x:=⟨1,sp,0,0⟩) (y:=Pg.zero) hlt (show (zau ps 1).toNat+1<=ps.length by omega) hfree
 have eF:(((zau ps 1).toNat:Nat):Int)=zau ps 1:=by omega
 rw [eF]at t1 t2;refine ⟨hlt,?_,y,hy,hy0⟩;unfold zb6;rw [if_pos ⟨h0,h1⟩];rw [show ((1:Nat):Int)=1 from rfl]at t1
 rw [t1];apply qbw
 intro i;have hl:(put ps (zau ps 1).toNat 1 Pg.zero).length=ps.length:=zfb (by omega)
 rw [qa1,qa1,hl];split
 . rfl
 . rw [zdO (by omega) (by omega)]
def zcO(x:Wk)(n:Int):Bool:=match x.taken.getLast? with | some l=>decide ((x.h.pages.getD l.toNat Pg.zero).used+n<=x.h.pw) | none=>false
def plJ(x:Wk)(n:Int):Int:=if zcO x n then x.taken.getLast?.getD (-1) else zau x.h.pages 1
def plB(x:Wk)(n:Int):Bool:=zcO x n || decide (0<=zau x.h.pages 1)
def plPs(x:Wk)(n:Int):List Pg:=if zcO x n then x.h.pages else zb6 x.h.pages (zau x.h.pages 1) (1-x.h.space)
def plT(x:Wk)(n:Int):List Int:=if zcO x n then x.taken else x.taken++[zau x.h.pages 1]
def plW(x:Wk)(n:Int):Wk:={ x with h:={ x.h with pages:=zgS (plPs x n) (plJ x n).toNat n },taken:=plT x n }
def plA(x:Wk)(n:Int):Int:=4096+plJ x n*x.h.pw+((plPs x n).getD (plJ x n).toNat Pg.zero).used
structure PlOK (x:Wk):Prop where
 pw0:16<=x.h.pw
 pw1:x.h.pw<=64
 np0:1<=x.h.pages.length
 np1:x.h.pages.length<=64
 sp0:0<=x.h.space
 sp1:x.h.space<=1
 tk:x.taken.length<=1000
 last:∀ l,x.taken.getLast?=some l->∃ k:Nat,l=k/\∃ g,x.h.pages[k]?=some g/\0<=g.used/\g.used<=x.h.pw
theorem zeH{x:Wk}{n:Int}(hx:PlOK x)(hb:plB x n=true):
 ∃ j:Nat,∃ y:Pg,plJ x n=j/\j<x.h.pages.length/\(plPs x n).length=x.h.pages.length/\(plPs x n)[j]?=some y/\0<=y.used/\y.used<=x.h.pw /\
  ((zcO x n=true/\plPs x n=x.h.pages/\x.taken.getLast?=some (j:Int)/\y.used+n<=x.h.pw)\/(zcO x n=false/\zau x.h.pages 1=j/\plPs x n=x.h.pages.set j ⟨1,1-x.h.space,0,0⟩/\y=⟨1,1-x.h.space,0,0⟩/\∃ z,x.h.pages[j]?=some z/\z.kind=0)):=by
 cases hr:zcO x n
 . unfold plB at hb;rw [hr,Bool.false_or]at hb;have hF:=qat hb;have s0:=hx.sp0;have s1:=hx.sp1;have p0:=hx.pw0;obtain ⟨f1,f2,z,f3,f4⟩:=zhZ (ps:=x.h.pages) (sp:=1-x.h.space) (by omega) (by omega) hF
   have e1:plPs x n=x.h.pages.set (zau x.h.pages 1).toNat ⟨1,1-x.h.space,0,0⟩:=by unfold plPs;rw [hr];exact f2
   refine ⟨(zau x.h.pages 1).toNat,⟨1,1-x.h.space,0,0⟩,by unfold plJ;rw [hr];simp;omega,f1,by rw [e1,List.length_set],by rw [e1,qa1,if_pos rfl,if_pos f1],by simp,by simp only;omega,Or.inr ⟨rfl,by omega,e1,rfl,z,f3,f4⟩⟩
 . have h1:=hr;unfold zcO at h1;cases hl:x.taken.getLast? with
   | none=>rw [hl]at h1;cases h1
   | some l=>
    rw [hl]at h1;obtain ⟨k,rfl,g,g1,g2,g3⟩:=hx.last l hl;have hk:=(qap.1 g1).1;have h2:=qat h1;rw [qac,zam g1]at h2;have e1:plPs x n=x.h.pages:=by unfold plPs;rw [hr];rfl
    exact ⟨k,g,by unfold plJ;rw [hr,hl];rfl,hk,by rw [e1],by rw [e1];exact g1,g2,g3,Or.inl ⟨rfl,e1,rfl,h2⟩⟩
def evWd(x:Wk)(a:Int):Int:=zap x.h.words a
def evI(x:Wk)(a:Int):Int:=ofI x.h.pw x.h.np a
def evN(x:Wk)(a:Int):Int:=zaP (decK (evWd x a).toNat) (decN (evWd x a).toNat) (decM (evWd x a).toNat)
def zeq(x:Wk)(a:Int):Bool:=decide ((x.h.pages.getD (evI x a).toNat Pg.zero).kind=2)
def spc(ps:List Pg)(i k:Nat)(sp:Int):List Pg:=ps.mapIdx fun j y=>if i<=j/\j<k then ⟨y.kind,sp,y.used,y.pins⟩ else y
def zbR(ps:List Pg)(i:Nat):Nat:=i+1+((ps.drop (i+1)).takeWhile fun y=>decide (y.kind=3)).length
def zbV(x:Wk)(i:Nat):Wk:={ x with h:={ x.h with pages:=spc x.h.pages i (zbR x.h.pages i) (1-x.h.space) } }
def zkB(x:Wk)(a:Int):List Int:=zaI (zdy x.h.words (plA x (evN x a)) a (evN x a)) a [fwdV (plA x (evN x a))]
def zbi(x:Wk)(a:Int):Wk:={ plW x (evN x a) with h:={ (plW x (evN x a)).h with words:=zkB x a },queue:=x.queue++[plA x (evN x a)],r0:=wrap64 (x.r0+1) }
def evC(x:Wk)(a:Int):Nat :=
 if a=0\/a∈x.queue then 0 else if ¬a∈x.old then 1 else if okT (evWd x a).toNat then 2
 else if ¬ofE x.h.pw x.h.np a=0\/(x.h.pages.length:Int)<=evI x a then 3
 else if zdv x (evI x a) then 4 else if zeq x a then 5 else if plB x (evN x a) then 7 else 6
def evE(x:Wk)(a:Int):Int:=match evC x a with | 1=>19 | 3=>19 | 6=>3 | _=>0
def evA(x:Wk)(a:Int):Int:=match evC x a with | 0=>a | 2=>tgtV (evWd x a).toNat | 4=>a | 5=>a | 7=>plA x (evN x a) | _=>0
def evW(x:Wk)(a:Int):Wk:=match evC x a with | 0=>x | 2=>x | 4=>zcA x a | 5=>zcA (zbV x (evI x a).toNat) a | 7=>zbi x a | _=>Wk.zero
theorem zwY{v n:Int}(hn:1<=n):0<=(v.tmod n+n).tmod n/\(v.tmod n+n).tmod n<n/\-n<v.tmod n/\v.tmod n<n:=by
 have h1:=qcl v (show 0<n by omega)
 have h2:=Int.lt_tmod_of_pos v (show 0<n by omega)
 have h3:=Int.tmod_nonneg n (show 0<=v.tmod n+n by omega)
 exact ⟨h3,qcl _ (by omega),h2,h1⟩
theorem zeU{xs:List Int}(h:WB xs)(a:Int):∃ k:Nat,zap xs a=k/\k<18446744073709551616:=by
 have hx:0<=zap xs a/\zap xs a<18446744073709551616:=by
  unfold zap;split
  . rw [qax];cases hg:xs[(a-4096).toNat]? with
    | none=>simp
    | some v=>simpa using h v (qa0 hg)
  . simp
 exact ⟨(zap xs a).toNat,by omega,by omega⟩
theorem zx6(x:Nat):0<=decM x/\decM x<4294967296:=by
 unfold decM;split
 . unfold dM;have:x / 65536 % 4294967296<4294967296:=Nat.mod_lt _ (by omega);omega
 . omega
theorem evN_bd(x:Wk)(a:Int):0<=evN x a/\evN x a<=1000:=by
 unfold evN zaP;split
 . rename_i h;unfold zay at h;have:=qat h
   omega
 . omega
theorem zxg{x:Wk}{n:Int}(hx:PlOK x)(hb:plB x n=true):0<=plA x n/\plA x n<18446744073709551616:=by
 obtain ⟨j,y,s1,s2,s3,s4,s5,s6,-⟩:=zeH hx hb;have k1:=hx.pw0;have k2:=hx.pw1;have k3:=hx.np1;have hJ0:0<=(j:Int)*x.h.pw:=qbl (by omega) (by omega)
 have hJ1:(j:Int)*x.h.pw<=64*64:=qco (by omega) k2 (by omega) (by omega)
 unfold plA;rw [s1,qac,zam s4];omega
theorem zuY(xs:List Int)(t f n:Int):(zdy xs t f n).length<=xs.length:=by
 unfold zdy;split
 . simp
 . split
   . rename_i h0 h;have h1:=qat h.1;rw [zcT (by rw [qau,qaK];omega)]
     exact qao _
   . simp
theorem wb_move{xs:List Int}(h:WB xs)(t f n:Int):WB (zdy xs t f n):=by
 unfold zdy;split
 . exact WB.nil
 . split
   . exact zqL h (fun v hv=>h v (qci (qcf hv)))
   . exact WB.nil
theorem zzO{x:Wk}{a:Int}(hx:PlOK x)(hb:plB x (evN x a)=true)(h:WB x.h.words):WB (zbi x a).h.words:=by
 show WB (zaI (zdy x.h.words _ a _) a [fwdV _])
 refine zhT (wb_move h _ _ _) (fun v hv=>?_)
 simp only [qaE]at hv;subst hv;have:=zxg hx hb
 unfold fwdV;split <;> omega
theorem zhW{α:Type}{p:α->Bool}:∀ (L:List α) (n:Nat),n<=L.length->(∀ j y,j<n->L[j]?=some y->p y=true)->(∀ y,L[n]?=some y->p y=false)->(L.takeWhile p).length=n
 | [],n,hn,_,_=>by simp at hn;subst hn;rfl
 | y::r,0,_,_,h=>by rw [qcF,h y rfl];rfl
 | y::r,n+1,hn,ha,h=>by
  rw [qcF,ha 0 y (by omega) rfl]
  simp only [if_true,qaJ];rw [zhW r n (by simpa using hn) (fun j z hj hz=>ha (j+1) z (by omega) (by simpa using hz)) (fun z hz=>h z (by simpa using hz))]
theorem zjj{ps:List Pg}{i k:Nat}(h1:i+1<=k)(h2:k<=ps.length)(h3:∀ l y,i<l->l<k->ps[l]?=some y->y.kind=3)(h4:∀ y,ps[k]?=some y->¬y.kind=3):zbR ps i=k:=by
 unfold zbR;rw [zhW (ps.drop (i+1)) (k-(i+1)) (by rw [qaK];omega) (fun j y hj hy=>qad (h3 (i+1+j) y (by omega) (by omega) (by rw [qbb]at hy;exact hy))) (fun y hy=>qai (h4 y (by rw [qbb]at hy;rw [show i+1+(k-(i+1))=k by omega]at hy;exact hy)))]
 omega
theorem zsT(ps:List Pg)(i k:Nat)(sp:Int):(spc ps i k sp).length=ps.length:=by unfold spc;simp
theorem zhl{ps:List Pg}{i k j:Nat}{sp:Int}{y:Pg}(h:ps[j]?=some y):(spc ps i k sp)[j]?=some (if i<=j/\j<k then ⟨y.kind,sp,y.used,y.pins⟩ else y):=by
 unfold spc;rw [qcC,h];rfl
theorem zpc{ps:List Pg}{i k j:Nat}{sp:Int}(h:ps[j]?=none):(spc ps i k sp)[j]?=none:=by
 unfold spc;rw [qcC,h];rfl
theorem zlr{ps:List Pg}{i k:Nat}{sp:Int}{y:Pg}(hi:i<=k)(h:ps[k]?=some y):(spc ps i k sp).set k ⟨y.kind,sp,y.used,y.pins⟩=spc ps i (k+1) sp:=by
 apply qbw
 intro j;rw [qa1,zsT];have hk:=(qap.1 h).1;by_cases e:k=j
 . subst e;rw [if_pos rfl,if_pos hk,zhl h,if_pos ⟨hi,by omega⟩]
 . rw [if_neg e];cases hj:ps[j]? with
   | none=>rw [zpc hj,zpc hj]
   | some z=>
    rw [zhl hj,zhl hj];by_cases c:i<=j/\j<k
    . rw [if_pos c,if_pos ⟨c.1,by omega⟩]
    . rw [if_neg c,if_neg (by omega)]
theorem zqU{ps:List Pg}{i:Nat}{sp:Int}:spc ps i i sp=ps:=by
 apply qbw
 intro j;cases hj:ps[j]? with
 | none=>rw [zpc hj]
 | some z=>rw [zhl hj,if_neg (by omega)]
theorem zvK{pw np a:Int}(h:ofE pw np a=0):0<=ofI pw np a:=by
 cases hv:confB pw np with
 | false=>have:=(zyY (a:=a) hv).2.2;omega
 | true=>
  cases hi:inAr pw np a with
  | false=>have:=(zga hv hi).2.2;omega
  | true=>
   obtain ⟨h1,-,-⟩:=zma hv hi;have h2:=zaj hv;unfold inAr at hi;have h3:=qat hi;rw [h1];exact qbU (by omega) (by omega)
def evH(x:Wk)(a:Int):Hd:=⟨decK (evWd x a).toNat,decN (evWd x a).toNat,decM (evWd x a).toNat⟩
structure FwOK (x:Wk):Prop where
 pl:PlOK x
 wl:x.h.words.length<=100000
 ql:x.queue.length<=1000000
def zdq(x:Wk)(A:Int):Wk:={ evW x (zap x.h.words A) with h:={ (evW x (zap x.h.words A)).h with words:=zaI (evW x (zap x.h.words A)).h.words A [evA x (zap x.h.words A)] } }
def stGo:Wk->Int->List Int->Wk×Int
 | x,_,[]=>(x,0)
 | x,A,i::r=>if evE x (zap x.h.words (A+1+i))=0 then stGo (zdq x (A+1+i)) A r else (Wk.zero,evE x (zap x.h.words (A+1+i)))
def StOK:Wk->Int->List Int->Prop
 | _,_,[]=>True
 | x,A,i::r=>FwOK x/\(evE x (zap x.h.words (A+1+i))=0->StOK (zdq x (A+1+i)) A r)
def stL(x:Wk)(A:Int):List Int:=zgU (evH x A).k (evH x A).n (evH x A).m
def stW(x:Wk)(A:Int):Wk:={ (stGo x A (stL x A)).1 with sc:=wrap64 ((stGo x A (stL x A)).1.sc+1),r5:=wrap64 (wrap64 ((stGo x A (stL x A)).1.r5+1)+(stL x A).length) }
def stE(x:Wk)(A:Int):Int:=(stGo x A (stL x A)).2
theorem stL_bd{x:Wk}{A i:Int}(h:i∈stL x A):0<=i/\i<=1000:=by
 unfold stL zgU at h;split at h
 . rename_i hv;unfold zdf at h;have h1:=(qbR.1 h).1;obtain ⟨j,hj,rfl⟩:=qav.1 h1;have h2:=qbN.1 hj;unfold zay at hv;have h3:=qat hv;have h4:Int.ofNat j=(j:Int):=rfl
   omega
 . cases h
theorem evA_bd{x:Wk}{a:Int}(hx:PlOK x)(h0:0<=a)(h1:a<18446744073709551616):0<=evA x a/\evA x a<18446744073709551616:=by
 unfold evA;split
 . exact ⟨h0,h1⟩
 . unfold tgtV;split
   . rename_i h;unfold okT at h;rw [qae]at h;have h2:=qat h.2;omega
   . omega
 . exact ⟨h0,h1⟩
 . exact ⟨h0,h1⟩
 . rename_i h;refine zxg hx ?_;unfold evC at h;split at h
   . omega
   split at h
   . omega
   split at h
   . omega
   split at h
   . omega
   split at h
   . omega
   split at h
   . omega
   split at h
   . assumption
   . omega
 . omega
theorem wb_next{x:Wk}{A:Int}(hx:PlOK x)(hw:WB x.h.words)(hy:WB (evW x (zap x.h.words A)).h.words):WB (zdq x A).h.words:=by
 obtain ⟨k,h1,h2⟩:=zeU hw A;refine zhT hy (fun v hv=>?_)
 simp only [qaE]at hv;subst hv;exact evA_bd hx (by omega) (by omega)
theorem evW_wl{x:Wk}{n:Nat}(h:x.h.words.length<=n)(a:Int):(evW x a).h.words.length<=n:=by
 unfold evW;split
 . exact h
 . exact h
 . exact h
 . exact h
 . show (zaI (zdy x.h.words _ a _) a [_]).length<=n
   unfold zaI;split
   . rename_i hk;have h1:=qat hk;rw [zcT (by omega)]
     exact qaA (zuY _ _ _ _) h
   . simp
 . exact qbe _
def allV:Nat->Wk->Wk×Int
 | 0,x=>(x,0)
 | f+1,x=>match x.queue[x.sc.toNat]? with
  | none=>(x,0)
  | some A=>if stE x A=0 then allV f (stW x A) else (Wk.zero,stE x A)
def zym:Nat->Wk->Prop
 | 0,_=>False
 | f+1,x=>∃ k:Nat,x.sc=k/\k<=1000000/\(x.queue[k]?=none\/∃ A,x.queue[k]?=some A/\0<=A/\A<=1000000/\x.h.words.length<=100000/\StOK x A (stL x A)/\(stE x A=0->(stW x A).sc=((k+1:Nat):Int)/\zym f (stW x A)))
theorem zvq{f:Nat}{x:Wk}{k:Nat}(hk:x.sc=k)(h:x.queue[k]?=none):allV (f+1) x=(x,0):=by
 unfold allV;rw [hk,qac,h]
theorem zye{f:Nat}{x:Wk}{k:Nat}{A:Int}(hk:x.sc=k)(h:x.queue[k]?=some A):allV (f+1) x=if stE x A=0 then allV f (stW x A) else (Wk.zero,stE x A):=by
 rw [allV,hk,qac,h]
def zbO(sp:Int)(l:List Pg):Bool:=l.all fun t=>decide (t.kind=3/\t.space=sp)
def zfR(pw np:Int)(ps:List Pg):Nat->Int
 | 0=>0
 | i+1=>if (ps.getD i Pg.zero).kind=2 then max 0 (zat pw np (ps.getD i Pg.zero).used-1) else max 0 (zfR pw np ps i-1)
theorem zlq(sp:Int):∀ (l:List Pg) (m:Nat),m<=zhk sp l↔(m<=l.length/\zbO sp (l.take m)=true)
 | [],m=>by
  rw [zhk];constructor
  . intro h;obtain rfl:m=0:=by omega
    exact ⟨qao _,rfl⟩
  . rintro ⟨h,-⟩;exact h
 | x::r,0=>by simp [zbO]
 | x::r,m+1=>by
  rw [zhk,qcv,qaJ];have ih:=zlq sp r m;have e:zbO sp (x::r.take m)=(decide (x.kind=3/\x.space=sp)&&zbO sp (r.take m)):=rfl
  rw [e,qae,qab];by_cases h:x.kind=3/\x.space=sp
  . rw [if_pos h];constructor
    . intro a;obtain ⟨a1,a2⟩:=ih.1 (by omega)
      exact ⟨by omega,h,a2⟩
    . rintro ⟨a1,-,a2⟩;have:=ih.2 ⟨by omega,a2⟩
      omega
  . rw [if_neg h];constructor
    . intro a;omega
    . rintro ⟨-,a,-⟩;exact absurd a h
theorem zvi{pw np:Int}{ps:List Pg}{i:Nat}{x:Pg}(hx:ps[i]?=some x){r:List Pg}{d:Int}(h:zcr pw np x r (zfR pw np ps i)=some d):d=zfR pw np ps (i+1):=by
 rw [zfR,zam hx];unfold zcr at h;split at h
 . cases h
 . split at h
   . rename_i k0;rw [if_neg (by omega)]
     split at h
     . exact (Option.some.inj h).symm
     . cases h
   . split at h
     . rename_i k1;rw [if_neg (by omega)]
       split at h
       . cases h
       . exact (Option.some.inj h).symm
     . split at h
       . rename_i k2;rw [if_pos k2];split at h
         . cases h
         . exact (Option.some.inj h).symm
       . rename_i k2;rw [if_neg k2];split at h
         . split at h
           . exact (Option.some.inj h).symm
           . cases h
         . cases h
theorem zl4{pw np:Int}{ps:List Pg}(h:zaG pw np ps 0=true):∀ i,i<=ps.length->zaG pw np (ps.drop i) (zfR pw np ps i)=true
 | 0,_=>by rw [qb3];exact h
 | i+1,hi=>by
  have ih:=zl4 h i (by omega)
  have hx:ps[i]?=some (ps[i]'(by omega)):=qaq _
  rw [qaU (by omega),zaG]at ih
  cases hs:zcr pw np (ps[i]'(by omega)) (ps.drop (i+1)) (zfR pw np ps i) with
  | none=>rw [hs]at ih;cases ih
  | some d=>rw [hs]at ih;rw [<-zvi hx hs];exact ih
def osz(h:Hp)(a:Int):Int:=(atH h a).n+1
def zjo(h:Hp)(g:Pg):Int:=if g.kind=2 then zat h.pw h.np g.used else 1
theorem zrB{pw np n:Int}(h:1<=zat pw np n):n<=zat pw np n*pw/\zat pw np n<=4/\confB pw np=true/\1<=n:=by
 by_cases hc:confB pw np=true/\1<=n
 . rw [zhv hc.1 hc.2]at h ⊢
   refine ⟨?_,?_,hc.1,hc.2⟩
   . unfold zeS at h ⊢
     repeat' split
     all_goals first | omega | (exfalso;simp_all)
   . unfold zeS at h ⊢
     repeat' split
     all_goals omega
 . rw [zhw (by
    by_cases h1:confB pw np=true
    . right;have:¬1<=n:=fun h2=>hc ⟨h1,h2⟩;omega
    . left;simpa using h1)]at h
   omega
theorem zfh{pw np:Int}{ps:List Pg}(h:zaG pw np ps 0=true){i:Nat}{g:Pg}(hg:ps[i]?=some g)(hk:g.kind=2):
 1<=zat pw np g.used/\(i:Int)+zat pw np g.used<=ps.length/\∀ t:Nat,i<t->(t:Int)<i+zat pw np g.used->∃ y,ps[t]?=some y/\y.kind=3/\y.space=g.space:=by
 have hi:i<ps.length:=(qap.1 hg).1;have h1:=zl4 h i (by omega)
 have e:ps.drop i=g::ps.drop (i+1):=by
  obtain ⟨hlt,rfl⟩:=qap.1 hg;exact qaU hlt
 rw [e,zaG]at h1;have h2:¬(zat pw np g.used<1\/(zhk g.space (ps.drop (i+1)):Int)<zat pw np g.used-1):=by
  intro hb;have:zcr pw np g (ps.drop (i+1)) (zfR pw np ps i)=none:=by
   unfold zcr;split
   . rfl
   . rw [if_neg (by omega:¬g.kind=0),if_neg (by omega:¬g.kind=1)]
  rw [this]at h1;cases h1
 have h3:(zat pw np g.used-1).toNat<=zhk g.space (ps.drop (i+1)):=by omega
 obtain ⟨h4,h5⟩:=(zlq _ _ _).1 h3;rw [qaK]at h4;refine ⟨by omega,by omega,fun t ht ht2=>?_⟩
 have h6:t<ps.length:=by omega
 refine ⟨ps[t],qaq h6,?_⟩;unfold zbO at h5;rw [qaN]at h5;have h7:=h5 ps[t] (by
  rw [List.mem_iff_getElem?];refine ⟨t-(i+1),?_⟩;rw [qa7,if_pos (by omega),qbb]
  rw [show i+1+(t-(i+1))=t from by omega,qaq h6])
 exact qat h7
structure Begins (h:Hp) (a:Int) (i j:Nat) (g:Pg):Prop where
 ok:okH h=true
 oi:ofI h.pw h.np a=i
 il:i<h.pages.length
 jl:(j:Int)<h.pw
 ad:a=4096+i*h.pw+j
 pg:h.pages[i]?=some g
 od:okD (zaX h a)=true
 hd:atH h a=hdOf (zaX h a)
 sz:osz h a=dN (zaX h a)+1
 kd:(g.kind=1/\j+osz h a<=g.used/\g.used<=h.pw)\/(g.kind=2/\j=0/\osz h a=g.used/\1<=zat h.pw h.np g.used)
 wl:a+osz h a<=4096+h.words.length
theorem zoV{h:Hp}{a:Int}(e:atE h a=0):∃ i j g,Begins h a i j g:=by
 have h1:okH h=true:=by
  cases h1:okH h
  . unfold atE at e;rw [h1]at e;simp at e
  . rfl
 have h5:ofE h.pw h.np a=0:=by
  by_cases h5:ofE h.pw h.np a=0
  . exact h5
  . unfold atE at e;rw [if_pos h1,if_neg h5]at e;cases e
 have h6:atB h a=true:=by
  cases h6:atB h a
  . unfold atE at e;rw [if_pos h1,if_pos h5,h6]at e;simp at e
  . rfl
 obtain ⟨hin,⟨i,j,e1,e2,hi,hj,ha⟩,t,ht,htl⟩:=zxv h1 h5;have hg:h.pages[i]?=some h.pages[i]:=qaq hi
 have hp:zb5 h a=h.pages[i]:=by unfold zb5;rw [e1,qac];exact zam hg
 have hh:atH h a=hdOf (zaX h a):=by unfold atH;rw [if_pos e]
 have hz:osz h a=dN (zaX h a)+1:=by unfold osz;rw [hh];rfl
 unfold atB at h6;rw [hp,e2]at h6;simp only [qae,qab]at h6;obtain ⟨⟨⟨k1,k2⟩,k3⟩,k4⟩:=h6;obtain ⟨c1,c2,c3,c4,c5,c6,c7⟩:=zan h1;obtain ⟨p1,p2,p3,p4,p5⟩:=zaj c1;have hm:=zbT _ _ _ _ c7 _ (qa0 hg);have pp:=zaM (p:=i) c1 (by omega) (by omega)
 have kd:(h.pages[i].kind=1/\j+osz h a<=h.pages[i].used/\h.pages[i].used<=h.pw)\/(h.pages[i].kind=2/\j=0/\osz h a=h.pages[i].used/\1<=zat h.pw h.np h.pages[i].used):=by
  rcases k1 with k1 | k1
  . left
    rw [if_pos k1]at k4;have:=qat k4
    have h9:=hm.2.2.2.2.2.1 k1;refine ⟨k1,by rw [hz];omega,h9.2⟩
  . right
    rw [if_neg (by omega)]at k4
    obtain ⟨m1,m2⟩:=qat k4;refine ⟨k1,by omega,by rw [hz];exact m2,hm.2.2.2.2.2.2.1 k1⟩
 refine ⟨i,j,h.pages[i],h1,e1,hi,hj,ha,hg,k3,hh,hz,kd,?_⟩;rcases kd with ⟨k,l,m⟩ | ⟨k,l,m,n⟩
 . omega
 . obtain ⟨t1,t2,t3⟩:=zfh c7 hg k;obtain ⟨f1,f2,-⟩:=zrB n;have:(i:Int)*h.pw+zat h.pw h.np h.pages[i].used*h.pw<=h.np*h.pw:=by
    rw [<-qbd];exact qaV (by omega) (by omega)
   omega
theorem Begins.pos{h:Hp}{a:Int}{i j:Nat}{g:Pg}(b:Begins h a i j g):1<=osz h a/\4096<=a:=by
 obtain ⟨c1,c2,c3,c4,c5,c6,c7⟩:=zan b.ok;obtain ⟨p1,p2,p3,p4,p5⟩:=zaj c1;have pp:=zaM (p:=i) c1 (by omega) (by have:=b.il;omega)
 have:=b.sz
 have:=b.ad
 omega
theorem Begins.upto{h:Hp}{a:Int}{i j:Nat}{g:Pg}(b:Begins h a i j g):1<=zjo h g/\4096+(i:Int)*h.pw<=a/\a+osz h a<=4096+((i:Int)+zjo h g)*h.pw/\∀ t:Nat,i<t->(t:Int)<i+zjo h g->∃ y,h.pages[t]?=some y/\y.kind=3:=by
 obtain ⟨c1,c2,c3,c4,c5,c6,c7⟩:=zan b.ok;obtain ⟨p1,p2,p3,p4,p5⟩:=zaj c1;have ha:=b.ad;rw [qbd];rcases b.kd with ⟨k,l,m⟩ | ⟨k,l,m,n⟩
 . have e:zjo h g=1:=by unfold zjo;rw [if_neg (by omega)]
   rw [e,qbi];exact ⟨by omega,by omega,by omega,fun t h1 h2=>by omega⟩
 . have e:zjo h g=zat h.pw h.np g.used:=by unfold zjo;rw [if_pos k]
   obtain ⟨f1,f2,-⟩:=zrB n;obtain ⟨t1,t2,t3⟩:=zfh c7 b.pg k;rw [e];refine ⟨by omega,by omega,by omega,fun t h1 h2=>?_⟩
   obtain ⟨y,h3,h4,-⟩:=t3 t h1 h2;exact ⟨y,h3,h4⟩
theorem zsf{h:Hp}{a b:Int}{i j k l:Nat}{g f:Pg}(ha:Begins h a i j g)(hb:Begins h b k l f)(hik:i<k):a+osz h a<=b:=by
 obtain ⟨u1,u2,u3,u4⟩:=ha.upto;obtain ⟨v1,v2,v3,v4⟩:=hb.upto;obtain ⟨c1,-⟩:=zan ha.ok;obtain ⟨p1,p2,p3,p4,p5⟩:=zaj c1;have h1:¬(k:Int)<i+zjo h g:=fun hlt=>by
  obtain ⟨y,y1,y2⟩:=u4 k hik hlt;rw [hb.pg]at y1;injection y1 with y1
  subst y1;rcases hb.kd with ⟨z,-⟩ | ⟨z,-⟩ <;> omega
 have:((i:Int)+zjo h g)*h.pw<=(k:Int)*h.pw:=qaV (by omega) (by omega)
 omega
theorem zaU{h:Hp}{a:Int}{i j:Nat}{g:Pg}(ha:Begins h a i j g){k:Nat}{f:Pg}(hf:h.pages[k]?=some f)(hk:f.kind=0):a+osz h a<=4096+(k:Int)*h.pw\/4096+(k:Int)*h.pw+h.pw<=a:=by
 obtain ⟨u1,u2,u3,u4⟩:=ha.upto;obtain ⟨c1,-⟩:=zan ha.ok;obtain ⟨p1,p2,p3,p4,p5⟩:=zaj c1;have hne:i≠k:=fun e=>by
  subst e;have:=ha.pg
  rw [hf]at this;injection this with this
  subst this;rcases ha.kd with ⟨z,-⟩ | ⟨z,-⟩ <;> omega
 by_cases hik:i<k
 . left
   have h1:¬(k:Int)<i+zjo h g:=fun hlt=>by
    obtain ⟨y,y1,y2⟩:=u4 k hik hlt;rw [hf]at y1;injection y1 with y1
    subst y1;omega
   have:((i:Int)+zjo h g)*h.pw<=(k:Int)*h.pw:=qaV (by omega) (by omega)
   omega
 . right
   have e1:((k:Int)+1)*h.pw<=(i:Int)*h.pw:=qaV (by omega) (by omega)
   rw [qbd,qbi]at e1;omega
theorem zlI(h:Hp)(i:Nat)(u:Nat)(hc:confB h.pw h.np=true)(hi:(i:Int)<h.np)(hu:(u:Int)<=h.pw):∀ (f o:Nat) (l:List Int),u-o<=f->zcL h i false u o=some l ->
 (∀ a∈l,4096+(i:Int)*h.pw+o<=a)/\l.Pairwise (fun a b=>a+osz h a<=b)
 | f,o,l,hf,hl=>by
  by_cases hlt:o<u
  . have he:atE h (zbm h.pw h.np i o)=0:=by
     by_cases he:atE h (zbm h.pw h.np i o)=0
     . exact he
     . rw [zd4 hlt he]at hl;cases hl
    have hA:zbm h.pw h.np i o=4096+(i:Int)*h.pw+o:=(zhE hc (by unfold inPg;exact qad (by omega))).1
    rw [zey hlt he]at hl;obtain ⟨l2,hl2,rfl⟩:=qb4.1 hl;match f,hf with
    | f+1,hf=>
     have hn:=(zjT he).2.2.2.2.1;obtain ⟨s1,s2⟩:=zlI h i u hc hi hu f _ l2 (by omega) hl2
     refine ⟨fun a ha=>?_,List.pairwise_cons.2 ⟨fun b hb=>?_,s2⟩⟩
     . rcases qas.1 ha with rfl | ha
       . omega
       . have:=s1 a ha;omega
     . have:=s1 b hb
       unfold osz;omega
    | 0,hf=>omega
  . rw [zcd hlt]at hl;obtain rfl:=Option.some.inj hl;exact ⟨fun a ha=>(by cases ha),List.Pairwise.nil⟩
theorem zkp{h:Hp}(h1:okH h=true)(i:Nat)(hi:i<h.pages.length):(zaQ h i).Pairwise (fun a b=>a+osz h a<=b)/\∀ a∈zaQ h i,∃ j g,Begins h a i j g:=by
 obtain ⟨c1,c2,c3,c4,c5,c6,c7⟩:=zan h1;obtain ⟨p1,p2,p3,p4,p5⟩:=zaj c1;have hg:h.pages[i]?=some h.pages[i]:=qaq hi
 have hpg:pgAt h i=h.pages[i]:=by unfold pgAt;rw [qac];exact zam hg
 have hm:=zbT _ _ _ _ c7 _ (qa0 hg);have hno:¬((i:Int)<0\/(h.pages.length:Int)<=i):=by omega
 by_cases h3:(pgAt h i).kind=0\/(pgAt h i).kind=3
 . rw [(zf3 h1 hno h3).2];exact ⟨List.Pairwise.nil,fun a ha=>by cases ha⟩
 . rw [(zh3 h1 hno h3).2];rw [hpg]at h3;have hk:h.pages[i].kind=1\/h.pages[i].kind=2:=by omega
   cases hw:zeI h i with
   | none=>exact ⟨List.Pairwise.nil,fun a ha=>by cases ha⟩
   | some l=>
    rw [qb7];unfold zeI at hw;rw [hpg]at hw;have hat:=zsO h i _ _ _ 0 l (qao _) hw;have hbg:∀ a∈l,∃ j g,Begins h a i j g:=fun a ha=>by
     obtain ⟨e1,o,o1,o2,o3⟩:=hat a ha;obtain ⟨i2,j,g,hb⟩:=zoV e1;have hi2:i2=i:=by
      have h4:=hb.oi;rw [o3]at h4;cases hpi:inPg h.pw h.np i o with
      | false=>
       have h8:=(zql c1 hpi).1;have:=hb.pos.2
       omega
      | true=>
       obtain ⟨a1,a2,a3⟩:=zs6 c1 hpi;rw [(zhE c1 hpi).1,(zma c1 a1).1,a2]at h4;omega
     subst hi2;exact ⟨j,g,hb⟩
    refine ⟨?_,hbg⟩;rcases hk with hk | hk
    . rw [show decide (h.pages[i].kind=2)=false from qai (by omega)]at hw
      have h9:=hm.2.2.2.2.2.1 hk;exact (zlI h i _ c1 (by omega) (by omega) _ 0 l (qao _) hw).2
    . rw [show decide (h.pages[i].kind=2)=true from qad hk]at hw
      by_cases hlt:0<h.pages[i].used.toNat
      . by_cases he:atE h (zbm h.pw h.np i ((0:Nat):Int))=0
        . rw [zgF hlt he]at hw;obtain rfl:=Option.some.inj hw;exact List.pairwise_singleton _ _
        . rw [zd4 hlt he]at hw;cases hw
      . rw [zcd hlt]at hw;obtain rfl:=Option.some.inj hw;exact List.Pairwise.nil
theorem zfV{h:Hp}(h1:okH h=true):∀ k:Nat,k<=h.pages.length->(zbC h k).Pairwise (fun a b=>a+osz h a<=b)/\∀ a∈zbC h k,∃ i j g,i<k/\Begins h a i j g
 | 0,_=>by
  have:zbC h 0=[]:=rfl
  rw [this];exact ⟨List.Pairwise.nil,fun a ha=>by cases ha⟩
 | k+1,hk=>by
  obtain ⟨s1,s2⟩:=zfV h1 k (by omega)
  obtain ⟨t1,t2⟩:=zkp h1 k (by omega)
  rw [zfa];refine ⟨List.pairwise_append.2 ⟨s1,t1,fun a ha b hb=>?_⟩,fun a ha=>?_⟩
  . obtain ⟨i,j,g,hi,hba⟩:=s2 a ha;obtain ⟨l,f,hbb⟩:=t2 b hb;exact zsf hba hbb hi
  . rcases qak.1 ha with ha | ha
    . obtain ⟨i,j,g,hi,hba⟩:=s2 a ha;exact ⟨i,j,g,by omega,hba⟩
    . obtain ⟨j,g,hba⟩:=t2 a ha;exact ⟨k,j,g,by omega,hba⟩
theorem zek(h:Hp):(zaf h).Pairwise (fun a b=>a+osz h a<=b):=by
 unfold zaf zca;refine List.Pairwise.filter _ ?_;unfold zbf;by_cases h1:okH h=true
 . rw [if_pos h1];split
   . exact (zfV h1 _ (qao _)).1
   . exact List.Pairwise.nil
 . rw [if_neg h1];exact List.Pairwise.nil
theorem zko{R:Int->Int->Prop}:∀ {l:List Int},l.Pairwise R->∀ {a b:Int},a∈l->b∈l->a=b\/R a b\/R b a
 | [],_,a,b,ha,_=>by cases ha
 | c::l,hp,a,b,ha,hb=>by
  obtain ⟨h1,h2⟩:=List.pairwise_cons.1 hp;rcases qas.1 ha with ha2 | ha2 <;> rcases qas.1 hb with hb2 | hb2
  . exact Or.inl (ha2.trans hb2.symm)
  . subst ha2;exact Or.inr (Or.inl (h1 _ hb2))
  . subst hb2;exact Or.inr (Or.inr (h1 _ ha2))
  . exact zko h2 ha2 hb2
theorem zh8{h:Hp}{a b:Int}(ha:a∈zaf h)(hb:b∈zaf h)(hne:a≠b):a+osz h a<=b\/b+osz h b<=a :=
 (zko (zek h) ha hb).resolve_left hne
theorem zal{h:Hp}{a:Int}(ha:a∈zaf h):∃ i j g,Begins h a i j g:=zoV (zbU ha).1
theorem zav{len:Nat}{a:Int}{n:Nat}:okA len a n=true↔4096<=a/\a+n<=4096+len:=by
 unfold okA;rw [qab];omega
theorem zeb(xs:List Int){a:Int}(h:4096<=a):zap xs a=(xs[(a-4096).toNat]?).getD 0:=by
 unfold zap;by_cases hk:okA xs.length a 1=true
 . rw [if_pos hk,qax]
 . rw [if_neg hk];have:xs[(a-4096).toNat]?=none:=by
    rw [qcB];have h2:¬(4096<=a/\a+(1:Nat)<=4096+xs.length):=fun c=>hk (zav.2 c)
    omega
   rw [this];rfl
theorem zlx(xs:List Int){a:Int}(h:a<4096):zap xs a=0:=by
 unfold zap okA;rw [if_neg];simp only [qab];omega
theorem zfS{xs l:List Int}{p:Int}(h:okA xs.length p l.length=true):(zaI xs p l).length=xs.length:=by
 unfold zaI;rw [if_pos h]
 have:=zav.1 h
 exact zcT (by omega)
theorem zbN{xs l:List Int}{p:Int}(h:okA xs.length p l.length=true){a:Int}(ha:a<p\/p+l.length<=a):zap (zaI xs p l) a=zap xs a:=by
 have h2:=zav.1 h;by_cases h4:4096<=a
 . rw [zeb _ h4,zeb _ h4];unfold zaI;rw [if_pos h,zgI (by omega) (by omega)]
 . rw [zlx _ (by omega),zlx _ (by omega)]
theorem zit{xs:List Int}{p v:Int}(h:okA xs.length p 1=true):zap (zaI xs p [v]) p=v:=by
 have h2:=zav.1 h;rw [zeb _ h2.1];unfold zaI;rw [if_pos (show okA xs.length p [v].length=true from h),zfX (by simp;omega) (qao _) (by simp),qbG];rfl
theorem zlw{xs:List Int}{t f n:Int}(h0:0<=n)(ht:okA xs.length t n.toNat=true)(hf:okA xs.length f n.toNat=true):(zdy xs t f n).length=xs.length:=by
 unfold zdy;rw [if_neg (by omega),if_pos ⟨ht,hf⟩]
 have h1:=zav.1 ht;have h2:=zav.1 hf;refine zcT ?_;rw [qau,qaK];omega
theorem ziu{xs:List Int}{t f n:Int}(h0:0<=n)(ht:okA xs.length t n.toNat=true)(hf:okA xs.length f n.toNat=true){a:Int}(ha:a<t\/t+n<=a):zap (zdy xs t f n) a=zap xs a:=by
 have h1:=zav.1 ht;have h2:=zav.1 hf;by_cases h4:4096<=a
 . rw [zeb _ h4,zeb _ h4];unfold zdy;rw [if_neg (by omega),if_pos ⟨ht,hf⟩,zgI (by rw [qau,qaK];omega) (by rw [qau,qaK];omega)]
 . rw [zlx _ (by omega),zlx _ (by omega)]
theorem zkt{xs:List Int}{t f n:Int}(h0:0<=n)(ht:okA xs.length t n.toNat=true)(hf:okA xs.length f n.toNat=true){k:Int}(hk0:0<=k)(hk:k<n):zap (zdy xs t f n) (t+k)=zap xs (f+k):=by
 have h1:=zav.1 ht;have h2:=zav.1 hf;rw [zeb _ (by omega),zeb _ (by omega)]
 unfold zdy;rw [if_neg (by omega),if_pos ⟨ht,hf⟩,zfX (by rw [qau,qaK];omega) (by omega) (by rw [qau,qaK];omega),qa7,if_pos (by omega),qbb]
 congr 2;omega
def zbs(x:Wk)(q:Int):Prop:=∃ (k:Nat) (g:Pg),(k:Int)∈x.taken/\x.h.pages[k]?=some g/\4096+(k:Int)*x.h.pw<=q/\okD (evWd x q).toNat=true/\q+evN x q<=4096+(k:Int)*x.h.pw+g.used
def zcu(x:Wk)(a:Int):Bool:=decide (¬a∈x.queue) && !okT (evWd x a).toNat
structure Inv (h:Hp) (x:Wk):Prop where
 ok:okH h=true
 pw:x.h.pw=h.pw
 np:x.h.np=h.np
 sp:x.h.space=h.space
 old:x.old=zaf h
 wl:x.h.words.length=h.words.length
 pl:x.h.pages.length=h.pages.length
 tk:∀ t∈x.taken,∃ (k:Nat) (g0 g:Pg),t=(k:Int)/\h.pages[k]?=some g0/\g0.kind=0/\x.h.pages[k]?=some g/\g.kind=1/\0<=g.used/\g.used<=h.pw
 pg:∀ (k:Nat) (g0:Pg),h.pages[k]?=some g0->¬(k:Int)∈x.taken->∃ g,x.h.pages[k]?=some g/\g.kind=g0.kind/\g.used=g0.used
 tl:x.taken.length<=zbe x.h.pages
 un:∀ a∈zaf h,evWd x a=zap h.words a\/(okT (evWd x a).toNat=true/\¬a∈x.queue/\zdv x (ofI h.pw h.np a)=false)
 qs:∀ q∈x.queue,q∈zaf h\/zbs x q
 dj:∀ q∈x.queue,∀ r∈x.queue,zbs x q->zbs x r->q≠r->q+evN x q<=r\/r+evN x r<=q
 cnt:x.queue.length+((zaf h).filter (zcu x)).length<=(zaf h).length
structure Later (x y:Wk):Prop where
 sc:y.sc=x.sc
 qu:∃ l,y.queue=x.queue++l
 hd:∀ q∈x.queue,evWd y q=evWd x q
theorem Later.refl(x:Wk):Later x x:=⟨rfl,⟨[],by simp⟩,fun _ _=>rfl⟩
theorem Later.mem{x y:Wk}(h:Later x y){q:Int}(hq:q∈x.queue):q∈y.queue:=by
 obtain ⟨l,e⟩:=h.qu;rw [e];exact qaG _ hq
theorem Later.trans{x y z:Wk}(h:Later x y)(k:Later y z):Later x z:=by
 refine ⟨k.sc.trans h.sc,?_,fun q hq=>(k.hd q (h.mem hq)).trans (h.hd q hq)⟩
 obtain ⟨l,e⟩:=h.qu;obtain ⟨m,f⟩:=k.qu;exact ⟨l++m,by rw [f,e,qaR]⟩
theorem zoO{x:Wk}{a:Int}(h:okD (evWd x a).toNat=true):evN x a=dN (evWd x a).toNat+1/\(evH x a).n=dN (evWd x a).toNat:=by
 have e:=zr5 h;have v:=(zcx h).2.2;refine ⟨?_,?_⟩
 . unfold evN;rw [e.1,e.2.1,e.2.2,zcv v]
 . unfold evH;exact e.2.1
theorem zh7{h:Hp}{x:Wk}{a:Int}(ha:a∈zaf h)(e:evWd x a=zap h.words a):okD (evWd x a).toNat=true/\evN x a=osz h a/\(evH x a).n+1=osz h a/\okT (evWd x a).toNat=false:=by
 obtain ⟨i,j,g,b⟩:=zal ha;have hp:=b.pos;have h1:(evWd x a).toNat=zaX h a:=by
  rw [e,zeb _ hp.2];unfold zaX;rw [qax]
 have h2:okD (evWd x a).toNat=true:=by rw [h1];exact b.od
 obtain ⟨e1,e2⟩:=zoO h2;have hs:=b.sz;rw [<-h1]at hs;refine ⟨h2,by omega,by omega,?_⟩
 rw [<-qbs];exact fun c=>apart _ ⟨h2,c⟩
theorem Inv.kept{h:Hp}{x:Wk}(I:Inv h x){a:Int}(ha:a∈zaf h)(hq:a∈x.queue):evWd x a=zap h.words a :=
 (I.un a ha).elim id (fun c=>absurd hq c.2.1)
theorem Inv.conf{h:Hp}{x:Wk}(I:Inv h x):16<=h.pw/\h.pw<=64/\8<=h.np/\h.np<=64/\(h.words.length:Int)=h.np*h.pw/\(h.pages.length:Int)=h.np/\h.np*h.pw<=4096/\0<=h.space/\h.space<=1:=by
 obtain ⟨c1,c2,c3,c4,c5,c6,c7⟩:=zan I.ok;obtain ⟨p1,p2,p3,p4,p5⟩:=zaj c1;exact ⟨p1,p2,p4,p5,c2,c3,(conf_prod c1).2,c4,c5⟩
theorem Inv.qlen{h:Hp}{x:Wk}(I:Inv h x):x.queue.length<=(zaf h).length/\(zaf h).length<=4096:=by
 refine ⟨by have:=I.cnt;omega,?_⟩
 unfold zaf zca;exact qaA (qbH _ _) (zcj h)
theorem Inv.plok{h:Hp}{x:Wk}(I:Inv h x):PlOK x:=by
 obtain ⟨c1,c2,c3,c4,c5,c6,c7,c8,c9⟩:=I.conf;have h1:=I.pl;refine ⟨by rw [I.pw];exact c1,by rw [I.pw];exact c2,by omega,by omega,by rw [I.sp];exact c8,by rw [I.sp];exact c9,?_,fun l hl=>?_⟩
 . have h2:=I.tl;have h3:=ziz x.h.pages;omega
 . obtain ⟨k,g0,g,e,-,-,h4,-,h5,h6⟩:=I.tk l (List.mem_of_getLast? hl);exact ⟨k,e,g,h4,h5,by rw [I.pw];exact h6⟩
theorem Inv.fwok{h:Hp}{x:Wk}(I:Inv h x):FwOK x:=by
 have h1:=I.conf;have h2:=I.wl;have h3:=I.qlen;exact ⟨I.plok,by omega,by omega⟩
theorem Inv.copy{h:Hp}{x:Wk}(I:Inv h x){q:Int}(hc:zbs x q):∃ (k:Nat) (g0:Pg),h.pages[k]?=some g0/\g0.kind=0/\(k:Int)<h.np/\4096+(k:Int)*h.pw<=q/\q+evN x q<=4096+(k:Int)*h.pw+h.pw/\1<=evN x q/\okD (evWd x q).toNat=true:=by
 obtain ⟨k,g,h1,h2,h3,h4,h5⟩:=hc;obtain ⟨k2,g0,g2,e,f1,f2,f3,f4,f5,f6⟩:=I.tk _ h1;obtain rfl:k=k2:=by omega
 rw [h2]at f3;injection f3 with f3
 subst f3;have:=(zoO h4).1
 have h7:=(qap.1 f1).1;have h8:=I.conf;rw [I.pw]at h3 h5;exact ⟨k,g0,f1,f2,by omega,h3,by omega,by omega,h4⟩
theorem Inv.old_copy{h:Hp}{x:Wk}(I:Inv h x){a q:Int}(ha:a∈zaf h)(hc:zbs x q):a+osz h a<=q\/q+evN x q<=a:=by
 obtain ⟨k,g0,h1,h2,h3,h4,h5,h6,h7⟩:=I.copy hc;obtain ⟨i,j,g,b⟩:=zal ha;have:=zaU b h1 h2
 omega
theorem Inv.inside{h:Hp}{x:Wk}(I:Inv h x){A i:Int}(hA:A∈x.queue)(h0:0<=i)(h1:i<(evH x A).n):
 okA x.h.words.length (A+1+i) 1=true/\(∀ a∈zaf h,A+1+i≠a)/\(∀ q∈x.queue,A+1+i≠q):=by
 have hcf:=I.conf;have hwl:=I.wl;rcases I.qs A hA with ho | hc
 . have e:=I.kept ho hA;obtain ⟨e1,e2,e3,e4⟩:=zh7 ho e;obtain ⟨i2,j2,g,b⟩:=zal ho;have hb:=b.pos;have hbl:=b.wl;have hold:∀ a∈zaf h,A+1+i≠a:=fun a ha eq=>by
    by_cases hne:A=a
    . omega
    . have h2:=zh8 ho ha hne;obtain ⟨i3,j3,g3,b3⟩:=zal ha;have:=b3.pos
      omega
   refine ⟨zav.2 (by omega),hold,fun q hq eq=>?_⟩
   rcases I.qs q hq with h2 | h2
   . exact hold q h2 eq
   . have h3:=I.old_copy ho h2;obtain ⟨k,g0,f1,f2,f3,f4,f5,f6,f7⟩:=I.copy h2;omega
 . obtain ⟨k,g0,f1,f2,f3,f4,f5,f6,f7⟩:=I.copy hc;obtain ⟨e1,e2⟩:=zoO f7;obtain ⟨c1,-⟩:=zan I.ok;have pp:=zaM (p:=k) c1 (by omega) f3
   have hold:∀ a∈zaf h,A+1+i≠a:=fun a ha eq=>by
    have h3:=I.old_copy ha hc;obtain ⟨i3,j3,g3,b3⟩:=zal ha;have:=b3.pos
    omega
   refine ⟨zav.2 (by omega),hold,fun q hq eq=>?_⟩
   rcases I.qs q hq with h2 | h2
   . exact hold q h2 eq
   . by_cases hne:A=q
     . omega
     . have h3:=I.dj A hA q hq hc h2 hne;obtain ⟨k2,g2,d1,d2,d3,d4,d5,d6,d7⟩:=I.copy h2;omega
theorem zmF{p q:Int->Bool}:∀ {l:List Int},(∀ a∈l,p a=q a)->l.filter p=l.filter q
 | [],_=>rfl
 | a::l,h=>by
  rw [qcc,qcc,h a (qbg ..),zmF (fun b hb=>h b (qaF _ hb))]
theorem zhz{p q:Int->Bool}{c:Int}:∀ {l:List Int},(∀ a∈l,q a=true->p a=true)->c∈l->p c=true->q c=false->(l.filter q).length+1<=(l.filter p).length
 | [],_,hc,_,_=>by cases hc
 | a::l,h,hc,hp,hq=>by
  have hle:∀ {m:List Int},(∀ a∈m,q a=true->p a=true)->(m.filter q).length<=(m.filter p).length:=by
   intro m;induction m with
   | nil=>intro _;exact qao _
   | cons b m ih=>
    intro hm;have h1:=ih (fun a ha=>hm a (qaF _ ha))
    have h2:=hm b (qbg ..);rw [qcc,qcc];cases hqb:q b
    . simp only [qbm,qbj];cases p b <;> simp <;> omega
    . rw [h2 hqb];simp;omega
  rw [qcc,qcc];rcases qas.1 hc with rfl | hc
  . rw [hp,hq];have:=hle (m:=l) (fun a ha=>h a (qaF _ ha))
    simp;omega
  . have h1:=zhz (fun a ha=>h a (qaF _ ha)) hc hp hq
    have h2:=h a (qbg ..);cases hqb:q a
    . simp only [qbm,qbj];cases p a <;> simp <;> omega
    . rw [h2 hqb];simp;omega
theorem Inv.write{h:Hp}{x:Wk}(I:Inv h x){p v:Int}(hp:okA x.h.words.length p 1=true)(h1:∀ a∈zaf h,p≠a)(h2:∀ q∈x.queue,p≠q):
 Inv h { x with h:={ x.h with words:=zaI x.h.words p [v] } }/\Later x { x with h:={ x.h with words:=zaI x.h.words p [v] } }:=by
 have hev:∀ a,p≠a->evWd { x with h:={ x.h with words:=zaI x.h.words p [v] } } a=evWd x a:=fun a ha=>by
  unfold evWd;exact zbN (l:=[v]) hp (by simp only [qbF];omega)
 have hcp:∀ q∈x.queue,(zbs { x with h:={ x.h with words:=zaI x.h.words p [v] } } q↔zbs x q):=fun q hq=>by
  unfold zbs evN;rw [hev q (h2 q hq)]
 have hn:∀ q∈x.queue,evN { x with h:={ x.h with words:=zaI x.h.words p [v] } } q=evN x q:=fun q hq=>by
  unfold evN;rw [hev q (h2 q hq)]
 refine ⟨⟨I.ok,I.pw,I.np,I.sp,I.old,?_,I.pl,I.tk,I.pg,I.tl,fun a ha=>?_,fun q hq=>?_,fun q hq r hr cq cr hne=>?_,?_⟩,⟨rfl,⟨[],by simp⟩,fun q hq=>hev q (h2 q hq)⟩⟩
 . exact (zfS (l:=[v]) hp).trans I.wl
 . rw [hev a (h1 a ha)];exact I.un a ha
 . rcases I.qs q hq with c | c
   . exact Or.inl c
   . exact Or.inr ((hcp q hq).2 c)
 . rw [hn q hq,hn r hr];exact I.dj q hq r hr ((hcp q hq).1 cq) ((hcp r hr).1 cr) hne
 . rw [zmF (q:=zcu x) (fun a ha=>by unfold zcu;rw [hev a (h1 a ha)])];exact I.cnt
theorem zmx:∀ {ps:List Pg} {k:Nat} {z y:Pg},ps[k]?=some z->zbe (ps.set k y)+(if z.kind=0 then 0 else 1)=zbe ps+(if y.kind=0 then 0 else 1)
 | [],k,z,y,h=>by simp at h
 | a::r,0,z,y,h=>by
  simp at h;subst h
  rw [List.set_cons_zero,zbe,zbe];omega
 | a::r,k+1,z,y,h=>by
  have ih:=zmx (ps:=r) (k:=k) (z:=z) (y:=y) (by simpa using h)
  rw [List.set_cons_succ,zbe,zbe];omega
theorem zmy:∀ {ps qs:List Pg},ps.map (·.kind)=qs.map (·.kind)->zbe ps=zbe qs
 | [],[],_=>rfl
 | [],_::_,h=>by simp at h
 | _::_,[],h=>by simp at h
 | a::r,b::s,h=>by
  simp at h
  rw [zbe,zbe,h.1,zmy (ps:=r) (qs:=s) h.2]
theorem Inv.place{h:Hp}{x:Wk}(I:Inv h x){n:Int}(hn0:1<=n)(hn:n<=h.pw)(hb:plB x n=true):∃ (J:Nat) (u:Int) (g0 g1:Pg),
 plA x n=4096+(J:Int)*h.pw+u/\0<=u/\u+n<=h.pw/\(J:Int)<h.np/\h.pages[J]?=some g0/\g0.kind=0 /\
 (∀ k:Nat,k≠J->(plW x n).h.pages[k]?=x.h.pages[k]?)/\(plW x n).h.pages[J]?=some g1/\g1.kind=1/\g1.used=u+n /\
 (plW x n).h.pages.length=x.h.pages.length/\(J:Int)∈(plW x n).taken/\(∀ t,t∈(plW x n).taken↔t∈x.taken\/t=J)/\(plW x n).taken.length<=zbe (plW x n).h.pages /\
 ((J:Int)∈x.taken->∃ g,x.h.pages[J]?=some g/\g.used=u):=by
 have hcf:=I.conf;obtain ⟨J,y,p1,p2,p3,p4,p5,p6,p7⟩:=zeH I.plok hb;have hpl:=I.pl;have htl:=I.tl;have e1:(plW x n).h.pages=(plPs x n).set J ⟨y.kind,y.space,y.used+n,y.pins⟩:=by
  show zgS (plPs x n) (plJ x n).toNat n=_
  unfold zgS;rw [p1,qac,zam p4]
 have e2:(plW x n).taken=plT x n:=rfl
 have hA:plA x n=4096+(J:Int)*h.pw+y.used:=by
  unfold plA;rw [p1,qac,zam p4,I.pw]
 rw [I.pw]at p6 p7;have hJ:(plW x n).h.pages[J]?=some ⟨y.kind,y.space,y.used+n,y.pins⟩:=by
  rw [e1,qa1];simp [p3,p2]
 have hu1:zbe (plW x n).h.pages=zbe (plPs x n):=by
  have:=zmx (y:=⟨y.kind,y.space,y.used+n,y.pins⟩) p4
  rw [e1];simp only at this;omega
 rcases p7 with ⟨r1,r2,r3,r4⟩ | ⟨r1,r2,r3,r4,z,r5,r6⟩
 . have hm:(J:Int)∈x.taken:=List.mem_of_getLast? r3;obtain ⟨k2,g0,g,f0,f1,f2,f3,f4,f5,f6⟩:=I.tk _ hm;obtain rfl:J=k2:=by omega
   rw [r2]at p4;rw [f3]at p4;injection p4 with p4
   subst p4;have hT:(plW x n).taken=x.taken:=by rw [e2];unfold plT;rw [if_pos r1]
   refine ⟨J,g.used,g0,_,hA,f5,r4,by omega,f1,f2,fun k hk=>?_,hJ,f4,rfl,by rw [e1,List.length_set,p3],by rw [hT];exact hm,fun t=>?_,?_,fun _=>⟨g,f3,rfl⟩⟩
   . rw [e1,qbX (by omega),r2]
   . rw [hT];constructor
     . intro h;exact Or.inl h
     . rintro (h | rfl)
       . exact h
       . exact hm
   . rw [hu1,hT,r2];exact htl
 . have hnt:¬(J:Int)∈x.taken:=fun hm=>by
    obtain ⟨k2,g0,g,f0,f1,f2,f3,f4,f5,f6⟩:=I.tk _ hm;obtain rfl:J=k2:=by omega
    rw [r5]at f3;injection f3 with f3
    subst f3;omega
   have hlt:J<h.pages.length:=by omega
   obtain ⟨g,f1,f2,f3⟩:=I.pg J h.pages[J] (qaq hlt) hnt;rw [r5]at f1;injection f1 with f1
   subst f1;have hT:(plW x n).taken=x.taken++[(J:Int)]:=by rw [e2];unfold plT;rw [r1,r2];rfl
   subst r4;refine ⟨J,0,h.pages[J],_,hA,qb6 _,by omega,by omega,qaq hlt,by omega,fun k hk=>?_,hJ,rfl,rfl,by rw [e1,List.length_set,p3],by rw [hT];simp,fun t=>?_,?_,fun hm=>absurd hm hnt⟩
   . rw [e1,qbX (by omega),r3,qbX (by omega)]
   . rw [hT];simp
   . rw [hu1,hT,r3,qaD];have:=zmx (y:=⟨1,1-x.h.space,0,0⟩) r5
     rw [if_pos r6,if_neg (by simp)]at this
     simp only [qbF];omega
theorem zvH{x y:Wk}{i:Nat}(h1:y.h.pages[i]?=x.h.pages[i]?)(h2:y.h.space=x.h.space)(h3:(i:Int)∈y.taken↔(i:Int)∈x.taken):zdv y i=zdv x i:=by
 unfold zdv;rw [qac,h1,h2];cases x.h.pages[i]? with
 | none=>rfl
 | some g=>simp only [h3]
theorem Inv.begun{h:Hp}{x:Wk}(I:Inv h x){a:Int}{i j:Nat}{g:Pg}(b:Begins h a i j g):¬(i:Int)∈x.taken:=fun hm=>by
 obtain ⟨k2,g0,g2,f0,f1,f2,-⟩:=I.tk _ hm;obtain rfl:i=k2:=by omega
 have:=b.pg
 rw [f1]at this;injection this with this
 subst this;rcases b.kd with ⟨k,-⟩ | ⟨k,-⟩ <;> omega
theorem zps{a:Int}(h0:0<=a)(h1:a<4294967296):okT (fwdV a).toNat=true:=by
 rw [(zzL h1).1];refine okT_mk ?_ ?_ <;> omega
theorem Inv.keep{h:Hp}{x:Wk}(I:Inv h x){a:Int}(ha:a∈zaf h)(hq:¬a∈x.queue)(ht:okT (evWd x a).toNat=false):Inv h (zcA x a)/\Later x (zcA x a):=by
 have e1:∀ b,evWd (zcA x a) b=evWd x b:=fun b=>rfl
 have e2:∀ b,evN (zcA x a) b=evN x b:=fun b=>rfl
 have e3:∀ b,zbs (zcA x a) b↔zbs x b:=fun b=>Iff.rfl
 have hm:∀ b,b∈(zcA x a).queue↔b∈x.queue\/b=a:=fun b=>by show b∈x.queue++[a]↔_;simp
 have hnc:∀ q,zbs x q->q≠a:=fun q hc e=>by
  subst e;have h1:=I.old_copy ha hc;obtain ⟨k,g0,f1,f2,f3,f4,f5,f6,f7⟩:=I.copy hc;obtain ⟨i,j,g,b⟩:=zal ha;have:=b.pos
  omega
 refine ⟨⟨I.ok,I.pw,I.np,I.sp,I.old,I.wl,I.pl,I.tk,I.pg,I.tl,fun b hb=>?_,fun q hqq=>?_,fun q hq2 r hr2 cq cr hne=>?_,?_⟩,⟨rfl,⟨[a],rfl⟩,fun _ _=>rfl⟩⟩
 . rcases I.un b hb with c | ⟨c1,c2,c3⟩
   . exact Or.inl c
   . refine Or.inr ⟨c1,fun hin=>?_,c3⟩
     rcases (hm b).1 hin with h2 | h2
     . exact c2 h2
     . subst h2;rw [ht]at c1;cases c1
 . rcases (hm q).1 hqq with h2 | h2
   . exact I.qs q h2
   . subst h2;exact Or.inl ha
 . have hq3:=((hm q).1 hq2).resolve_right (hnc q cq);have hr3:=((hm r).1 hr2).resolve_right (hnc r cr);exact I.dj q hq3 r hr3 cq cr hne
 . have h1:((zaf h).filter (zcu (zcA x a))).length+1<=((zaf h).filter (zcu x)).length:=by
    refine zhz (c:=a) (fun b hb hu=>?_) ha ?_ ?_
    . unfold zcu at hu ⊢
      simp only [qae,qab]at hu ⊢;exact ⟨fun h2=>hu.1 ((hm b).2 (Or.inl h2)),hu.2⟩
    . unfold zcu;simp [hq,ht]
    . unfold zcu;rw [qai (by simp [hm])];rfl
   have h2:(zcA x a).queue.length=x.queue.length+1:=by show (x.queue++[a]).length=_;simp
   have:=I.cnt
   omega
theorem zd5{P:Pg->Bool}:∀ {l:List Pg} {k:Nat},k<(l.takeWhile P).length->∃ y,l[k]?=some y/\P y=true
 | [],k,h=>by simp at h
 | a::l,k,h=>by
  rw [qcF]at h;split at h
  . rename_i hp;cases k with
    | zero=>exact ⟨a,rfl,hp⟩
    | succ k=>
     obtain ⟨y,h1,h2⟩:=zd5 (l:=l) (k:=k) (by simpa using h)
     exact ⟨y,by simpa using h1,h2⟩
  . simp at h
theorem Inv.large{h:Hp}{x:Wk}(I:Inv h x){i:Nat}{g:Pg}(hg:x.h.pages[i]?=some g)(hk:g.kind=2):Inv h (zbV x i)/\Later x (zbV x i)/\(∀ a,evWd (zbV x i) a=evWd x a)/\(zbV x i).queue=x.queue:=by
 have hat:∀ (k:Nat) (y:Pg),x.h.pages[k]?=some y->∃ s,(zbV x i).h.pages[k]?=some ⟨y.kind,s,y.used,y.pins⟩/\(¬(y.kind=2\/y.kind=3)->s=y.space):=fun k y hy=>by
  show ∃ s,(spc x.h.pages i (zbR x.h.pages i) (1-x.h.space))[k]?=_/\_
  unfold spc;rw [qcC,hy];simp only [qbI];by_cases hr:i<=k/\k<zbR x.h.pages i
  . rw [if_pos hr];refine ⟨1-x.h.space,rfl,fun hno=>?_⟩
    exfalso
    apply hno
    by_cases e:k=i
    . subst e;rw [hg]at hy;injection hy with hy;subst hy;exact Or.inl hk
    . right
      unfold zbR at hr;obtain ⟨z,z1,z2⟩:=zd5 (l:=x.h.pages.drop (i+1)) (k:=k-(i+1)) (P:=fun y=>decide (y.kind=3)) (by omega)
      rw [qbb,show i+1+(k-(i+1))=k from by omega,hy]at z1
      injection z1 with z1
      subst z1;exact qat z2
  . rw [if_neg hr];exact ⟨y.space,rfl,fun _=>rfl⟩
 have hkd:(zbV x i).h.pages.map (·.kind)=x.h.pages.map (·.kind):=by
  apply qbw
  intro k;rw [qbc,qbc];cases hy:x.h.pages[k]? with
  | some y=>
   obtain ⟨s,h1,-⟩:=hat k y hy;rw [h1];rfl
  | none=>
   have:(zbV x i).h.pages[k]?=none:=by
    show (spc x.h.pages i (zbR x.h.pages i) (1-x.h.space))[k]?=none
    unfold spc;rw [qcC,hy];rfl
   rw [this]
 have hln:(zbV x i).h.pages.length=x.h.pages.length:=by
  have:=congrArg List.length hkd
  rwa [qaj,qaj]at this
 have hcp:∀ q,zbs (zbV x i) q->zbs x q:=fun q ⟨k,g2,c1,c2,c3,c4,c5⟩=>by
  cases hy:x.h.pages[k]? with
  | some y=>
   obtain ⟨s,h1,-⟩:=hat k y hy;rw [h1]at c2;injection c2 with c2
   exact ⟨k,y,c1,hy,c3,c4,by subst c2;exact c5⟩
  | none=>
   have h1:=qcB.1 hy;have h2:=(qap.1 c2).1;omega
 refine ⟨⟨I.ok,I.pw,I.np,I.sp,I.old,I.wl,hln.trans I.pl,fun t ht=>?_,fun k g0 hg0 hnt=>?_,?_,fun a ha=>?_,fun q hq=>?_,fun q hq r hr cq cr hne=>I.dj q hq r hr (hcp q cq) (hcp r cr) hne,I.cnt⟩,⟨rfl,⟨[],by simp [zbV]⟩,fun _ _=>rfl⟩,fun _=>rfl,rfl⟩
 . obtain ⟨k,g0,g2,f0,f1,f2,f3,f4,f5,f6⟩:=I.tk t ht;obtain ⟨s,h1,-⟩:=hat k g2 f3;exact ⟨k,g0,_,f0,f1,f2,h1,f4,f5,f6⟩
 . obtain ⟨g2,f1,f2,f3⟩:=I.pg k g0 hg0 hnt;obtain ⟨s,h1,-⟩:=hat k g2 f1;exact ⟨_,h1,f2,f3⟩
 . rw [zmy hkd];exact I.tl
 . rcases I.un a ha with c | ⟨c1,c2,c3⟩
   . exact Or.inl c
   . refine Or.inr ⟨c1,c2,?_⟩;obtain ⟨i2,j2,g2,b⟩:=zal ha;rw [b.oi]at c3 ⊢
     obtain ⟨y,f1,f2,f3⟩:=I.pg i2 g2 b.pg (I.begun b);obtain ⟨s,h1,h2⟩:=hat i2 y f1;unfold zdv at c3 ⊢
     rw [qac,f1]at c3;rw [qac,h1];simp only at c3 ⊢
     by_cases hk1:y.kind=1
     . rw [h2 (by omega)];exact c3
     . rw [qai hk1];simp
 . rcases I.qs q hq with c | ⟨k,y,c1,c2,c3,c4,c5⟩
   . exact Or.inl c
   . obtain ⟨s,h1,-⟩:=hat k y c2;exact Or.inr ⟨k,_,c1,h1,c3,c4,c5⟩
theorem Inv.copied{h:Hp}{x:Wk}(I:Inv h x){a:Int}(ha:a∈zaf h)(hq:¬a∈x.queue)(ht:okT (evWd x a).toNat=false)(hpr:zdv x (evI x a)=false)(hbig:zeq x a=false)(hpl:plB x (evN x a)=true):
 Inv h (zbi x a)/\Later x (zbi x a):=by
 obtain ⟨c1,c2,c3,c4,c5,c6,c7,c8,c9⟩:=I.conf;obtain ⟨i,j,g,b⟩:=zal ha;have hbp:=b.pos;have hbw:=b.wl;have hwl:=I.wl;have e0:evWd x a=zap h.words a:=(I.un a ha).elim id (fun c=>by rw [ht]at c;exact absurd c.1 (by decide))
 obtain ⟨e1,e2,e3,-⟩:=zh7 ha e0;have hoi:evI x a=i:=by unfold evI;rw [I.pw,I.np];exact b.oi
 obtain ⟨y,f1,f2,f3⟩:=I.pg i g b.pg (I.begun b);have hk1:g.kind=1:=by
  rcases b.kd with ⟨k,-⟩ | ⟨k,-⟩
  . exact k
  . unfold zeq at hbig;rw [hoi,qac,zam f1]at hbig;have:=qa4 hbig
    omega
 have hn:evN x a<=h.pw:=by
  rcases b.kd with ⟨k,l,m⟩ | ⟨k,-⟩ <;> omega
 have hn0:1<=evN x a:=by omega
 obtain ⟨J,u,g0,g1,hA,hu0,hun,hJ,hg0,hk0,hoth,hg1,hk11,hu1,hplen,hJt,htk,htl,hru⟩:=I.place hn0 hn hpl;obtain ⟨N,hN⟩:∃ N,evN x a=N:=⟨_,rfl⟩
 obtain ⟨T,hT⟩:∃ T,plA x N=T:=⟨_,rfl⟩
 rw [hN]at hA hn hn0 hun hoth hg1 hu1 hplen hJt htk htl e2 hpl;rw [hT]at hA;have hpp:=zaM (p:=(J:Int)) (zan I.ok).1 (by omega) hJ
 have hfree:=zaU b hg0 hk0;have ka:okA x.h.words.length T N.toNat=true:=zav.2 (by omega)
 have kb:okA x.h.words.length a N.toNat=true:=zav.2 (by omega)
 have kc:okA (zdy x.h.words T a N).length a [fwdV T].length=true:=by rw [zlw (by omega) ka kb];exact zav.2 (by simp only [qbF];omega)
 have hW:(zbi x a).h.words=zaI (zdy x.h.words T a N) a [fwdV T]:=by
  show zkB x a=_
  unfold zkB;rw [hN,hT]
 have hQ:(zbi x a).queue=x.queue++[T]:=by show x.queue++[plA x (evN x a)]=_;rw [hN,hT]
 have hP:(zbi x a).h.pages=(plW x N).h.pages:=by show (plW x (evN x a)).h.pages=_;rw [hN]
 have hTk:(zbi x a).taken=(plW x N).taken:=by show (plW x (evN x a)).taken=_;rw [hN]
 have hpw:(zbi x a).h.pw=h.pw:=I.pw
 have hself:evWd (zbi x a) a=fwdV T:=by unfold evWd;rw [hW];exact zit kc
 have hout:∀ p,p≠a->(p<T\/T+N<=p)->evWd (zbi x a) p=evWd x p:=fun p h1 h2=>by
  unfold evWd;rw [hW,zbN kc (by simp only [qbF];omega)]
  exact ziu (by omega) ka kb (by omega)
 have hnew:evWd (zbi x a) T=evWd x a:=by
  unfold evWd;rw [hW,zbN kc (by simp only [qbF];omega)]
  have:=zkt (k:=0) (by omega) ka kb (qb6 _) (by omega)
  simpa using this
 have hold:∀ c∈zaf h,c≠a->evWd (zbi x a) c=evWd x c:=fun c hc hne=>by
  obtain ⟨i3,j3,g3,b3⟩:=zal hc;have h1:=zaU b3 hg0 hk0;have h2:=b3.pos;exact hout c hne (by omega)
 have hbelow:∀ q,zbs x q->q+evN x q<=T\/T+N<=q:=fun q hc=>by
  have hc2:=hc;obtain ⟨k,y2,d1,d2,d3,d4,d5⟩:=hc;obtain ⟨k3,y0,y3,l0,l1,l2,l3,l4,l5,l6⟩:=I.tk _ d1;obtain rfl:k=k3:=by omega
  rw [d2]at l3;injection l3 with l3
  subst l3;rw [I.pw]at d3 d5;by_cases hkJ:k=J
  . subst hkJ;obtain ⟨g5,m1,m2⟩:=hru d1;rw [d2]at m1;injection m1 with m1
    subst m1;left;omega
  . by_cases hlt:k<J
    . left
      have:((k:Int)+1)*h.pw<=(J:Int)*h.pw:=qaV (by omega) (by omega)
      rw [qbd,qbi]at this;omega
    . right
      have:((J:Int)+1)*h.pw<=(k:Int)*h.pw:=qaV (by omega) (by omega)
      rw [qbd,qbi]at this;omega
 have hcopy:∀ q,zbs x q->evWd (zbi x a) q=evWd x q/\q≠a/\q≠T:=fun q hc=>by
  have h1:=hbelow q hc;obtain ⟨k,y0,l1,l2,l3,l4,l5,l6,l7⟩:=I.copy hc;have h2:=I.old_copy ha hc;have hne:q≠a:=by omega
  exact ⟨hout q hne (by omega),hne,by omega⟩
 have hcopyN:∀ q,zbs x q->evN (zbi x a) q=evN x q:=fun q hc=>by unfold evN;rw [(hcopy q hc).1]
 have hqd:∀ q∈x.queue,evWd (zbi x a) q=evWd x q:=fun q h1=>by
  rcases I.qs q h1 with h2 | h2
  . exact hold q h2 (fun e=>hq (by rw [<-e];exact h1))
  . exact (hcopy q h2).1
 have hcc:∀ q,zbs x q->zbs (zbi x a) q:=fun q hc=>by
  have h9:=hcopyN q hc;have h8:=(hcopy q hc).1;have hc2:=hc;obtain ⟨k,y2,d1,d2,d3,d4,d5⟩:=hc;by_cases hkJ:k=J
  . subst hkJ;obtain ⟨g5,m1,m2⟩:=hru d1;rw [d2]at m1;injection m1 with m1
    subst m1;refine ⟨k,g1,by rw [hTk];exact hJt,by rw [hP];exact hg1,by rw [hpw];rw [I.pw]at d3;exact d3,by rw [h8];exact d4,?_⟩
    rw [h9,hpw];rw [I.pw]at d5;omega
  . refine ⟨k,y2,by rw [hTk];exact (htk _).2 (Or.inl d1),by rw [hP,hoth k hkJ];exact d2,by rw [hpw];rw [I.pw]at d3;exact d3,by rw [h8];exact d4,?_⟩
    rw [h9,hpw];rw [I.pw]at d5;exact d5
 have hback:∀ q∈x.queue,zbs (zbi x a) q->zbs x q:=fun q h1 hc=>by
  rcases I.qs q h1 with h2 | h2
  . exfalso
    obtain ⟨k,y2,d1,d2,d3,d4,d5⟩:=hc;obtain ⟨i3,j3,g3,b3⟩:=zal h2;have hb3:=b3.pos;rw [hpw]at d3 d5;have hge:1<=evN (zbi x a) q:=by have:=(zoO d4).1;omega
    rw [hTk]at d1;rw [hP]at d2;rcases (htk _).1 d1 with d1 | d1
    . obtain ⟨k3,y0,y3,l0,l1,l2,l3,l4,l5,l6⟩:=I.tk _ d1;obtain rfl:k=k3:=by omega
      have h6:=zaU b3 l1 l2;have hul:y2.used<=h.pw:=by
       by_cases hkJ:k=J
       . subst hkJ;rw [hg1]at d2;injection d2 with d2;subst d2;omega
       . rw [hoth k hkJ,l3]at d2;injection d2 with d2;subst d2;exact l6
      omega
    . obtain rfl:k=J:=by omega
      have h6:=zaU b3 hg0 hk0;rw [hg1]at d2;injection d2 with d2;subst d2
      omega
  . exact h2
 have hTN:evN (zbi x a) T=N:=by unfold evN;rw [hnew];exact hN
 refine ⟨⟨I.ok,I.pw,I.np,I.sp,I.old,?_,?_,fun t h1=>?_,fun k g5 h1 h2=>?_,?_,fun c hc=>?_,fun q h1=>?_,fun q h1 r h2 cq cr hne=>?_,?_⟩,⟨rfl,⟨[T],hQ⟩,hqd⟩⟩
 . rw [hW,zfS kc,zlw (by omega) ka kb];exact hwl
 . rw [hP,hplen];exact I.pl
 . rw [hTk]at h1;rw [hP];by_cases hkJ:t=J
   . exact ⟨J,g0,g1,hkJ,hg0,hk0,hg1,hk11,by omega,by omega⟩
   . obtain ⟨k3,y0,y3,l0,l1,l2,l3,l4,l5,l6⟩:=I.tk _ (((htk t).1 h1).resolve_right hkJ);exact ⟨k3,y0,y3,l0,l1,l2,by rw [hoth k3 (by omega)];exact l3,l4,l5,l6⟩
 . rw [hTk]at h2;rw [hP];have hnt:¬(k:Int)∈x.taken:=fun h3=>h2 ((htk _).2 (Or.inl h3))
   have hkJ:k≠J:=fun e=>h2 ((htk _).2 (Or.inr (by rw [e])))
   obtain ⟨y5,l1,l2,l3⟩:=I.pg k g5 h1 hnt;exact ⟨y5,by rw [hoth k hkJ];exact l1,l2,l3⟩
 . rw [hTk,hP];exact htl
 . have hstab:∀ i5 j5 g5,Begins h c i5 j5 g5->zdv (zbi x a) i5=zdv x i5:=fun i5 j5 g5 b5=>by
    have hnt:=I.begun b5;have hkJ:i5≠J:=fun e=>by
     subst e;have:=b5.pg
     rw [hg0]at this;injection this with this
     subst this;rcases b5.kd with ⟨k,-⟩ | ⟨k,-⟩ <;> omega
    refine zvH (by rw [hP];exact hoth i5 hkJ) rfl ?_
    rw [hTk,htk];constructor
    . rintro (h | h)
      . exact h
      . omega
    . exact Or.inl
   obtain ⟨i5,j5,g5,b5⟩:=zal hc;by_cases hca:c=a
   . subst hca;right
     refine ⟨by rw [hself];exact zps (by omega) (by omega),fun h1=>?_,?_⟩
     . rw [hQ]at h1;rcases qak.1 h1 with h1 | h1
       . exact hq h1
       . have:=qaE.1 h1;omega
     . rw [b5.oi,hstab _ _ _ b5];have:evI x c=i5:=by unfold evI;rw [I.pw,I.np];exact b5.oi
       rw [<-this];exact hpr
   . rw [hold c hc hca];rcases I.un c hc with h1 | ⟨h1,h2,h3⟩
     . exact Or.inl h1
     . refine Or.inr ⟨h1,fun h4=>?_,by rw [b5.oi]at h3 ⊢;rw [hstab _ _ _ b5];exact h3⟩
       rw [hQ]at h4;rcases qak.1 h4 with h4 | h4
       . exact h2 h4
       . have h5:=qaE.1 h4;have h6:=zaU b5 hg0 hk0;have h7:=b5.pos;omega
 . rw [hQ]at h1;rcases qak.1 h1 with h1 | h1
   . rcases I.qs q h1 with h2 | h2
     . exact Or.inl h2
     . exact Or.inr (hcc q h2)
   . have h5:=qaE.1 h1;subst h5;refine Or.inr ⟨J,g1,by rw [hTk];exact hJt,by rw [hP];exact hg1,by rw [hpw];omega,by rw [hnew];exact e1,?_⟩
     rw [hTN,hpw];omega
 . rw [hQ]at h1 h2;rcases qak.1 h1 with m1 | m1 <;> rcases qak.1 h2 with m2 | m2
   . have cq2:=hback q m1 cq;have cr2:=hback r m2 cr;rw [hcopyN q cq2,hcopyN r cr2];exact I.dj q m1 r m2 cq2 cr2 hne
   . have h5:=qaE.1 m2;have cq2:=hback q m1 cq;rw [h5,hcopyN q cq2,hTN];exact hbelow q cq2
   . have h5:=qaE.1 m1;have cr2:=hback r m2 cr;rw [h5,hcopyN r cr2,hTN];exact (hbelow r cr2).symm
   . exact absurd ((qaE.1 m1).trans (qaE.1 m2).symm) hne
 . have h1:((zaf h).filter (zcu (zbi x a))).length+1<=((zaf h).filter (zcu x)).length:=by
    refine zhz (c:=a) (fun c hc hu=>?_) ha ?_ ?_
    . unfold zcu at hu ⊢
      by_cases hca:c=a
      . subst hca;rw [hself,zps (by omega) (by omega)]at hu
        simp at hu
      . rw [hold c hc hca]at hu;simp only [qae,qab]at hu ⊢;exact ⟨fun h2=>hu.1 (by rw [hQ];exact qaG _ h2),hu.2⟩
    . unfold zcu;simp [hq,ht]
    . unfold zcu;rw [hself,zps (by omega) (by omega)];simp
   have h2:(zbi x a).queue.length=x.queue.length+1:=by rw [hQ];simp
   have:=I.cnt
   omega
theorem Inv.forward{h:Hp}{x:Wk}(I:Inv h x){a:Int}(he:evE x a=0):Inv h (evW x a)/\Later x (evW x a):=by
 unfold evE at he;unfold evW;by_cases h0:a=0\/a∈x.queue
 . have hc:evC x a=0:=by unfold evC;rw [if_pos h0]
   rw [hc];exact ⟨I,Later.refl x⟩
 have hq:¬a∈x.queue:=fun c=>h0 (Or.inr c)
 by_cases ho:¬a∈x.old
 . have hc:evC x a=1:=by unfold evC;rw [if_neg h0,if_pos ho]
   rw [hc]at he;exact absurd he (by decide)
 replace ho:a∈x.old:=Classical.not_not.1 ho
 have ho2:a∈zaf h:=by rw [<-I.old];exact ho
 by_cases ht:okT (evWd x a).toNat=true
 . have hc:evC x a=2:=by unfold evC;rw [if_neg h0,if_neg (by simpa using ho),if_pos ht]
   rw [hc];exact ⟨I,Later.refl x⟩
 replace ht:okT (evWd x a).toNat=false:=by simpa using ht
 by_cases h3:¬ofE x.h.pw x.h.np a=0\/(x.h.pages.length:Int)<=evI x a
 . have hc:evC x a=3:=by unfold evC;rw [if_neg h0,if_neg (by simpa using ho),if_neg (by simp [ht]),if_pos h3]
   rw [hc]at he;exact absurd he (by decide)
 cases hpr:zdv x (evI x a) with
 | true=>
  have hc:evC x a=4:=by unfold evC;rw [if_neg h0,if_neg (by simpa using ho),if_neg (by simp [ht]),if_neg h3,if_pos hpr]
  rw [hc];exact I.keep ho2 hq ht
 | false=>
  cases hbig:zeq x a with
  | true=>
   have hc:evC x a=5:=by unfold evC;rw [if_neg h0,if_neg (by simpa using ho),if_neg (by simp [ht]),if_neg h3,if_neg (by simp [hpr]),if_pos hbig]
   rw [hc];obtain ⟨i,j,g,b⟩:=zal ho2;have hoi:evI x a=i:=by unfold evI;rw [I.pw,I.np];exact b.oi
   obtain ⟨y,f1,f2,f3⟩:=I.pg i g b.pg (I.begun b);have hk:y.kind=2:=by
    unfold zeq at hbig;rw [hoi,qac,zam f1]at hbig;exact qat hbig
   rw [hoi,qac];obtain ⟨I2,L2,e1,e2⟩:=I.large f1 hk;obtain ⟨I3,L3⟩:=I2.keep ho2 (by rw [e2];exact hq) (by rw [e1];exact ht)
   exact ⟨I3,L2.trans L3⟩
  | false=>
   cases hpp:plB x (evN x a) with
   | true=>
    have hc:evC x a=7:=by unfold evC;rw [if_neg h0,if_neg (by simpa using ho),if_neg (by simp [ht]),if_neg h3,if_neg (by simp [hpr]),if_neg (by simp [hbig]),if_pos hpp]
    rw [hc];exact I.copied ho2 hq ht hpr hbig hpp
   | false=>
    have hc:evC x a=6:=by unfold evC;rw [if_neg h0,if_neg (by simpa using ho),if_neg (by simp [ht]),if_neg h3,if_neg (by simp [hpr]),if_neg (by simp [hbig]),if_neg (by simp [hpp])]
    rw [hc]at he;exact absurd he (by decide)
def zba:Wk->List Int->List Int->Wk×List Int×Int
 | x,acc,[]=>(x,acc,0)
 | x,acc,r::rs=>if evE x r=0 then zba (evW x r) (acc++[evA x r]) rs else (Wk.zero,[],evE x r)
def zqF:Wk->List Int->Prop
 | _,[]=>True
 | x,r::rs=>FwOK x/\(0<=r/\r<18446744073709551616)/\(evE x r=0->zqF (evW x r) rs)
def zbB(h:Hp):Wk:=⟨{ h with pages:=h.pages.map fun g=>if g.kind=1/\0<g.pins then ⟨g.kind,1-h.space,g.used,g.pins⟩ else g },zaf h,[],[],0,0,0,0,0,0,0⟩
def zr2(x:Wk)(a:Int):Bool:=zdv x (ofI x.h.pw x.h.np a) && !decide (a∈x.queue)
def znY(x:Wk)(a:Int):List Int:=encV 0 (evH x a).n 0::List.replicate (evH x a).n.toNat 0
def zaw(x:Wk)(a:Int):Wk:=if zr2 x a then { x with h:={ x.h with words:=zaI x.h.words a (znY x a) },r2:=wrap64 (x.r2+1) } else x
def zc0(x:Wk):Wk:=x.old.foldl zaw x
theorem zr3{x y:Wk}(L:Later x y){q:Int}(hq:q∈x.queue):evH y q=evH x q:=by
 unfold evH;rw [L.hd q hq]
theorem st_ok{h:Hp}{A:Int}:∀ (l:List Int) (x:Wk),Inv h x->A∈x.queue->(∀ i∈l,0<=i/\i<(evH x A).n)->StOK x A l/\((stGo x A l).2=0->Inv h (stGo x A l).1/\Later x (stGo x A l).1)
 | [],x,I,hA,_=>⟨trivial,fun _=>⟨I,Later.refl x⟩⟩
 | i::r,x,I,hA,hl=>by
  obtain ⟨h0,h1⟩:=hl i (qbg ..);have key:evE x (zap x.h.words (A+1+i))=0->Inv h (zdq x (A+1+i))/\Later x (zdq x (A+1+i)):=fun he=>by
   obtain ⟨I2,L2⟩:=I.forward he;have hA2:=L2.mem hA;obtain ⟨k1,k2,k3⟩:=I2.inside hA2 h0 (by rw [zr3 L2 hA];exact h1)
   obtain ⟨I3,L3⟩:=I2.write (v:=evA x (zap x.h.words (A+1+i))) k1 k2 k3
   exact ⟨I3,L2.trans L3⟩
  have hrec:∀ he:evE x (zap x.h.words (A+1+i))=0,StOK (zdq x (A+1+i)) A r/\((stGo (zdq x (A+1+i)) A r).2=0->Inv h (stGo (zdq x (A+1+i)) A r).1/\Later (zdq x (A+1+i)) (stGo (zdq x (A+1+i)) A r).1):=fun he=>by
   obtain ⟨I3,L3⟩:=key he;exact st_ok r _ I3 (L3.mem hA) (fun j hj=>by rw [zr3 L3 hA];exact hl j (qaF _ hj))
  refine ⟨⟨I.fwok,fun he=>(hrec he).1⟩,fun hz=>?_⟩
  rw [stGo]at hz ⊢
  by_cases he:evE x (zap x.h.words (A+1+i))=0
  . rw [if_pos he]at hz ⊢
    obtain ⟨I4,L4⟩:=(hrec he).2 hz;exact ⟨I4,(key he).2.trans L4⟩
  . rw [if_neg he]at hz;exact absurd hz he
theorem stL_in{x:Wk}{A i:Int}(hi:i∈stL x A):0<=i/\i<(evH x A).n:=by
 have h:=zqX hi;unfold ptrB at h;simp only [qae,qab]at h;exact ⟨h.1.1.2,h.1.2⟩
theorem Inv.queue_bd{h:Hp}{x:Wk}(I:Inv h x){A:Int}(hA:A∈x.queue):4096<=A/\A<=9000:=by
 rcases I.qs A hA with c | c
 . have:=zsg (zbU c).1;omega
 . obtain ⟨k,g0,f1,f2,f3,f4,f5,f6,f7⟩:=I.copy c;have h1:=I.conf;have h2:=zaM (p:=(k:Int)) (zan I.ok).1 (by omega) f3
   omega
theorem Inv.reports{h:Hp}{x:Wk}(I:Inv h x)(s a b c d e f:Int):Inv h { x with sc:=s,r0:=a,r1:=b,r2:=c,r3:=d,r4:=e,r5:=f } :=
 ⟨I.ok,I.pw,I.np,I.sp,I.old,I.wl,I.pl,I.tk,I.pg,I.tl,I.un,I.qs,I.dj,I.cnt⟩
theorem zyd{h:Hp}:∀ (f:Nat) (x:Wk) (k:Nat),Inv h x->x.sc=k->k<=x.queue.length->(zaf h).length+1<=k+f->zym f x/\((allV f x).2=0->Inv h (allV f x).1)
 | 0,x,k,I,hk,hq,hf=>by have:=I.qlen;omega
 | f+1,x,k,I,hk,hq,hf=>by
  have hql:=I.qlen;cases hA:x.queue[k]? with
  | none=>
   refine ⟨⟨k,hk,by omega,Or.inl hA⟩,fun _=>?_⟩
   rw [zvq hk hA];exact I
  | some A=>
   have hAm:=qa0 hA;have hkl:=(qap.1 hA).1;have hbd:=I.queue_bd hAm;obtain ⟨s1,s2⟩:=st_ok (stL x A) x I hAm (fun i hi=>stL_in hi)
   have key:stE x A=0->Inv h (stW x A)/\(stW x A).sc=((k+1:Nat):Int)/\k+1<=(stW x A).queue.length:=fun he=>by
    obtain ⟨I2,L2⟩:=s2 he;refine ⟨I2.reports _ _ _ _ _ _ _,?_,?_⟩
    . show wrap64 ((stGo x A (stL x A)).1.sc+1)=_
      rw [L2.sc,hk];unfold wrap64;omega
    . show k+1<=(stGo x A (stL x A)).1.queue.length
      obtain ⟨l,e⟩:=L2.qu;rw [e,qaD];omega
   have hrec:=fun he:stE x A=0=>zyd f (stW x A) (k+1) (key he).1 (key he).2.1 (key he).2.2 (by omega)
   refine ⟨⟨k,hk,by omega,Or.inr ⟨A,hA,by omega,by omega,I.fwok.wl,s1,fun he=>⟨(key he).2.1,(hrec he).1⟩⟩⟩,fun hz=>?_⟩
   rw [zye hk hA]at hz ⊢
   by_cases he:stE x A=0
   . rw [if_pos he]at hz ⊢;exact (hrec he).2 hz
   . rw [if_neg he]at hz;exact absurd hz he
theorem zpg{h:Hp}:∀ (rs:List Int) (x:Wk) (acc:List Int),Inv h x->(∀ r∈rs,0<=r/\r<18446744073709551616)->zqF x rs/\((zba x acc rs).2.2=0->Inv h (zba x acc rs).1/\Later x (zba x acc rs).1/\(zba x acc rs).2.1.length=acc.length+rs.length)
 | [],x,acc,I,_=>⟨trivial,fun _=>⟨I,Later.refl x,rfl⟩⟩
 | r::rs,x,acc,I,hl=>by
  have hrec:∀ he:evE x r=0,_:=fun he=>zpg rs (evW x r) (acc++[evA x r]) (I.forward he).1 (fun q hq=>hl q (qaF _ hq))
  refine ⟨⟨I.fwok,hl r (qbg ..),fun he=>(hrec he).1⟩,fun hz=>?_⟩
  rw [zba]at hz ⊢
  by_cases he:evE x r=0
  . rw [if_pos he]at hz ⊢
    obtain ⟨I2,L2,e2⟩:=(hrec he).2 hz;refine ⟨I2,(I.forward he).2.trans L2,?_⟩;rw [e2];simp only [qaD,qaJ,qbM];omega
  . rw [if_neg he]at hz;exact absurd hz he
theorem zgp{h:Hp}(h1:okH h=true):Inv h (zbB h):=by
 refine ⟨h1,rfl,rfl,rfl,rfl,rfl,by show (List.map _ _).length=_;rw [qaj],fun t ht=>(by cases ht),fun k g0 hg hn=>?_,qbe _,fun a ha=>Or.inl rfl,fun q hq=>(by cases hq),fun q hq=>(by cases hq),?_⟩
 . refine ⟨if g0.kind=1/\0<g0.pins then ⟨g0.kind,1-h.space,g0.used,g0.pins⟩ else g0,?_,?_,?_⟩
   . show (List.map _ _)[k]?=_;rw [qbc,hg];rfl
   . split <;> rfl
   . split <;> rfl
 . show 0+_<=_
   have:=qbH (zcu (zbB h)) (zaf h)
   omega
theorem zkx(x:Wk)(a:Int):(zaw x a).h.pw=x.h.pw/\(zaw x a).h.np=x.h.np/\(zaw x a).h.pages=x.h.pages/\(zaw x a).h.space=x.h.space/\(zaw x a).taken=x.taken/\(zaw x a).queue=x.queue/\(zaw x a).old=x.old/\(zaw x a).h.bump=x.h.bump:=by
 unfold zaw;split <;> exact ⟨rfl,rfl,rfl,rfl,rfl,rfl,rfl,rfl⟩
theorem zx1(x:Wk)(a b:Int):zr2 (zaw x a) b=zr2 x b:=by
 obtain ⟨e1,e2,e3,e4,e5,e6,-,-⟩:=zkx x a;unfold zr2 zdv;rw [e1,e2,e3,e4,e5,e6]
theorem zp5{h:Hp}:∀ (l:List Int) (x:Wk),l.Pairwise (fun a b=>a+osz h a<=b)->(∀ a∈l,a∈zaf h)->x.h.words.length=h.words.length->(∀ a∈l,zr2 x a=true->evWd x a=zap h.words a)->(l.foldl zaw x).h.words.length=h.words.length
 | [],x,_,_,e,_=>e
 | a::l,x,hp,hm,e,hev=>by
  obtain ⟨p1,p2⟩:=List.pairwise_cons.1 hp;rw [qb8];by_cases hb:zr2 x a=true
  . have h1:=hev a (qbg ..) hb;have ha:=hm a (qbg ..);obtain ⟨e1,e2,e3,-⟩:=zh7 ha h1;obtain ⟨i,j,g,b⟩:=zal ha;have hpos:=b.pos;have hwl:=b.wl;have hln:((znY x a).length:Int)=osz h a:=by unfold znY;rw [qaJ,qbf];omega
    have hok:okA x.h.words.length a (znY x a).length=true:=zav.2 (by omega)
    have hW:(zaw x a).h.words=zaI x.h.words a (znY x a):=by unfold zaw;rw [if_pos hb]
    refine zp5 l _ p2 (fun c hc=>hm c (qaF _ hc)) (by rw [hW,zfS hok];exact e) (fun c hc hf=>?_)
    rw [zx1]at hf;have h2:=hev c (qaF _ hc) hf;have h3:=p1 c hc;rw [<-h2];unfold evWd;rw [hW,zbN hok (by omega)]
  . have hW:zaw x a=x:=by unfold zaw;rw [if_neg hb]
    rw [hW];exact zp5 l x p2 (fun c hc=>hm c (qaF _ hc)) e (fun c hc hf=>hev c (qaF _ hc) hf)
theorem Inv.fill{h:Hp}{x:Wk}(I:Inv h x):(zc0 x).h.words.length=h.words.length:=by
 unfold zc0;rw [I.old];refine zp5 _ x (zek h) (fun a ha=>ha) I.wl (fun a ha hf=>?_)
 unfold zr2 at hf;simp only [qae,qar,qag]at hf;rcases I.un a ha with c | ⟨-,-,c3⟩
 . exact c
 . rw [I.pw,I.np]at hf;rw [c3]at hf;exact absurd hf.1 (by decide)
structure Wd where
 h:Hp
 st:List Int
 wk:List Int
def bgB(h:Hp)(k:Nat):Bool:=decide ((h.pages.getD k Pg.zero).kind=1)&&decide (0<(h.pages.getD k Pg.zero).pins)
def bgPs(h:Hp):Nat->List Pg
 | 0=>h.pages
 | k+1=>if bgB h k then (bgPs h k).set k ⟨(h.pages.getD k Pg.zero).kind,1-h.space,(h.pages.getD k Pg.zero).used,(h.pages.getD k Pg.zero).pins⟩ else bgPs h k
theorem ziJ(h:Hp):∀ k,(bgPs h k).length=h.pages.length
 | 0=>rfl
 | k+1=>by rw [bgPs];split <;> simp [ziJ h k]
theorem zqi(h:Hp):∀ (k j:Nat) (g:Pg),h.pages[j]?=some g->(bgPs h k)[j]?=some (if j<k/\g.kind=1/\0<g.pins then ⟨g.kind,1-h.space,g.used,g.pins⟩ else g)
 | 0,j,g,hg=>by rw [if_neg (by omega)];exact hg
 | k+1,j,g,hg=>by
  have ih:=zqi h k j g hg;have hj:=(qap.1 hg).1;rw [bgPs];by_cases hb:bgB h k=true
  . rw [if_pos hb,qa1,ziJ];unfold bgB at hb;simp only [qae,qab]at hb;by_cases e:k=j
    . subst e;rw [zam hg]at hb ⊢
      rw [if_pos rfl,if_pos hj,if_pos ⟨by omega,hb.1,hb.2⟩]
    . rw [if_neg e,ih];by_cases c:j<k/\g.kind=1/\0<g.pins
      . rw [if_pos c,if_pos ⟨by omega,c.2⟩]
      . rw [if_neg c,if_neg (fun c2=>c ⟨by omega,c2.2⟩)]
  . rw [if_neg hb,ih];by_cases c:j<k/\g.kind=1/\0<g.pins
    . rw [if_pos c,if_pos ⟨by omega,c.2⟩]
    . rw [if_neg c,if_neg];rintro ⟨c1,c2⟩;by_cases e:j=k
      . subst e;apply hb
        unfold bgB;rw [zam hg];simp [c2]
      . exact c ⟨by omega,c2⟩
theorem zvo(h:Hp):bgPs h h.pages.length=(zbB h).h.pages:=by
 apply qbw
 intro j;show _=(List.map _ h.pages)[j]?
 rw [qbc];cases hg:h.pages[j]? with
 | none=>
  have:(bgPs h h.pages.length)[j]?=none:=by
   rw [qcB,ziJ];exact qcB.1 hg
  rw [this];rfl
 | some g=>
  rw [zqi h _ j g hg];have hj:=(qap.1 hg).1;simp only [qbI];by_cases c:g.kind=1/\0<g.pins
  . rw [if_pos ⟨hj,c⟩,if_pos c]
  . rw [if_neg (fun c2=>c c2.2),if_neg c]
def zmH(x:Wk)(k:Nat):Wk:=(x.old.take k).foldl zaw x
theorem ztO{x:Wk}{k:Nat}{a:Int}(h:x.old[k]?=some a):zmH x (k+1)=zaw (zmH x k) a:=by
 unfold zmH;rw [zbd h,List.foldl_append];rfl
theorem zmC:∀ (l:List Int) (x:Wk),(l.foldl zaw x).h.pw=x.h.pw/\(l.foldl zaw x).h.np=x.h.np/\(l.foldl zaw x).h.pages=x.h.pages/\(l.foldl zaw x).h.space=x.h.space/\(l.foldl zaw x).taken=x.taken/\(l.foldl zaw x).queue=x.queue/\(l.foldl zaw x).old=x.old/\(l.foldl zaw x).h.bump=x.h.bump
 | [],x=>⟨rfl,rfl,rfl,rfl,rfl,rfl,rfl,rfl⟩
 | a::l,x=>by
  obtain ⟨e1,e2,e3,e4,e5,e6,e7,e8⟩:=zmC l (zaw x a);have h:(zaw x a).h.pw=x.h.pw/\(zaw x a).h.np=x.h.np/\(zaw x a).h.pages=x.h.pages/\(zaw x a).h.space=x.h.space/\(zaw x a).taken=x.taken/\(zaw x a).queue=x.queue/\(zaw x a).old=x.old/\(zaw x a).h.bump=x.h.bump:=by
   unfold zaw;split <;> exact ⟨rfl,rfl,rfl,rfl,rfl,rfl,rfl,rfl⟩
  obtain ⟨f1,f2,f3,f4,f5,f6,f7,f8⟩:=h;exact ⟨e1.trans f1,e2.trans f2,e3.trans f3,e4.trans f4,e5.trans f5,e6.trans f6,e7.trans f7,e8.trans f8⟩
theorem zwL(xs:List Int)(a:Int)(l:List Int):(zaI xs a l).length<=xs.length:=by
 unfold zaI;split
 . rename_i hk;have h1:=qat hk;rw [zcT (by omega)];exact qao _
 . exact qbe _
theorem encV_wb(n:Int):0<=encV 0 n 0/\encV 0 n 0<18446744073709551616:=by
 unfold encV;split
 . rename_i h;have:=zwN h (qb6 0)
   omega
 . omega
def frB(x:Wk)(k:Nat):Bool:=!decide ((x.h.pages.getD k Pg.zero).kind=0)&&decide ((x.h.pages.getD k Pg.zero).space=x.h.space)
def frPs(x:Wk):Nat->List Pg
 | 0=>x.h.pages
 | k+1=>if frB x k then (frPs x k).set k Pg.zero else frPs x k
def frWs(x:Wk):Nat->List Int
 | 0=>x.h.words
 | k+1=>if frB x k then splice (frWs x k) (k*x.h.pw.toNat) (List.replicate x.h.pw.toNat 0) else frWs x k
def frR(x:Wk):Nat->Int
 | 0=>x.r3
 | k+1=>if frB x k then wrap64 (frR x k+1) else frR x k
def freeW(x:Wk):Wk:={ x with h:={ x.h with pages:=frPs x x.h.pages.length,words:=frWs x x.h.pages.length },r3:=frR x x.h.pages.length }
theorem zp1(x:Wk):∀ k,(frPs x k).length=x.h.pages.length
 | 0=>rfl
 | k+1=>by rw [frPs];split <;> simp [zp1 x k]
theorem ztM(x:Wk):∀ (k j:Nat),k<=j->(frPs x k)[j]?=x.h.pages[j]?
 | 0,_,_=>rfl
 | k+1,j,h=>by
  rw [frPs];split
  . rw [qbX (by omega),ztM x k j (by omega)]
  . exact ztM x k j (by omega)
theorem zop{k m n:Nat}{pw:Int}(h0:0<=pw)(hk:k<m)(hn:(n:Int)=m*pw):k*pw.toNat+pw.toNat<=n:=by
 obtain ⟨q,rfl⟩:∃ q:Nat,pw=q:=⟨pw.toNat,by omega⟩
 rw [qac];have h1:(k+1)*q<=m*q:=qaT _ (by omega)
 rw [qaO,qa6]at h1;have h2:((m*q:Nat):Int)=n:=by rw [qct];exact hn.symm
 omega
theorem zp0(x:Wk)(h0:0<=x.h.pw)(hw:(x.h.words.length:Int)=x.h.pages.length*x.h.pw):∀ k,k<=x.h.pages.length->(frWs x k).length=x.h.words.length
 | 0,_=>rfl
 | k+1,hk=>by
  have ih:=zp0 x h0 hw k (by omega)
  rw [frWs];split
  . rw [zcT (by rw [qbf,ih];exact zop h0 (by omega) hw)];exact ih
  . exact ih
def zoX(x:Wk)(a:Int):Int:=if a∈x.queue then a else tgtV (evWd x a).toNat
def zk4(x:Wk)(a:Int):Int:=if a=0 then 0 else zoX x a
def zeX(x:Wk)(r a:Int):Int:=if a=0 then r else if zoX x a=0 then wrap64 (r+1) else r
def zqb(h:Hp)(st:List Int):Wk×List Int×Int:=zba (zbB h) [] st
def znZ(h:Hp)(st:List Int):Wk×Int:=allV ((zaf h).length+1) (zqb h st).1
def zcD(h:Hp)(st wk:List Int):Wk:={ (znZ h st).1 with r4:=wk.foldl (zeX (znZ h st).1) (znZ h st).1.r4 }
def ztS(h:Hp)(st wk:List Int):Wk:=freeW (zc0 (zcD h st wk))
def zgn(h:Hp)(st wk:List Int):Int:=if okH h then (if zjn h st&&zjn h wk then (if (zqb h st).2.2=0 then (znZ h st).2 else (zqb h st).2.2) else 19) else 1
def ztV(h:Hp)(st wk:List Int):Hp:={ (ztS h st wk).h with space:=1-(ztS h st wk).h.space,bump:=((ztS h st wk).taken.getLast?).getD (-1) }
def ztT(h:Hp)(st:List Int):List Int:=(zqb h st).2.1
def ztU(h:Hp)(st wk:List Int):List Int:=wk.map (zk4 (znZ h st).1)
def putV(x:Wd)(k n m:Int):Wd:=⟨zdr x.h k n m,x.st++[ziL x.h k n m],x.wk⟩
inductive MStep:Wd->Wd->Prop
 | none (x:Wd):MStep x x
 | put (x:Wd) (k n m:Int):1<=k->k<=3->0<=n->n<=100->0<=m->m<4096->zcQ x.h k n m=0->MStep x (putV x k n m)
 | link (x:Wd) (a i b:Int):a∈0::(x.st++x.wk)->getE x.h a=0->0<=i->i<(getH x.h a).n->0<=b->b<18446744073709551616->(ptrB (getH x.h a).k (getH x.h a).n (getH x.h a).m i=true->b∈0::(x.st++x.wk))->MStep x { x with h:=setV x.h a i b }
 | pin (x:Wd) (a:Int) (i:Nat) (g:Pg) (p:Int):a∈0::(x.st++x.wk)->ofE x.h.pw x.h.np a=0->ofI x.h.pw x.h.np a=i->x.h.pages[i]?=some g->((0<g.pins/\p=g.pins-1)\/(p=g.pins+1/\(0<g.pins\/g.kind=2\/(zaZ x.h.pages:Int)<x.h.np / 4)))->MStep x { x with h:={ x.h with pages:=x.h.pages.set i ⟨g.kind,g.space,g.used,p⟩ } }
 | drop (x:Wd) (i:Nat) (r:Int) (b:Bool):x.st[i]?=some r->MStep x ⟨x.h,x.st.take i++x.st.drop (i+1),if b then x.wk++[r] else x.wk⟩
 | collect (x:Wd):zgn x.h x.st x.wk=0->MStep x ⟨ztV x.h x.st x.wk,ztT x.h x.st,ztU x.h x.st x.wk⟩
 | dup (x:Wd) (a:Int):a∈0::(x.st++x.wk)->MStep x ⟨x.h,x.st++[a],x.wk⟩
inductive Made:Nat->Wd->Prop
 | empty (pw np:Int):(pw=16\/pw=20\/pw=32)->(np=8\/np=12\/np=16\/np=20\/np=24)->Made 0 ⟨zpP pw np,[],[]⟩
 | step (n:Nat) (x y:Wd):Made n x->MStep x y->Made (n+1) y
theorem mem_u64{st wk:List Int}(h1:WB st)(h2:WB wk){a:Int}(h:a∈0::(st++wk)):0<=a/\a<18446744073709551616:=by
 simp only [qas,qak]at h;rcases h with rfl | h | h
 . exact ⟨by omega,by omega⟩
 . exact h1 _ h
 . exact h2 _ h
theorem zuT{pw np a:Int}(h:ofE pw np a=0):confB pw np=true/\0<=ofI pw np a/\ofI pw np a<np:=by
 have h1:confB pw np=true:=by
  cases hv:confB pw np with
  | false=>have:=(zyY (a:=a) hv).2.2;omega
  | true=>rfl
 have h2:inAr pw np a=true:=by
  cases hi:inAr pw np a with
  | false=>have:=(zga h1 hi).2.2;omega
  | true=>rfl
 have h3:=zaj h1;refine ⟨h1,zvK h,?_⟩;rw [(zma h1 h2).1];unfold inAr at h2;have h4:=qat h2;exact qcr (by omega) (by omega)
structure Lens (n:Nat) (x:Wd):Prop where
 conf:confB x.h.pw x.h.np=true
 words:(x.h.words.length:Int)=x.h.np*x.h.pw
 pages:(x.h.pages.length:Int)=x.h.np
 st:WB x.st
 wk:WB x.wk
 stn:x.st.length<=n
 wkn:x.wk.length<=n
 pins:∀ g∈x.h.pages,0<=g.pins/\g.pins<=n
theorem zv2{h:Hp}{a i:Int}(hg:getE h a=0)(h0:0<=i)(h1:i<(getH h a).n):zky h a i=0/\okA h.words.length (a+1+i) 1=true:=by
 obtain ⟨g1,g2,g3,-,-,g6,-,-,-,-⟩:=ztJ hg;obtain ⟨k,j,g,b⟩:=zoV g2;have h2:=b.wl;have h3:osz h a=(atH h a).n+1:=rfl
 rw [g3]at h1;have hk:okA h.words.length (a+1+i) 1=true:=zav.2 ⟨by omega,by omega⟩
 refine ⟨?_,hk⟩;unfold zky;rw [if_pos hg,if_neg (by rw [g3];omega)]
 unfold zg0;rw [if_pos hk]
theorem Lens.up{n:Nat}{x:Wd}(h:Lens n x):Lens (n+1) x :=
 ⟨h.conf,h.words,h.pages,h.st,h.wk,by have:=h.stn;omega,by have:=h.wkn;omega,fun g hg=>by have:=h.pins g hg;omega⟩
theorem zvV{pw np:Int}(h1:pw=16\/pw=20\/pw=32)(h2:np=8\/np=12\/np=16\/np=20\/np=24):Lens 0 ⟨zpP pw np,[],[]⟩:=by
 have hc:confB pw np=true:=conf_mk (by omega)
 have hp:=conf_prod hc;rw [(ztx hc).1];refine ⟨hc,?_,?_,WB.nil,WB.nil,qao _,qao _,fun g hg=>?_⟩
 . show ((List.replicate (np*pw).toNat (0:Int)).length:Int)=np*pw
   rw [qbf];omega
 . show ((List.replicate np.toNat Pg.zero).length:Int)=np
   rw [qbf];omega
 . obtain ⟨-,rfl⟩:=List.mem_replicate.1 hg;exact ⟨by decide,by decide⟩
theorem zxM{n:Nat}{x:Wd}(h:Lens n x){a i b:Int}(hg:getE x.h a=0)(h0:0<=i)(h1:i<(getH x.h a).n)(b0:0<=b)(b1:b<18446744073709551616):Lens (n+1) { x with h:=setV x.h a i b }:=by
 obtain ⟨h2,h3⟩:=zv2 hg h0 h1;have e:setV x.h a i b={ x.h with words:=zaI x.h.words (a+1+i) [b] }:=by unfold setV;exact if_pos h2
 rw [e];have hl:(zaI x.h.words (a+1+i) [b]).length=x.h.words.length:=zfS (l:=[b]) h3
 refine ⟨h.conf,?_,h.pages,h.st,h.wk,by have:=h.stn;show x.st.length<=_;omega,by have:=h.wkn;show x.wk.length<=_;omega,fun g hg=>by have:=h.pins g hg;omega⟩
 show ((zaI x.h.words (a+1+i) [b]).length:Int)=x.h.np*x.h.pw
 rw [hl];exact h.words
theorem zy6{n:Nat}{x:Wd}(h:Lens n x){i:Nat}{g:Pg}{p:Int}(hg:x.h.pages[i]?=some g)(hp:(0<g.pins/\p=g.pins-1)\/p=g.pins+1):Lens (n+1) { x with h:={ x.h with pages:=x.h.pages.set i ⟨g.kind,g.space,g.used,p⟩ } }:=by
 have h1:=h.pins g (qa0 hg);refine ⟨h.conf,h.words,?_,h.st,h.wk,by have:=h.stn;show x.st.length<=_;omega,by have:=h.wkn;show x.wk.length<=_;omega,fun f hf=>?_⟩
 . show ((x.h.pages.set i _).length:Int)=x.h.np
   rw [List.length_set];exact h.pages
 . rcases List.mem_or_eq_of_mem_set hf with h2 | rfl
   . have:=h.pins f h2;omega
   . show 0<=p/\p<=((n+1:Nat):Int);omega
theorem zxN{n:Nat}{x:Wd}(h:Lens n x){i:Nat}{r:Int}(b:Bool)(hr:x.st[i]?=some r):Lens (n+1) ⟨x.h,x.st.take i++x.st.drop (i+1),if b then x.wk++[r] else x.wk⟩:=by
 have hrb:=h.st r (qa0 hr);refine ⟨h.conf,h.words,h.pages,fun y hy=>?_,fun y hy=>?_,?_,?_,fun g hg=>by have:=h.pins g hg;omega⟩
 . rcases qak.1 hy with h2 | h2
   . exact h.st y (qcf h2)
   . exact h.st y (qci h2)
 . cases b with
   | false=>exact h.wk y hy
   | true=>
    rcases qak.1 hy with h2 | h2
    . exact h.wk y h2
    . rw [qaE.1 h2];exact hrb
 . have:=h.stn
   show (x.st.take i++x.st.drop (i+1)).length<=n+1
   rw [qaD,qau,qaK];omega
 . have:=h.wkn
   cases b with
   | false=>show x.wk.length<=_;omega
   | true=>show (x.wk++[r]).length<=_;rw [qaD];simp;omega
theorem zy7{n:Nat}{x:Wd}(h:Lens n x){a:Int}(ha:a∈0::(x.st++x.wk)):Lens (n+1) ⟨x.h,x.st++[a],x.wk⟩:=by
 have hab:=mem_u64 h.st h.wk ha;refine ⟨h.conf,h.words,h.pages,fun y hy=>?_,h.wk,?_,by have:=h.wkn;show x.wk.length<=_;omega,fun g hg=>by have:=h.pins g hg;omega⟩
 . rcases qak.1 hy with h2 | h2
   . exact h.st y h2
   . rw [qaE.1 h2];exact hab
 . have:=h.stn
   show (x.st++[a]).length<=_
   rw [qaD];simp;omega
def zvt:Prop:=∀ (n:Nat) (x:Wd) (k l m:Int),n<=400->Made n x->Lens n x->1<=k->k<=3->0<=l->l<=100->0<=m->m<4096->zcQ x.h k l m=0->Lens (n+1) (putV x k l m)
def zkP:Prop:=∀ (n:Nat) (x:Wd),n<=400->Made n x->Lens n x->zgn x.h x.st x.wk=0->Lens (n+1) ⟨ztV x.h x.st x.wk,ztT x.h x.st,ztU x.h x.st x.wk⟩
theorem zy8(hP:zvt)(hC:zkP):∀ n x,Made n x->n<=400->Lens n x:=by
 intro n x hm;induction hm with
 | empty pw np h1 h2=>exact fun _=>zvV h1 h2
 | step n x y hm hs ih=>
  intro hn;have h:=ih (by omega)
  cases hs with
  | none=>exact h.up
  | put k l m h1 h2 h3 h4 h5 h6 h7=>exact hP n x k l m (by omega) hm h h1 h2 h3 h4 h5 h6 h7
  | link a i b h1 h2 h3 h4 h5 h6 h7=>exact zxM h h2 h3 h4 h5 h6
  | pin a i g p h1 h2 h3 h4 h5=>exact zy6 h h4 (by rcases h5 with h5 | h5;exact Or.inl h5;exact Or.inr h5.1)
  | drop i r b h1=>exact zxN h b h1
  | collect h1=>exact hC n x (by omega) hm h h1
  | dup a h1=>exact zy7 h h1
def PinL(B:Int)(ps:List Pg):Prop:=∀ g∈ps,0<=g.pins/\g.pins<=B
theorem PinL.nil(B:Int):PinL B []:=fun g h=>by cases h
theorem PinL.set{B:Int}{ps:List Pg}(h:PinL B ps){g:Pg}(hg:0<=g.pins/\g.pins<=B)(i:Nat):PinL B (ps.set i g):=fun f hf=>by
 rcases List.mem_or_eq_of_mem_set hf with h2 | rfl
 . exact h f h2
 . exact hg
theorem PinL.getD{B:Int}{ps:List Pg}(h:PinL B ps)(hB:0<=B)(i:Nat):0<=(ps.getD i Pg.zero).pins/\(ps.getD i Pg.zero).pins<=B:=by
 rw [qax];cases e:ps[i]? with
 | none=>exact ⟨qb6 _,hB⟩
 | some g=>exact h g (qa0 e)
theorem PinL.use{B:Int}{ps:List Pg}(h:PinL B ps)(hB:0<=B)(j:Nat)(n:Int):PinL B (zgS ps j n) :=
 h.set (g:=⟨(ps.getD j Pg.zero).kind,(ps.getD j Pg.zero).space,(ps.getD j Pg.zero).used+n,(ps.getD j Pg.zero).pins⟩) (h.getD hB j) j
theorem PinL.puts{B:Int}{b:Pg}(hb:0<=b.pins/\b.pins<=B)(k:Nat)(ps:List Pg)(i:Nat)(h:PinL B ps):PinL B (put ps i k b):=fun g hg=>by
 unfold put at hg;rcases qak.1 hg with h1 | h1
 . rcases qak.1 h1 with h2 | h2
   . exact h g (qcf h2)
   . obtain ⟨-,rfl⟩:=List.mem_replicate.1 h2;exact hb
 . exact h g (qci h1)
theorem PinL.take{B:Int}{ps:List Pg}(h:PinL B ps)(hB:0<=B)(i k:Int){a b:Pg}(ha:a.pins=0)(hb:b.pins=0):PinL B (zhj ps i k a b):=by
 unfold zhj;split
 . split
   . exact (PinL.puts (by rw [hb];omega) _ _ _ h).set (by rw [ha];omega) _
   . exact PinL.nil B
 . exact PinL.nil B
theorem PinL.spc{B:Int}{ps:List Pg}(h:PinL B ps)(i k:Nat)(sp:Int):PinL B (spc ps i k sp):=fun g hg=>by
 obtain ⟨j,hj,rfl⟩:=List.mem_mapIdx.1 hg;have:=h ps[j] (qcp hj)
 split <;> exact this
theorem zxi{B:Int}(hB:0<=B){x:Wk}(h:PinL B x.h.pages)(a:Int):PinL B (evW x a).h.pages:=by
 unfold evW;split
 . exact h
 . exact h
 . exact h
 . exact h.spc _ _ _
 . show PinL B (zgS (plPs x (evN x a)) _ _)
   refine PinL.use ?_ hB _ _;unfold plPs;split
   . exact h
   . unfold zb6;split
     . exact h.take hB _ _ rfl rfl
     . exact PinL.nil B
 . exact PinL.nil B
theorem zvJ{B:Int}(hB:0<=B){x:Wk}(h:PinL B x.h.pages)(p:Int):PinL B (zdq x p).h.pages:=zxi hB h _
theorem zuL{B:Int}(hB:0<=B):∀ (l:List Int) (x:Wk) (A:Int),PinL B x.h.pages->PinL B (stGo x A l).1.h.pages
 | [],_,_,h=>h
 | i::r,x,A,h=>by
  rw [stGo];split
  . exact zuL hB r _ A (zvJ hB h _)
  . exact PinL.nil B
theorem zuM{B:Int}(hB:0<=B):∀ (f:Nat) (x:Wk),PinL B x.h.pages->PinL B (allV f x).1.h.pages
 | 0,_,h=>h
 | f+1,x,h=>by
  unfold allV;split
  . exact h
  . split
    . exact zuM hB f _ (zuL hB _ x _ h)
    . exact PinL.nil B
theorem zq4{B:Int}(hB:0<=B):∀ (rs:List Int) (x:Wk) (acc:List Int),PinL B x.h.pages->PinL B (zba x acc rs).1.h.pages
 | [],_,_,h=>h
 | r::rs,x,acc,h=>by
  rw [zba];split
  . exact zq4 hB rs _ _ (zxi hB h r)
  . exact PinL.nil B
theorem zxj{B:Int}{h:Hp}(hp:PinL B h.pages):PinL B (zbB h).h.pages:=fun g hg=>by
 obtain ⟨f,hf,rfl⟩:=qav.1 (show g∈List.map _ h.pages from hg)
 have:=hp f hf
 split <;> exact this
theorem zmG:∀ (l:List Int) (x:Wk),(l.foldl zaw x).h.pages=x.h.pages/\(l.foldl zaw x).h.pw=x.h.pw/\(l.foldl zaw x).h.np=x.h.np
 | [],_=>⟨rfl,rfl,rfl⟩
 | a::l,x=>by
  obtain ⟨e1,e2,e3⟩:=zmG l (zaw x a);obtain ⟨f1,f2,f3,-⟩:=zkx x a;exact ⟨e1.trans f3,e2.trans f1,e3.trans f2⟩
theorem zpn{B:Int}(hB:0<=B){x:Wk}(h:PinL B x.h.pages):∀ k,PinL B (frPs x k)
 | 0=>h
 | k+1=>by
  rw [frPs];split
  . exact (zpn hB h k).set ⟨qb6 _,hB⟩ k
  . exact zpn hB h k
theorem zzB(n:Nat):0<=tgtV n/\tgtV n<18446744073709551616:=by
 unfold tgtV;split
 . rename_i h;have:=zrb h
   omega
 . omega
theorem evA_in{h:Hp}{x:Wk}(I:Inv h x){a:Int}(ha:0<=a/\a<18446744073709551616)(he:evE x a=0):0<=evA x a/\evA x a<18446744073709551616:=by
 have I2:=(I.forward he).1;unfold evA;split
 . exact ha
 . exact zzB _
 . exact ha
 . exact ha
 . rename_i h7;have hq:plA x (evN x a)∈(evW x a).queue:=by
    have e:evW x a=zbi x a:=by unfold evW;rw [h7];rfl
    rw [e];exact qay _ (qaE.2 rfl)
   have:=I2.queue_bd hq
   omega
 . omega
theorem zuH{h:Hp}:∀ (rs:List Int) (x:Wk) (acc:List Int),Inv h x->WB rs->WB acc->WB (zba x acc rs).2.1
 | [],_,_,_,_,h=>h
 | r::rs,x,acc,I,hl,ha=>by
  rw [zba];by_cases he:evE x r=0
  . rw [if_pos he];refine zuH rs _ _ (I.forward he).1 (fun q hq=>hl q (qaF _ hq)) (fun q hq=>?_)
    rcases qak.1 hq with h1 | h1
    . exact ha q h1
    . rw [qaE.1 h1];exact evA_in I (hl r (qbg ..)) he
  . rw [if_neg he];exact WB.nil
theorem zqa:zkP:=by
 intro n x hn hm L hc;have hE:okH x.h=true/\(zqb x.h x.st).2.2=0/\(znZ x.h x.st).2=0:=by
  unfold zgn at hc;split at hc
  . rename_i h1;split at hc
    . split at hc
      . rename_i h3;exact ⟨h1,h3,hc⟩
      . rename_i h3;exact absurd hc h3
    . exact absurd hc (by decide)
  . exact absurd hc (by decide)
 obtain ⟨h1,h2,h3⟩:=hE;obtain ⟨-,hr⟩:=zpg x.st (zbB x.h) [] (zgp h1) L.st;obtain ⟨I7,L7,e7⟩:=hr h2;have hsc7:(zba (zbB x.h) [] x.st).1.sc=((0:Nat):Int):=L7.sc
 obtain ⟨-,ha⟩:=zyd ((zaf x.h).length+1) (zba (zbB x.h) [] x.st).1 0 I7 hsc7 (qbe _) (by omega)
 have I8:Inv x.h (znZ x.h x.st).1:=ha h3;have I9:Inv x.h (zcD x.h x.st x.wk):=I8.reports _ _ _ _ _ _ _;have hB:(0:Int)<=n:=by omega
 have p8:PinL n (znZ x.h x.st).1.h.pages:=zuM hB _ _ (zq4 hB _ _ _ (zxj L.pins));obtain ⟨f1,f2,f3⟩:=zmG (zcD x.h x.st x.wk).old (zcD x.h x.st x.wk);have hfl:=I9.fill;have hpl:(zc0 (zcD x.h x.st x.wk)).h.pages.length=x.h.pages.length:=by
  rw [show (zc0 (zcD x.h x.st x.wk)).h.pages=(zcD x.h x.st x.wk).h.pages from f1];exact I9.pl
 have hpw:(zc0 (zcD x.h x.st x.wk)).h.pw=x.h.pw:=(show (zc0 (zcD x.h x.st x.wk)).h.pw=(zcD x.h x.st x.wk).h.pw from f2).trans I9.pw
 have hnp:(zc0 (zcD x.h x.st x.wk)).h.np=x.h.np:=(show (zc0 (zcD x.h x.st x.wk)).h.np=(zcD x.h x.st x.wk).h.np from f3).trans I9.np
 have hcf:=zaj L.conf;have hfw:=zp0 (zc0 (zcD x.h x.st x.wk)) (by rw [hpw];omega) (by rw [hfl,hpl,hpw,L.pages];exact L.words) (zc0 (zcD x.h x.st x.wk)).h.pages.length (qao _)
 refine ⟨?_,?_,?_,?_,fun a ha=>?_,?_,?_,?_⟩
 . show confB (zc0 (zcD x.h x.st x.wk)).h.pw (zc0 (zcD x.h x.st x.wk)).h.np=true
   rw [hpw,hnp];exact L.conf
 . show ((frWs (zc0 (zcD x.h x.st x.wk)) (zc0 (zcD x.h x.st x.wk)).h.pages.length).length:Int)=(zc0 (zcD x.h x.st x.wk)).h.np*(zc0 (zcD x.h x.st x.wk)).h.pw
   rw [hfw,hfl,hpw,hnp];exact L.words
 . show ((frPs (zc0 (zcD x.h x.st x.wk)) (zc0 (zcD x.h x.st x.wk)).h.pages.length).length:Int)=(zc0 (zcD x.h x.st x.wk)).h.np
   rw [zp1,hpl,hnp];exact L.pages
 . exact zuH x.st (zbB x.h) [] (zgp h1) L.st WB.nil
 . obtain ⟨b,hb,rfl⟩:=qav.1 ha;have hbb:=L.wk b hb;unfold zk4 zoX;split
   . omega
   . split
     . exact hbb
     . exact zzB _
 . have:=L.stn
   show (zba (zbB x.h) [] x.st).2.1.length<=_
   rw [e7];simp;omega
 . have:=L.wkn
   show (List.map _ x.wk).length<=_
   rw [qaj];omega
 . intro g hg;have:=zpn hB (x:=zc0 (zcD x.h x.st x.wk)) (by rw [show (zc0 (zcD x.h x.st x.wk)).h.pages=(zcD x.h x.st x.wk).h.pages from f1];exact p8) _ g hg
   omega
theorem zxF{pw n:Int}(h1:16<=pw)(h2:pw<=64)(h3:pw / 4<n)(h4:n<=4*pw):zeS pw n=(n+pw-1) / pw:=by
 have hd:∀ k:Int,(k-1)*pw<n->n<=k*pw->(n+pw-1) / pw=k:=by
  intro k a b;have e1:(k-1)*pw=k*pw-pw:=by rw [Int.sub_mul,qbi]
  have e2:(n+pw-1)=(n+pw-1-k*pw)+k*pw:=by omega
  rw [e2,Int.add_mul_ediv_right _ _ (by omega),Int.ediv_eq_zero_of_lt (by omega) (by omega)];omega
 unfold zeS;rw [if_neg (by omega)]
 split
 . rw [hd 1 (by omega) (by omega)]
 . split
   . rw [hd 2 (by omega) (by omega)]
   . split
     . rw [hd 3 (by omega) (by omega)]
     . rw [hd 4 (by omega) (by omega)]
def zb8(n:Int):Bool:=decide (n=0\/n=1)
def zrX(x:Pg):Bool:=decide (x.space=0/\x.used=0/\x.pins=0)
def zdj(pw:Int)(x:Pg):Bool:=zb8 x.space&&decide (0<=x.used/\x.used<=pw)&&zf1 x.pins
def zcl(pw np:Int)(ps:List Pg):Nat->Int->Bool
 | 0,_=>false
 | m+1,b=>if (ps.getD m Pg.zero).kind=2 then decide (b<zat pw np (ps.getD m Pg.zero).used) else zcl pw np ps m (b+1)
def zf6(pw np:Int)(ps:List Pg)(i:Nat):Bool:=zcl pw np ps i 1
def zd6(pw np:Int)(ps:List Pg)(i:Nat)(x:Pg):Bool:=decide (x.used=0/\x.pins=0)&&zf6 pw np ps i
theorem zy3(pw np n:Int):zat pw np n<=4:=by
 unfold zat zeS;repeat' split
 all_goals omega
def zcz(pw np:Int)(ps:List Pg)(i:Nat)(x:Pg):Bool :=
 zb8 x.space&&decide (1<=zat pw np x.used)&&zf1 x.pins&&decide ((i:Int)+zat pw np x.used<=ps.length)&&zbO x.space ((ps.drop (i+1)).take ((zat pw np x.used).toNat-1))
def zbn(pw np:Int)(ps:List Pg)(i:Nat)(x:Pg):Bool :=
 if x.kind=0 then zrX x else if x.kind=1 then zdj pw x else if x.kind=2 then zcz pw np ps i x else if x.kind=3 then zd6 pw np ps i x else false
def zaE(pw np:Int)(ps:List Pg):Nat->List Pg->Bool
 | _,[]=>true
 | i,x::r=>zbn pw np ps i x&&zaE pw np ps (i+1) r
def zbt(pw np:Int)(ps:List Pg):Bool:=zaE pw np ps 0 ps
theorem zvA{pw np:Int}{ps:List Pg}{i:Nat}{x:Pg}(h:ps[i]?=some x):zaE pw np ps i (ps.drop i)=(zbn pw np ps i x&&zaE pw np ps (i+1) (ps.drop (i+1))):=by
 obtain ⟨hi,rfl⟩:=qap.1 h;rw [qaU hi,zaE]
theorem zwZ{pw np:Int}{ps:List Pg}{i:Nat}(h:ps.length<=i):zaE pw np ps i (ps.drop i)=true:=by
 rw [qbx h,zaE]
def zjp(pw np:Int)(nw:Nat)(ps:List Pg)(sp b:Int):Bool :=
 confB pw np&&decide ((nw:Int)=np*pw)&&decide ((ps.length:Int)=np)&&zb8 sp&&zgo ps b&&zbt pw np ps
theorem zuJ{ps:List Pg}{i k:Nat}{x y:Pg}(h:i+k<=ps.length)(h1:1<=k):(put ps i k y).set i x=put (ps.set i x) (i+1) (k-1) y:=by
 have hl:(ps.set i x).length=ps.length:=List.length_set
 apply qbw
 intro j;rw [qa1];have hp:(put ps i k y).length=ps.length:=zfb h
 by_cases hj:i=j
 . rw [if_pos hj,if_pos (by omega),zdO (by omega) (Or.inr (by omega)),qa1,if_pos hj,if_pos (by omega)]
 . rw [if_neg hj];by_cases h2:i+1<=j/\j<i+k
   . rw [zol h (by omega) (by omega),zol (by omega) h2.1 (by omega)]
   . rw [zdO h (by omega),zdO (by omega) (by omega),qa1,if_neg hj]
theorem zrP:∀ l:List Pg,(zbe l=0)=((l.all fun x=>decide (x.kind=0))=true)
 | []=>by simp [zbe]
 | x::r=>by
  rw [qb0,zbe,qae,<-zrP r,qab];by_cases h:x.kind=0
  . rw [if_pos h];simp [h]
  . rw [if_neg h];simp [h]
theorem zd7{sp:Int}:zb8 sp=true↔0<=sp/\sp<=1:=by
 unfold zb8;rw [qab];omega
theorem zhX(pw np:Int)(ps:List Pg):∀ (l:List Pg) (i:Nat),zaE pw np ps i l=true↔∀ j x,l[j]?=some x->zbn pw np ps (i+j) x=true
 | [],i=>by simp [zaE]
 | y::r,i=>by
  rw [zaE,qae,zhX pw np ps r (i+1)];constructor
  . rintro ⟨h1,h2⟩ j x hx;cases j with
    | zero=>simp at hx;subst hx;exact h1
    | succ j=>rw [qbv]at hx;have:=h2 j x hx;rwa [show i+1+j=i+(j+1) by omega]at this
  . intro h;refine ⟨h 0 y rfl,fun j x hx=>?_⟩
    have:=h (j+1) x (by rw [qbv];exact hx)
    rwa [show i+(j+1)=i+1+j by omega]at this
theorem za0{pw np:Int}{ps:List Pg}:zbt pw np ps=true↔∀ i x,ps[i]?=some x->zbn pw np ps i x=true:=by
 unfold zbt;rw [zhX];simp only [qaH]
theorem zbW{sp:Int}{ps:List Pg}{i m:Nat}:zbO sp ((ps.drop i).take m)=true↔∀ t,i<=t->t<i+m->∀ z,ps[t]?=some z->z.kind=3/\z.space=sp:=by
 unfold zbO;rw [qaN];constructor
 . intro h t h1 h2 z hz;have hm:z∈(ps.drop i).take m:=by
    refine qa0 (i:=t-i) ?_
    rw [qa7,if_pos (by omega),qbb,show i+(t-i)=t by omega];exact hz
   exact qat (h z hm)
 . intro h z hz;obtain ⟨j,hj⟩:=List.getElem?_of_mem hz;rw [qa7]at hj;split at hj
   . rename_i hjm;rw [qbb]at hj;exact qad (h (i+j) (by omega) (by omega) z hj)
   . cases hj
theorem zb9(pw np:Int)(ps:List Pg):∀ (t:Nat) (b:Int),zcl pw np ps t b=true↔∃ l,l<t/\(ps.getD l Pg.zero).kind=2/\(∀ m,l<m->m<t->¬(ps.getD m Pg.zero).kind=2)/\b+(t-1-l:Int)<zat pw np (ps.getD l Pg.zero).used
 | 0,b=>by
  rw [zcl];constructor
  . intro h;cases h
  . rintro ⟨l,h,-⟩;omega
 | t+1,b=>by
  rw [zcl];by_cases h2:(ps.getD t Pg.zero).kind=2
  . rw [if_pos h2];constructor
    . intro h;have:=qat h
      exact ⟨t,by omega,h2,fun m a c=>by omega,by omega⟩
    . rintro ⟨l,h3,h4,h5,h6⟩;by_cases hl:l=t
      . subst hl;exact qad (by omega)
      . exact absurd h2 (h5 t (by omega) (by omega))
  . rw [if_neg h2,zb9 pw np ps t (b+1)];constructor
    . rintro ⟨l,h3,h4,h5,h6⟩;refine ⟨l,by omega,h4,fun m a c=>?_,by omega⟩
      by_cases hm:m=t
      . subst hm;exact h2
      . exact h5 m a (by omega)
    . rintro ⟨l,h3,h4,h5,h6⟩;have hl:l≠t:=fun e=>h2 (e ▸ h4)
      exact ⟨l,by omega,h4,fun m a c=>h5 m a (by omega),by omega⟩
theorem zlO{pw np:Int}{ps:List Pg}{j:Nat}{x y:Pg}(h:zbt pw np ps=true)(hy:ps[j]?=some y)(hk:y.kind=0\/y.kind=1)(hx:x.kind=1)(hs:zdj pw x=true):zbt pw np (ps.set j x)=true:=by
 rw [za0]at h ⊢
 have hjl:=(qap.1 hy).1;have hget:∀ t,(ps.set j x)[t]?=if j=t then some x else ps[t]?:=fun t=>by
  rw [qa1];by_cases e:j=t
  . subst e;rw [if_pos rfl,if_pos rfl,if_pos hjl]
  . rw [if_neg e,if_neg e]
 have hD:∀ t,¬j=t->(ps.set j x).getD t Pg.zero=ps.getD t Pg.zero:=fun t ht=>by rw [qax,qax,hget,if_neg ht]
 have hDj:(ps.set j x).getD j Pg.zero=x:=zam (by rw [hget,if_pos rfl])
 have hDy:ps.getD j Pg.zero=y:=zam hy
 have hk2:∀ t,(((ps.set j x).getD t Pg.zero).kind=2↔(ps.getD t Pg.zero).kind=2):=fun t=>by
  by_cases ht:j=t
  . subst ht;rw [hDj,hDy];constructor <;> intro c <;> omega
  . rw [hD t ht]
 intro i z hz;rw [hget]at hz;split at hz
 . cases hz;unfold zbn;rw [if_neg (by omega),if_pos hx]
   exact hs
 . rename_i hji;have hp:=h i z hz;unfold zbn at hp ⊢
   split
   . rename_i k0;rw [if_pos k0]at hp;exact hp
   . rename_i k0;rw [if_neg k0]at hp;split
     . rename_i k1;rw [if_pos k1]at hp;exact hp
     . rename_i k1;rw [if_neg k1]at hp;split
       . rename_i k2;rw [if_pos k2]at hp;unfold zcz at hp ⊢
         rw [List.length_set];rw [qae]at hp ⊢
         refine ⟨hp.1,?_⟩;rw [zbW] at *
         intro t h1 h2 z' hz'
         rw [hget]at hz'
         split at hz'
         . rename_i e;subst e;have:=hp.2 j h1 h2 y hy
           omega
         . exact hp.2 t h1 h2 z' hz'
       . rename_i k2;rw [if_neg k2]at hp;split
         . rename_i k3;rw [if_pos k3]at hp;unfold zd6 zf6 at hp ⊢
           rw [qae]at hp ⊢
           refine ⟨hp.1,?_⟩;obtain ⟨l,h1,h2,h3,h4⟩:=(zb9 pw np ps i 1).1 hp.2;have hlj:¬j=l:=fun e=>by subst e;rw [hDy]at h2;omega
           exact (zb9 pw np _ i 1).2 ⟨l,h1,(hk2 l).2 h2,fun m a c hh=>h3 m a c ((hk2 m).1 hh),by rw [hD l hlj];exact h4⟩
         . rename_i k3;rw [if_neg k3]at hp;cases hp
theorem zsR{pw np:Int}{ps:List Pg}{i k:Nat}{sp n:Int}(h:zbt pw np ps=true)(hf:zcB ps i k=true)(hl:i+k<=ps.length)(h1:1<=k)(hs:zb8 sp=true)(hn:zat pw np n=k):
 zbt pw np (put (ps.set i ⟨2,sp,n,0⟩) (i+1) (k-1) ⟨3,sp,0,0⟩)=true:=by
 rw [za0]at h ⊢
 have hfree:∀ t,i<=t->t<i+k->∀ z,ps[t]?=some z->z.kind=0:=fun t a c z hz=>by
  have hz':z∈(ps.drop i).take k:=by
   refine qa0 (i:=t-i) ?_
   rw [qa7,if_pos (by omega),qbb,show i+(t-i)=t by omega];exact hz
  unfold zcB at hf;exact qat (qaN.1 hf z hz')
 obtain ⟨qs,hqs⟩:∃ qs,put (ps.set i ⟨2,sp,n,0⟩) (i+1) (k-1) ⟨3,sp,0,0⟩=qs:=⟨_,rfl⟩
 rw [hqs];have hql:qs.length=ps.length:=by rw [<-hqs,zfb (by rw [List.length_set];omega),List.length_set]
 have hget:∀ t,qs[t]?=if t=i then some ⟨2,sp,n,0⟩ else if i<=t/\t<i+k then some ⟨3,sp,0,0⟩ else ps[t]?:=fun t=>by
  rw [<-hqs];split
  . rename_i e;subst e;rw [zdO (by rw [List.length_set];omega) (Or.inr (by omega)),qa1,if_pos rfl,if_pos (by omega)]
  . rename_i e;split
    . rename_i hr;rw [zol (by rw [List.length_set];omega) (by omega) (by omega)]
    . rw [zdO (by rw [List.length_set];omega) (by omega),qa1,if_neg (by omega)]
 have hin:∀ t,i<=t->t<i+k->∃ z,ps[t]?=some z:=fun t a c=>⟨_,qaq (show t<ps.length by omega)⟩
 have hD:∀ t,¬(i<=t/\t<i+k)->qs.getD t Pg.zero=ps.getD t Pg.zero:=fun t ht=>by rw [qax,qax,hget,if_neg (by omega),if_neg ht]
 have hDi:qs.getD i Pg.zero=⟨2,sp,n,0⟩:=zam (by rw [hget,if_pos rfl])
 have hDt:∀ t,i<t->t<i+k->qs.getD t Pg.zero=⟨3,sp,0,0⟩:=fun t a c=>zam (by rw [hget,if_neg (by omega),if_pos ⟨by omega,c⟩])
 have hD0:∀ t,i<=t->t<i+k->(ps.getD t Pg.zero).kind=0:=fun t a c=>by
  obtain ⟨z,hz⟩:=hin t a c;rw [zam hz];exact hfree t a c z hz
 intro t z hz;rw [hget]at hz;split at hz
 . rename_i e;subst e;cases hz;unfold zbn;rw [if_neg (show ¬(2:Int)=0 by decide),if_neg (show ¬(2:Int)=1 by decide),if_pos rfl]
   unfold zcz;simp only
   rw [hs,hn,hql,qad (show (1:Int)<=k by omega),qad (show (t:Int)+k<=ps.length by omega),show zf1 0=true from rfl,qaY,qaY,qaY,qaY,zbW]
   intro u a c z hz;rw [hget,if_neg (by omega),if_pos (by omega)]at hz
   cases hz;exact ⟨rfl,rfl⟩
 . rename_i e;split at hz
   . rename_i hr;cases hz;unfold zbn;rw [if_neg (show ¬(3:Int)=0 by decide),if_neg (show ¬(3:Int)=1 by decide),if_neg (show ¬(3:Int)=2 by decide),if_pos rfl]
     unfold zd6 zf6;rw [show decide ((0:Int)=0/\(0:Int)=0)=true from rfl,qaY,zb9]
     refine ⟨i,by omega,by rw [hDi],fun m a c=>?_,?_⟩
     . rw [hDt m a (by omega)];simp
     . rw [hDi];simp only;rw [hn];omega
   . rename_i hr;have hp:=h t z hz;unfold zbn at hp ⊢
     split
     . rename_i k0;rw [if_pos k0]at hp;exact hp
     . rename_i k0;rw [if_neg k0]at hp;split
       . rename_i k1;rw [if_pos k1]at hp;exact hp
       . rename_i k1;rw [if_neg k1]at hp;split
         . rename_i k2;rw [if_pos k2]at hp;unfold zcz at hp ⊢
           rw [hql];rw [qae]at hp ⊢
           refine ⟨hp.1,?_⟩;rw [zbW] at *
           intro u a c z' hz'
           by_cases hu:i<=u/\u<i+k
           . obtain ⟨y,hy⟩:=hin u hu.1 hu.2;have h3:=(hp.2 u a c y hy).1;have h0:=hfree u hu.1 hu.2 y hy;omega
           . rw [hget,if_neg (by omega),if_neg hu]at hz'
             exact hp.2 u a c z' hz'
         . rename_i k2;rw [if_neg k2]at hp;split
           . rename_i k3;rw [if_pos k3]at hp;unfold zd6 zf6 at hp ⊢
             rw [qae]at hp ⊢
             refine ⟨hp.1,?_⟩;obtain ⟨l,h2,h3,h4,h5⟩:=(zb9 pw np ps t 1).1 hp.2;have hlo:¬(i<=l/\l<i+k):=fun c=>by have:=hD0 l c.1 c.2;omega
             have htl:t<ps.length:=(qap.1 hz).1;have hlz:ps[l]?=some (ps[l]'(by omega)):=qaq _
             have hpl:=h l _ hlz;rw [zam hlz]at h3 h5;unfold zbn at hpl;rw [if_neg (by omega),if_neg (by omega),if_pos h3]at hpl
             unfold zcz at hpl;rw [qae,zbW]at hpl;have hnot:∀ m,l<m->m<t->¬(i<=m/\m<i+k):=fun m a c hc=>by
              obtain ⟨y,hy⟩:=hin m hc.1 hc.2;have q3:=(hpl.2 m (by omega) (by omega) y hy).1
              have q0:=hfree m hc.1 hc.2 y hy;omega
             refine (zb9 pw np qs t 1).2 ⟨l,h2,by rw [hD l hlo,zam hlz];exact h3,fun m a c=>by rw [hD m (hnot m a c)];exact h4 m a c,by rw [hD l hlo,zam hlz];exact h5⟩
           . rename_i k3;rw [if_neg k3]at hp;cases hp
theorem zh6(pw np:Int)(ps:List Pg):∀ (i:Nat) (b:Int),1<=b->(zcl pw np ps i b=true↔b<=zfR pw np ps i)
 | 0,b,hb=>by
  rw [zcl,zfR];constructor
  . intro h;cases h
  . intro h;omega
 | i+1,b,hb=>by
  rw [zcl,zfR];by_cases h2:(ps.getD i Pg.zero).kind=2
  . rw [if_pos h2,if_pos h2,qab];omega
  . rw [if_neg h2,if_neg h2,zh6 pw np ps i (b+1) (by omega)];omega
theorem zlP{pw np:Int}{ps:List Pg}(h:zaG pw np ps 0=true):zbt pw np ps=true:=by
 rw [za0];intro i x hx;have hi:i<ps.length:=(qap.1 hx).1;have hp:=zl4 h i (by omega)
 obtain ⟨_,rfl⟩:=qap.1 hx;rw [qaU hi,zaG]at hp;generalize hX:ps[i]=x at *
 cases hs:zcr pw np x (ps.drop (i+1)) (zfR pw np ps i) with
 | none=>rw [hs]at hp;cases hp
 | some d=>
  unfold zcr at hs;split at hs
  . cases hs
  . rename_i hA;have hsp:zb8 x.space=true:=zd7.2 ⟨by omega,by omega⟩
    have hpn:zf1 x.pins=true:=by
     cases hp':zf1 x.pins
     . exact absurd (Or.inr (Or.inr (Or.inr hp'))) hA
     . rfl
    unfold zbn;split
    . rename_i k0;rw [if_pos k0]at hs;split at hs
      . rename_i e;rw [e];rfl
      . cases hs
    . rename_i k0;rw [if_neg k0]at hs;split
      . rename_i k1;rw [if_pos k1]at hs;split at hs
        . cases hs
        . unfold zdj;rw [hsp,hpn,qad (show 0<=x.used/\x.used<=pw by omega)];rfl
      . rename_i k1;rw [if_neg k1]at hs;split
        . rename_i k2;rw [if_pos k2]at hs;split at hs
          . cases hs
          . rename_i hB;have hn1:1<=zat pw np x.used:=by omega
            obtain ⟨t1,t2⟩:=(zlq x.space (ps.drop (i+1)) ((zat pw np x.used).toNat-1)).1 (by omega)
            rw [qaK]at t1;unfold zcz;rw [hsp,hpn,qad hn1,qad (show (i:Int)+zat pw np x.used<=ps.length by omega),t2];rfl
        . rename_i k2;rw [if_neg k2]at hs;split
          . rename_i k3;rw [if_pos k3]at hs;split at hs
            . rename_i e;unfold zd6;rw [qad e,qaY];unfold zf6;rw [zh6 pw np ps i 1 (by omega)]
              have:x.kind=3↔0<zfR pw np ps i:=Classical.not_not.1 fun c=>hA (Or.inl c)
              have:=this.1 k3
              omega
            . cases hs
          . rename_i k3;rw [if_neg k3]at hs;cases hs
theorem zf0{pw np:Int}{ps:List Pg}(h:zbt pw np ps=true):∀ (k i:Nat),i+k=ps.length->zaG pw np (ps.drop i) (zfR pw np ps i)=true
 | 0,i,hi=>by rw [qbk (by omega)];rfl
 | k+1,i,hi=>by
  have ih:=zf0 h k (i+1) (by omega)
  have hlt:i<ps.length:=by omega
  have hx:ps[i]?=some (ps[i]'hlt):=qaq _
  rw [za0]at h;have hp:=h i _ hx;rw [qaU hlt,zaG];generalize ps[i]'hlt=x at *
  have hdue:0<zfR pw np ps i->x.kind=3/\0<=x.space/\x.space<=1:=fun hd=>by
   obtain ⟨l,h1,h2,-,h4⟩:=(zb9 pw np ps i 1).1 ((zh6 pw np ps i 1 (by omega)).2 (by omega))
   have hl:ps[l]?=some (ps[l]'(by omega)):=qaq _
   have hpl:=h l _ hl;rw [zam hl]at h2 h4;unfold zbn at hpl;rw [if_neg (by omega),if_neg (by omega),if_pos h2]at hpl
   unfold zcz at hpl;simp only [qae]at hpl;have ht:=(zbW.1 hpl.2) i (by omega) (by omega) x hx
   have hs:=zd7.1 hpl.1.1.1.1;exact ⟨ht.1,by omega,by omega⟩
  have key:zcr pw np x (ps.drop (i+1)) (zfR pw np ps i)≠none:=by
   have h3:x.kind=3->0<zfR pw np ps i/\x.used=0/\x.pins=0:=fun k3=>by
    unfold zbn at hp;rw [if_neg (by omega),if_neg (by omega),if_neg (by omega),if_pos k3]at hp
    unfold zd6 at hp;rw [qae,qab]at hp;have:=(zh6 pw np ps i 1 (by omega)).1 hp.2
    exact ⟨by omega,hp.1⟩
   have hiff:x.kind=3↔0<zfR pw np ps i:=⟨fun k=>(h3 k).1,fun d=>(hdue d).1⟩
   unfold zbn at hp;unfold zcr;split at hp
   . rename_i k0;obtain ⟨a1,a2,a3⟩:=qat hp;have ex:x=Pg.zero:=by cases x;simp only at k0 a1 a2 a3;subst k0 a1 a2 a3;rfl
     rw [if_neg (by rw [a1,a3];rintro (c | c | c | c);exact c hiff;omega;omega;cases c),if_pos k0,if_pos ex]
     exact fun c=>by cases c
   . rename_i k0;split at hp
     . rename_i k1;unfold zdj at hp;simp only [qae,qab]at hp;have hs:=zd7.1 hp.1.1;rw [if_neg (by rintro (c | c | c | c);exact c hiff;omega;omega;rw [hp.2]at c;cases c),if_neg k0,if_pos k1,if_neg (by omega)]
       exact fun c=>by cases c
     . rename_i k1;split at hp
       . rename_i k2;unfold zcz at hp;simp only [qae,qab]at hp;obtain ⟨⟨⟨⟨a1,a2⟩,a3⟩,a4⟩,a5⟩:=hp;have hs:=zd7.1 a1;have ht:=(zlq x.space (ps.drop (i+1)) ((zat pw np x.used).toNat-1)).2 ⟨by rw [qaK];omega,a5⟩
         rw [if_neg (by rintro (c | c | c | c);exact c hiff;omega;omega;rw [a3]at c;cases c),if_neg k0,if_neg k1,if_pos k2,if_neg (by omega)]
         exact fun c=>by cases c
       . rename_i k2;split at hp
         . rename_i k3;obtain ⟨b1,b2,b3⟩:=h3 k3;obtain ⟨-,c1,c2⟩:=hdue b1;rw [if_neg (by rw [b3];rintro (c | c | c | c);exact c hiff;omega;omega;cases c),if_neg k0,if_neg k1,if_neg k2,if_pos k3,if_pos ⟨b2,b3⟩]
           exact fun c=>by cases c
         . cases hp
  cases hs:zcr pw np x (ps.drop (i+1)) (zfR pw np ps i) with
  | none=>exact absurd hs key
  | some d=>
   simp only
   rw [zvi hx hs];exact ih
theorem zkm(pw np:Int)(ps:List Pg):zaG pw np ps 0=zbt pw np ps:=by
 cases h:zbt pw np ps
 . cases h2:zaG pw np ps 0
   . rfl
   . rw [zlP h2]at h;cases h
 . have:=zf0 h ps.length 0 (by omega)
   rwa [qb3]at this
theorem zeG(pw np:Int)(nw:Nat)(ps:List Pg)(sp b:Int):zjp pw np nw ps sp b=zfc pw np nw ps sp b:=by
 unfold zjp zfc;rw [zkm];have:zb8 sp=decide (0<=sp/\sp<=1):=by
  unfold zb8;by_cases h:0<=sp/\sp<=1
  . rw [qad h];exact qad (by omega)
  . rw [qai h];exact qai (by omega)
 rw [this]
theorem zx9{pw np k n m:Int}(h:k=0):zk7 pw np k n m=false:=by
 unfold zk7;simp [h]
theorem zya{pw np k n m:Int}(h:¬k=0):zk7 pw np k n m=(zat pw np (zaP k n m) != -1):=by
 unfold zk7;cases hv:zay k n m
 . rw [zsV hv,zhw (Or.inr (by omega))];rfl
 . by_cases hz:zat pw np (zaP k n m) = -1 <;> simp [h,hz]
structure PlOK7 (h:Hp):Prop where
 conf:confB h.pw h.np=true
 len:(h.pages.length:Int)=h.np
 sp:0<=h.space/\h.space<=1
 bp:h.bump = -1\/∃ K:Nat,∃ x:Pg,h.bump=K/\h.pages[K]?=some x/\x.kind=1/\0<=x.used/\x.used<=h.pw
theorem PlOK7.bump{h:Hp}(hp:PlOK7 h):(h.bump = -1\/0<=h.bump/\h.bump<h.pages.length)/\(¬h.bump = -1->0<=(h.pages.getD h.bump.toNat Pg.zero).used/\(h.pages.getD h.bump.toNat Pg.zero).used<=100000):=by
 obtain ⟨_,k2,_⟩:=zaj hp.conf;rcases hp.bp with h1 | ⟨K,x,h1,h2,-,h3,h4⟩
 . exact ⟨Or.inl h1,fun c=>absurd h1 c⟩
 . have:=(qap.1 h2).1
   rw [h1,qac,zam h2];exact ⟨Or.inr ⟨by omega,by omega⟩,fun _=>⟨h3,by omega⟩⟩
theorem zgr{pw np:Int}{K:Nat}{o:Int}(hc:confB pw np=true)(hk:(K:Int)<np)(h0:0<=o)(h1:o<pw):zmV pw np K o=0/\zbm pw np K o=4096+K*pw+o:=by
 obtain ⟨a,b⟩:=zhE hc (p:=(K:Int)) (o:=o) (qad ⟨by omega,hk,h0,h1⟩)
 exact ⟨b,a⟩
theorem zoo{h:Hp}{nn:Int}(hp:PlOK7 h)(h1:1<=nn)(hn:newB h nn=false):
 ∃ (K:Nat) (x:Pg),h.bump=K/\h.pages[K]?=some x/\(0<=x.used/\x.used<=100000)/\zce h nn=true/\zlT h nn=⟨h.pw,h.np,h.words,h.pages.set K ⟨x.kind,x.space,x.used+nn,x.pins⟩,h.space,K⟩/\zmV h.pw h.np K x.used=0/\zlU h nn=zbm h.pw h.np K x.used:=by
 have hd:=qa4 hn;obtain ⟨_,k2,_⟩:=zaj hp.conf;rcases hp.bp with h2 | ⟨K,x,h2,h3,-,h4,h5⟩
 . exact absurd (Or.inl (by omega)) hd
 . have hK:=(qap.1 h3).1;have hbp:zkC h=x:=by unfold zkC;rw [h2,qac,zam h3]
   have hl:=hp.len;rw [hbp]at hd;obtain ⟨a,b⟩:=zgr (K:=K) (o:=x.used) hp.conf (by omega) h4 (by omega)
   have hJ:zfY h nn=K:=by unfold zfY;rw [hn];exact h2
   have hP:zbS h nn=h.pages:=by unfold zbS;rw [hn];rfl
   refine ⟨K,x,h2,h3,⟨h4,by omega⟩,by unfold zce;rw [hn];rfl,?_,a,?_⟩
   . unfold zlT zgS;rw [hJ,hP,qac,zam h3]
   . unfold zlU;rw [hJ,hP,qac,zam h3,b]
theorem zq0{h:Hp}{nn:Int}(hp:PlOK7 h)(hn:newB h nn=true)(hf:zdJ h=false):
 ∃ (K:Nat),zau h.pages 1=K/\K<h.pages.length/\zjl h.pages K h.space=0/\zb6 h.pages K h.space=h.pages.set K ⟨1,h.space,0,0⟩/\(∃ y,h.pages[K]?=some y/\y.kind=0)/\zce h nn=true/\zlT h nn=⟨h.pw,h.np,h.words,(h.pages.set K ⟨1,h.space,0,0⟩).set K ⟨1,h.space,0+nn,0⟩,h.space,K⟩/\zmV h.pw h.np K 0=0/\zlU h nn=zbm h.pw h.np K 0:=by
 have hd:=qa4 hf;have hF:0<=zau h.pages 1:=by omega
 obtain ⟨-,f1,f2⟩:=zdF hF;obtain ⟨K,hK⟩:=qaP hF;rw [hK]at f1 f2;obtain ⟨y,hy,hy0⟩:=f2 K (by omega) (by omega)
 have hlt:K<h.pages.length:=(qap.1 hy).1;have hfree:zcB h.pages K 1=true:=by
  have:=zcp (ps:=h.pages) (i:=K) (k:=0) (x:=y) (by rw [qa9];exact hy)
  rw [zcY,hy0]at this;simpa using this
 obtain ⟨t1,t2⟩:=zlN (x:=⟨1,h.space,0,0⟩) (y:=Pg.zero) hlt (show K+1<=h.pages.length by omega) hfree
 rw [zuJ (by omega) (by omega),zpm]at t1
 have hps:zb6 h.pages K h.space=h.pages.set K ⟨1,h.space,0,0⟩:=by
  unfold zb6;rw [if_pos hp.sp];exact t1
 have hpe:zjl h.pages K h.space=0:=by unfold zjl;rw [if_pos hp.sp];exact t2
 have hl:=hp.len;obtain ⟨k1,k2,_⟩:=zaj hp.conf;obtain ⟨a,b⟩:=zgr (K:=K) (o:=0) hp.conf (by omega) (by omega) (by omega)
 have hJ:zfY h nn=K:=by unfold zfY;rw [hn];exact hK
 have hP:zbS h nn=h.pages.set K ⟨1,h.space,0,0⟩:=by unfold zbS;rw [hn,if_pos rfl,hK,hps]
 have hg:(h.pages.set K ⟨1,h.space,0,0⟩)[K]?=some ⟨1,h.space,0,0⟩:=by rw [qa1,if_pos rfl,if_pos hlt]
 refine ⟨K,hK,hlt,hpe,hps,⟨y,hy,hy0⟩,by unfold zce;rw [hn,hf];rfl,?_,a,?_⟩
 . unfold zlT zgS;rw [hJ,hP,qac,zam hg]
 . unfold zlU;rw [hJ,hP,qac,zam hg,b]
theorem zvI{h:Hp}{nn:Int}(hn:newB h nn=true)(hf:zdJ h=true):zce h nn=false:=by
 unfold zce;rw [hn,hf];rfl
theorem zs3{h:Hp}{n k:Int}(hp:PlOK7 h)(hk:zat h.pw h.np n=k)(h1:1<=k)(hF:0<=zau h.pages k):
 ∃ (K kk:Nat),k=kk/\zau h.pages k=K/\K+kk<=h.pages.length/\zcB h.pages K kk=true/\zmv h.pw h.np h.pages K h.space n=0/\zgj h.pw h.np h.pages K h.space n=put (h.pages.set K ⟨2,h.space,n,0⟩) (K+1) (kk-1) ⟨3,h.space,0,0⟩/\zmV h.pw h.np K 0=0/\zoF h k=zbm h.pw h.np K 0:=by
 obtain ⟨-,f1,f2⟩:=zdF hF;obtain ⟨K,hK⟩:=qaP hF;obtain ⟨kk,hkk⟩:=qaP (show 0<=k by omega)
 rw [hK]at f1 f2;have hfree:∀ j:Nat,j<=kk->zcB h.pages K j=true:=by
  intro j;induction j with
  | zero=>intro _;exact zcY _ _
  | succ j ih=>
   intro hj;obtain ⟨y,hy,hy0⟩:=f2 (K+j) (by omega) (by omega)
   rw [zcp hy,ih (by omega),hy0];rfl
 have hl:=hp.len;obtain ⟨k1,k2,_⟩:=zaj hp.conf;obtain ⟨a,b⟩:=zgr (K:=K) (o:=0) hp.conf (by omega) (by omega) (by omega)
 obtain ⟨t1,t2⟩:=zlN (x:=⟨2,h.space,n,0⟩) (y:=⟨3,h.space,0,0⟩) (show K<h.pages.length by omega) (show K+kk<=h.pages.length by omega) (hfree kk (qao _))
 rw [zuJ (by omega) (by omega)]at t1
 obtain ⟨e1,e2⟩:=zxP (ps:=h.pages) (i:=(K:Int)) (show 1<=zat h.pw h.np n/\0<=h.space/\h.space<=1 from ⟨by omega,hp.sp⟩)
 refine ⟨K,kk,hkk,hK,by omega,hfree kk (qao _),?_,?_,a,?_⟩
 . rw [e2,hk,hkk];exact t2
 . rw [e1,hk,hkk];exact t1
 . unfold zoF;rw [hK,b];omega
def zfd(h:Hp)(n:Int):Bool:=if 0<zat h.pw h.np n then ziy h (zat h.pw h.np n) else zce h n
def zdQ(h:Hp)(n:Int):Hp:=if 0<zat h.pw h.np n then zoE h n (zat h.pw h.np n) else zlT h n
def zd8(h:Hp)(n:Int):Int:=if 0<zat h.pw h.np n then zoF h (zat h.pw h.np n) else zlU h n
def okP(h:Hp):Bool:=zjp h.pw h.np h.words.length h.pages h.space h.bump
theorem zaN{h:Hp}(hp:okP h=true):confB h.pw h.np=true/\(h.words.length:Int)=h.np*h.pw/\(h.pages.length:Int)=h.np/\zb8 h.space=true/\zgo h.pages h.bump=true/\zbt h.pw h.np h.pages=true:=by
 unfold okP zjp at hp;simp only [qae,qab]at hp;obtain ⟨⟨⟨⟨⟨h1,h2⟩,h3⟩,h4⟩,h5⟩,h6⟩:=hp;exact ⟨h1,h2,h3,h4,h5,h6⟩
theorem zuR{h:Hp}(h1:confB h.pw h.np=true)(h2:(h.words.length:Int)=h.np*h.pw)(h3:(h.pages.length:Int)=h.np)(h4:zb8 h.space=true)(h5:zgo h.pages h.bump=true)(h6:zbt h.pw h.np h.pages=true):okP h=true:=by
 unfold okP zjp;rw [h1,qad h2,qad h3,h4,h5,h6];rfl
theorem zls{pw np:Int}{ps:List Pg}{K:Nat}{x:Pg}(h:zbt pw np ps=true)(hx:ps[K]?=some x)(h1:x.kind=1):zb8 x.space=true/\(0<=x.used/\x.used<=pw)/\zf1 x.pins=true:=by
 have:=za0.1 h K x hx
 unfold zbn at this;rw [if_neg (by omega),if_pos h1]at this
 unfold zdj at this;rw [qae,qae,qab]at this;exact ⟨this.1.1,this.1.2,this.2⟩
theorem PlOK7.of{h:Hp}(hp:okP h=true):PlOK7 h:=by
 obtain ⟨h1,h2,h3,h4,h5,h6⟩:=zaN hp;refine ⟨h1,h3,zd7.1 h4,?_⟩;rcases qat h5 with e | ⟨e1,e2,e3⟩
 . exact Or.inl e
 . have hx:h.pages[h.bump.toNat]?=some (h.pages[h.bump.toNat]'(by omega)):=qaq _
   rw [zam hx]at e3;obtain ⟨-,hu,-⟩:=zls h6 hx e3;exact Or.inr ⟨h.bump.toNat,_,by omega,hx,e3,hu.1,hu.2⟩
theorem zuX{pw n:Int}(hn:0<zeS pw n):n<=zeS pw n*pw:=by
 unfold zeS at *
 split at hn
 . omega
 . rename_i h0;rw [if_neg h0];split at hn
   . rename_i h1;rw [if_pos h1];omega
   . rename_i h1;rw [if_neg h1];split at hn
     . rename_i h2;rw [if_pos h2];omega
     . rename_i h2;rw [if_neg h2];split at hn
       . rename_i h3;rw [if_pos h3];omega
       . rename_i h3;rw [if_neg h3];split at hn
         . rename_i h4;rw [if_pos h4];omega
         . omega
theorem zty{pw np n:Int}(hc:confB pw np=true)(h0:¬0<zat pw np n)(h1:¬zat pw np n = -1):1<=n/\n<=pw / 4:=by
 have hz:zat pw np n=0:=by have:=zpQ pw np n;omega
 by_cases hn:1<=n
 . rw [zhv hc hn]at hz;refine ⟨hn,?_⟩;unfold zeS at hz;split at hz
   . assumption
   . split at hz
     . omega
     . split at hz
       . omega
       . split at hz
         . omega
         . split at hz <;> omega
 . rw [zhw (Or.inr (by omega))]at hz;omega
theorem zqf{ps:List Pg}{K:Nat}{x:Pg}(h:ps[K]?=some x)(h1:x.kind=1):zgo ps K=true:=by
 have:=(qap.1 h).1
 refine qad (Or.inr ⟨by omega,by omega,?_⟩)
 rw [qac,zam h];exact h1
theorem zkn{h:Hp}{s:Int}(hp:okP h=true)(h1:1<=s)(hn:¬zat h.pw h.np s = -1)(hok:zfd h s=true):
 okP (zdQ h s)=true/\(zdQ h s).words=h.words/\(0<=zd8 h s/\zd8 h s<18446744073709551616)/\okA h.words.length (zd8 h s) s.toNat=true:=by
 obtain ⟨p1,p2,p3,p4,p5,p6⟩:=zaN hp;have hpl:=PlOK7.of hp;obtain ⟨g1,g2⟩:=conf_prod p1;obtain ⟨k1,k2,-,k4,k5⟩:=zaj p1;unfold zfd at hok;unfold zdQ zd8;by_cases hk:0<zat h.pw h.np s
 . rw [if_pos hk]at hok;rw [if_pos hk,if_pos hk];have hd:=qat hok;obtain ⟨K,kk,e1,e2,e3,e4,-,e6,-,e8⟩:=zs3 (n:=s) hpl rfl (by omega) (show 0<=zau h.pages (zat h.pw h.np s) by omega)
   have hH:zoE h s (zat h.pw h.np s)={ h with pages:=put (h.pages.set K ⟨2,h.space,s,0⟩) (K+1) (kk-1) ⟨3,h.space,0,0⟩ }:=by unfold zoE;rw [e2,e6]
   have hlen:(put (h.pages.set K ⟨2,h.space,s,0⟩) (K+1) (kk-1) ⟨3,h.space,0,0⟩).length=h.pages.length:=by rw [zfb (by rw [List.length_set];omega),List.length_set]
   obtain ⟨a1,a2⟩:=zgr (K:=K) (o:=0) p1 (by omega) (by omega) (by omega)
   have hsz:s<=zat h.pw h.np s*h.pw:=by
    have h3:=zhv p1 h1;rw [h3]at hk ⊢
    exact zuX hk
   have hmul:(K:Int)*h.pw+zat h.pw h.np s*h.pw<=h.np*h.pw:=by
    rw [<-qbd];exact qaV (by omega) (by omega)
   have hK0:0<=(K:Int)*h.pw:=qbl (by omega) (by omega)
   rw [hH,e8,a2];refine ⟨zuR p1 p2 (by simp only;rw [hlen];exact p3) p4 ?_ (zsR p6 e4 e3 (by omega) p4 e1),rfl,⟨by omega,by omega⟩,qad ⟨by omega,by omega⟩⟩
   simp only
   rcases qat p5 with e | ⟨c1,c2,c3⟩
   . exact qad (Or.inl e)
   . have hx:h.pages[h.bump.toNat]?=some (h.pages[h.bump.toNat]'(by omega)):=qaq _
     rw [zam hx]at c3;have hnf:¬(K<=h.bump.toNat/\h.bump.toNat<K+kk):=fun c=>by
      have hz':h.pages[h.bump.toNat]'(by omega)∈(h.pages.drop K).take kk:=by
       refine qa0 (i:=h.bump.toNat-K) ?_
       rw [qa7,if_pos (by omega),qbb,show K+(h.bump.toNat-K)=h.bump.toNat by omega];exact hx
      unfold zcB at e4;have:=qat (qaN.1 e4 _ hz')
      omega
     have hy:(put (h.pages.set K ⟨2,h.space,s,0⟩) (K+1) (kk-1) ⟨3,h.space,0,0⟩)[h.bump.toNat]?=some (h.pages[h.bump.toNat]'(by omega)):=by
      rw [zdO (by rw [List.length_set];omega) (by omega),qa1,if_neg (by omega)];exact hx
     have:=zqf hy c3
     rwa [show ((h.bump.toNat:Nat):Int)=h.bump by omega]at this
 . rw [if_neg hk]at hok;rw [if_neg hk,if_neg hk];obtain ⟨s1,s4⟩:=zty p1 hk hn;cases hnb:newB h s
   . obtain ⟨K,x,b1,b2,b3,-,b5,-,b7⟩:=zoo hpl h1 hnb;have hKl:=(qap.1 b2).1;have hx1:x.kind=1:=by
      rcases hpl.bp with e | ⟨K',x',e1,e2,e3,-⟩
      . omega
      . obtain rfl:K=K':=by omega
        rw [b2]at e2;cases e2;exact e3
     obtain ⟨u1,u2,u3⟩:=zls p6 b2 hx1;have hfit:x.used+s<=h.pw:=by
      have hd:=qa4 hnb;unfold zkC at hd;rw [b1,qac,zam b2]at hd;omega
     obtain ⟨a1,a2⟩:=zgr (K:=K) (o:=x.used) p1 (by omega) (by omega) (by omega)
     have hmul:(K:Int)*h.pw+h.pw<=h.np*h.pw:=(zaM p1 (by omega) (by omega)).2
     have hK0:0<=(K:Int)*h.pw:=qbl (by omega) (by omega)
     rw [b5,b7,a2];refine ⟨zuR p1 p2 (by simp only;rw [List.length_set];exact p3) p4 ?_ ?_,rfl,⟨by omega,by omega⟩,qad ⟨by omega,by omega⟩⟩
     . exact zqf (x:=⟨x.kind,x.space,x.used+s,x.pins⟩) (by simp only;rw [qa1,if_pos rfl,if_pos hKl]) hx1
     . refine zlO p6 b2 (Or.inr hx1) hx1 ?_;unfold zdj;simp only
       rw [u1,u3,qad (show 0<=x.used+s/\x.used+s<=h.pw by omega)];rfl
   . have hf:zdJ h=false:=by
      unfold zce at hok;rw [hnb,qaY]at hok;simpa using hok
     obtain ⟨K,-,b2,-,-,⟨y,hy,hy0⟩,-,b5,-,b7⟩:=zq0 hpl hnb hf;obtain ⟨a1,a2⟩:=zgr (K:=K) (o:=0) p1 (by omega) (by omega) (by omega)
     have hmul:(K:Int)*h.pw+h.pw<=h.np*h.pw:=(zaM p1 (by omega) (by omega)).2
     have hK0:0<=(K:Int)*h.pw:=qbl (by omega) (by omega)
     rw [List.set_set]at b5;rw [b5,b7,a2];refine ⟨zuR p1 p2 (by simp only;rw [List.length_set];exact p3) p4 ?_ ?_,rfl,⟨by omega,by omega⟩,qad ⟨by omega,by omega⟩⟩
     . exact zqf (x:=⟨1,h.space,0+s,0⟩) (by simp only;rw [qa1,if_pos rfl,if_pos b2]) rfl
     . refine zlO p6 hy (Or.inl hy0) rfl ?_;unfold zdj;simp only
       rw [p4,show zf1 0=true from rfl,qad (show 0<=0+s/\0+s<=h.pw by omega)];rfl
theorem zq1(h:Hp)(k n m:Int):zpN h k n m=zfd h (zaP k n m)/\zms h k n m=zdQ h (zaP k n m)/\zpO h k n m=zd8 h (zaP k n m):=by
 unfold zpN zms zpO zuW zfd zdQ zd8;by_cases hb:0<zat h.pw h.np (zaP k n m)
 . simp [hb]
 . simp [hb]
theorem zxh{B:Int}(hB:0<=B){h:Hp}(hp:PinL B h.pages)(s:Int):PinL B (zdQ h s).pages:=by
 unfold zdQ;split
 . show PinL B (zgj _ _ _ _ _ _)
   unfold zgj;split
   . exact hp.take hB _ _ rfl rfl
   . exact PinL.nil B
 . show PinL B (zgS (zbS h s) _ _)
   refine PinL.use ?_ hB _ _;unfold zbS;split
   . unfold zb6;split
     . exact hp.take hB _ _ rfl rfl
     . exact PinL.nil B
   . exact hp
theorem zxb:zvt:=by
 intro n x k l m hn hm L k1 k3 l0 l1 m0 m1 he;obtain ⟨ha,hr⟩:zks x.h k l m=true/\zpN x.h k l m=true:=by
  unfold zcQ at he;split at he
  . rename_i h1;split at he
    . rename_i h2;exact ⟨h1,h2⟩
    . exact absurd he (by decide)
  . exact absurd he (by decide)
 obtain ⟨e1,e2,e3⟩:=zq1 x.h k l m;rw [e1]at hr;unfold zks zk7 at ha;simp only [qae,qab]at ha;obtain ⟨ho,⟨hv,hk0⟩,hnd⟩:=ha;have hs:=zcv hv;have hop:okP x.h=true:=by unfold okP;rw [zeG];exact ho
 obtain ⟨q1,q2,q3,q4⟩:=zkn hop (show 1<=zaP k l m by rw [hs];omega) hnd hr
 have hoh:okH (zdQ x.h (zaP k l m))=true:=by unfold okP at q1;rw [zeG]at q1;exact q1
 have hil:(znV k l m).length=(zaP k l m).toNat:=by rw [zrM,hs];omega
 have hka:okA (zdQ x.h (zaP k l m)).words.length (zd8 x.h (zaP k l m)) (znV k l m).length=true:=by rw [q2,hil];exact q4
 have hie:znW (zdQ x.h (zaP k l m)) (zd8 x.h (zaP k l m)) k l m=0:=by
  unfold znW;rw [if_pos ⟨hv,hoh⟩];unfold zdI;rw [if_pos hka]
 have hH:zdr x.h k l m={ zdQ x.h (zaP k l m) with words:=zaI (zdQ x.h (zaP k l m)).words (zd8 x.h (zaP k l m)) (znV k l m) }:=by
  unfold zdr;rw [if_pos he,e2,e3];unfold ztE;rw [if_pos hie]
 have hA:ziL x.h k l m=zd8 x.h (zaP k l m):=by unfold ziL;rw [if_pos he,e3]
 obtain ⟨p1,p2,p3,-⟩:=zan hoh;unfold putV;rw [hH,hA];refine ⟨p1,?_,p3,fun y hy=>?_,L.wk,?_,by have:=L.wkn;show x.wk.length<=_;omega,fun g hg=>?_⟩
 . show ((zaI _ _ _).length:Int)=_
   rw [zfS hka];exact p2
 . rcases qak.1 hy with h2 | h2
   . exact L.st y h2
   . rw [qaE.1 h2];exact q3
 . have:=L.stn
   show (x.st++[zd8 x.h (zaP k l m)]).length<=_
   rw [qaD];simp;omega
 . have:=zxh (B:=n) (by omega) L.pins (zaP k l m) g hg
   omega
theorem zxL:∀ n x,Made n x->n<=400->Lens n x:=zy8 zxb zqa
theorem zxm{fs:List (Int×Nat)}(h1:fitL 64 (fs.map (·.1))=true)(h:okF fs=false):zq7 fs=(0,2):=by
 unfold zq7;rw [if_pos h1,if_neg (by simp [h])]
theorem zuP{fs:List (Int×Nat)}(h1:fitL 64 (fs.map (·.1))=true)(h:okF fs=true):zq7 fs=(((zkT fs:Nat):Int),0):=by
 unfold zq7;rw [if_pos h1,if_pos h]
theorem zyO{fs:List (Int×Nat)}(h1:¬fitL 64 (fs.map (·.1))=true):zq7 fs=(0,1):=by
 unfold zq7;rw [if_neg h1]
theorem zw0(l:List Int)(x:Int):sumW (l++[x])=sumW l+x.toNat:=by
 induction l with
 | nil=>simp [sumW]
 | cons g l ih=>rw [qaM,sumW,ih,sumW];omega
def zkQ:Nat->List Int->List Int
 | _,[]=>[]
 | x,a::r=>((x &&& zfL a:Nat):Int)::zkQ (x >>> a.toNat) r
theorem zwR(ws:List Int):∀ x,(zkQ x ws).length=ws.length:=by
 induction ws with
 | nil=>intro x;rfl
 | cons b r ih=>intro x;rw [zkQ,qaJ,ih,qaJ]
def unpE(x:Nat)(ws:List Int):Int:=if fitL 64 ws=true then (if x >>> sumW ws=0 then 0 else 2) else 1
def unpV(x:Nat)(ws:List Int):List Int:=if fitL 64 ws=true then (if x >>> sumW ws=0 then zkQ x ws else []) else []
theorem zw1{ws:List Int}{k:Nat}{a:Int}(h:ws[k]?=some a):sumW (ws.take (k+1))=sumW (ws.take k)+a.toNat:=by
 rw [zbd h,zw0]
theorem zuQ{n m:Int}(h1:0<=n)(h2:n<=32):m<=zf8 n↔m<2 ^ n.toNat:=by
 unfold zf8;rw [show min n.toNat 64=n.toNat from by omega]
 omega
theorem map_no{n m:Int}(h1:0<=n)(h2:n<=32)(h3:zf8 n<m):zay 1 n m=false :=
 zcs fun h=>by have:=(zuQ h1 h2).2 (h.2.2.2.2.1 rfl).2;omega
theorem zsP{k n m:Int}(hk:k=0\/k=2\/k=3)(h:0<=n)(h2:n<=255)(h3:m=0):zay k n m=true :=
 zlo ⟨by omega,by omega,h,h2,fun c=>by omega,fun _=>h3⟩
end Go.VI.P
