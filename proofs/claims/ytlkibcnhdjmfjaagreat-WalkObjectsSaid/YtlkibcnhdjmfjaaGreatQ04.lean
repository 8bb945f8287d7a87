import Derived.Calls
import Derived.Laws.CopyOwn
import Derived.Laws.Entries
import Derived.RowKit
import Derived.IntWalk
set_option linter.unusedSimpArgs false
set_option linter.unusedVariables false
set_option maxRecDepth 100000
set_option maxHeartbeats 4000000
namespace Go.VI.P
open Go
open Go.RowKit
theorem zaC {α:Type} {l:List α} {k:Nat} {x:α} (h:l[k]?=some x):l.take (k+1)=l.take k++[x]:=by
 rw [List.take_add_one,h];rfl
def confB (pw np:Int):Bool:=decide (16<=pw/\pw<=64/\pw % 4=0/\8<=np/\np<=64)
theorem zai {pw np:Int} (h:confB pw np=true):16<=pw/\pw<=64/\pw % 4=0/\8<=np/\np<=64:=by
 unfold confB at h;exact of_decide_eq_true h
theorem conf_mk {pw np:Int} (h:16<=pw/\pw<=64/\pw % 4=0/\8<=np/\np<=64):confB pw np=true:=by
 unfold confB;exact decide_eq_true h
def zkA (pw np:Int):Int:=if confB pw np then np / 4 else 0
def zlt (pw np:Int):Int:=if confB pw np then pw / 4 else 0
def zkc (pw n:Int):Int:=if n<=pw / 4 then 0 else if n<=pw then 1 else if n<=2*pw then 2 else if n<=3*pw then 3 else if n<=4*pw then 4 else -1
def ziq (pw np n:Int):Int:=if confB pw np=true/\1<=n then zkc pw n else -1
theorem zkE {pw np n:Int} (h:confB pw np=true) (h1:1<=n):ziq pw np n=zkc pw n:=by unfold ziq;rw [if_pos ⟨h,h1⟩]
theorem zkF {pw np n:Int} (h:confB pw np=false\/n<1):ziq pw np n = -1:=by
 unfold ziq
 rw [if_neg]
 rintro ⟨a,b⟩
 rcases h with h | h
 · rw [a]at h;cases h
 · omega
def inPg (pw np p o:Int):Bool:=decide (0<=p/\p<np/\0<=o/\o<pw)
def ziR (pw np p o:Int):Int:=if confB pw np then (if inPg pw np p o then 4096+p*pw+o else 0) else 0
def zlR (pw np p o:Int):Int:=if confB pw np then (if inPg pw np p o then 0 else 2) else 1
def inAr (pw np a:Int):Bool:=decide (4096<=a/\a<4096+np*pw)
def ofI (pw np a:Int):Int:=if confB pw np then (if inAr pw np a then (a-4096) / pw else 0) else 0
def ofK (pw np a:Int):Int:=if confB pw np then (if inAr pw np a then (a-4096) % pw else 0) else 0
def ofE (pw np a:Int):Int:=if confB pw np then (if inAr pw np a then 0 else 2) else 1
theorem zvN {pw np:Int} (h:confB pw np=true):zkA pw np=np / 4:=by unfold zkA;rw [if_pos h]
theorem zvO {pw np:Int} (h:confB pw np=false):zkA pw np=0:=by unfold zkA;rw [if_neg (by simp [h])]
theorem zmo {pw np:Int} (h:confB pw np=true):zlt pw np=pw / 4:=by unfold zlt;rw [if_pos h]
theorem zvh {pw np:Int} (h:confB pw np=false):zlt pw np=0:=by unfold zlt;rw [if_neg (by simp [h])]
theorem zlb {pw np p o:Int} (h:confB pw np=true) (h1:inPg pw np p o=true):ziR pw np p o=4096+p*pw+o/\zlR pw np p o=0:=by
 unfold ziR zlR;rw [if_pos h,if_pos h,if_pos h1,if_pos h1];exact ⟨rfl,rfl⟩
theorem znn {pw np p o:Int} (h:confB pw np=true) (h1:inPg pw np p o=false):ziR pw np p o=0/\zlR pw np p o=2:=by
 unfold ziR zlR;rw [if_pos h,if_pos h,if_neg (by simp [h1]),if_neg (by simp [h1])];exact ⟨rfl,rfl⟩
theorem addr_no {pw np p o:Int} (h:confB pw np=false):ziR pw np p o=0/\zlR pw np p o=1:=by
 unfold ziR zlR;rw [if_neg (by simp [h]),if_neg (by simp [h])];exact ⟨rfl,rfl⟩
theorem zlY {pw np a:Int} (h:confB pw np=true) (h1:inAr pw np a=true):ofI pw np a=(a-4096) / pw/\ofK pw np a=(a-4096) % pw/\ofE pw np a=0:=by
 unfold ofI ofK ofE;rw [if_pos h,if_pos h,if_pos h,if_pos h1,if_pos h1,if_pos h1];exact ⟨rfl,rfl,rfl⟩
theorem zkz {pw np a:Int} (h:confB pw np=true) (h1:inAr pw np a=false):ofI pw np a=0/\ofK pw np a=0/\ofE pw np a=2:=by
 unfold ofI ofK ofE;rw [if_pos h,if_pos h,if_pos h,if_neg (by simp [h1]),if_neg (by simp [h1]),if_neg (by simp [h1])];exact ⟨rfl,rfl,rfl⟩
theorem zvG {pw np a:Int} (h:confB pw np=false):ofI pw np a=0/\ofK pw np a=0/\ofE pw np a=1:=by
 unfold ofI ofK ofE;rw [if_neg (by simp [h]),if_neg (by simp [h]),if_neg (by simp [h])];exact ⟨rfl,rfl,rfl⟩
theorem conf_prod {pw np:Int} (h:confB pw np=true):128<=np*pw/\np*pw<=4096:=by
 obtain ⟨h1,h2,_,h4,h5⟩:=zai h
 exact ⟨Int.le_trans (show (128:Int)<=8*16 from by decide) (Int.mul_le_mul h4 h1 (by decide) (by omega)),Int.le_trans (Int.mul_le_mul h5 h2 (by omega) (by omega)) (by decide)⟩
theorem zaw {pw np p:Int} (h:confB pw np=true) (h0:0<=p) (h1:p<np):0<=p*pw/\p*pw+pw<=np*pw:=by
 obtain ⟨h2,_⟩:=zai h
 have e:p*pw+pw=(p+1)*pw:=by rw [Int.add_mul,Int.one_mul]
 exact ⟨Int.mul_nonneg h0 (by omega),by rw [e];exact Int.mul_le_mul_of_nonneg_right (by omega) (by omega)⟩
theorem zt3 {pw np p o:Int} (h:confB pw np=true) (h1:inPg pw np p o=true):inAr pw np (4096+p*pw+o)=true/\(4096+p*pw+o-4096) / pw=p/\(4096+p*pw+o-4096) % pw=o:=by
 unfold inPg at h1
 obtain ⟨a,b,c,d⟩:=of_decide_eq_true h1
 obtain ⟨e,f⟩:=zaw h a b
 have g:=zai h
 have e1:4096+p*pw+o-4096=o+p*pw:=by omega
 refine ⟨decide_eq_true (by omega),?_,?_⟩
 · rw [e1,Int.add_mul_ediv_right _ _ (by omega),Int.ediv_eq_zero_of_lt c d];omega
 · rw [e1,Int.add_mul_emod_self_right,Int.emod_eq_of_lt c d]
structure Pg where
 kind:Int
 space:Int
 used:Int
 pins:Int
 deriving DecidableEq
def Pg.zero:Pg:=⟨0,0,0,0⟩
theorem zin {ps:List Pg} {i:Nat} {x:Pg} (h:ps[i]?=some x):ps.getD i Pg.zero=x:=by rw [List.getD_eq_getElem?_getD,h];rfl
def zkC (sp:Int):List Pg->Nat
 | []=>0
 | x::r=>if x.kind=3/\x.space=sp then zkC sp r+1 else 0
def ziO:List Pg->Nat
 | []=>0
 | x::r=>(if x.kind=0 then 0 else 1)+ziO r
theorem zee:∀ ps:List Pg,ziO ps<=ps.length
 | []=>Nat.le_refl _
 | x::r=>by have:=zee r;unfold ziO;rw [List.length_cons];split <;> omega
theorem zfr:∀ a b:List Pg,ziO (a++b)=ziO a+ziO b
 | [],b=>by simp [ziO]
 | x::r,b=>by rw [List.cons_append,ziO,ziO,zfr r b];omega
theorem zh2 {ps:List Pg} {k:Nat} {x:Pg} (h:ps[k]?=some x):ziO (ps.take (k+1))=ziO (ps.take k)+if x.kind=0 then 0 else 1:=by
 rw [zaC h,zfr];simp [ziO]
def zjY (out:List (Int×Int)) (k:Int) (x:Pg):List (Int×Int) :=
 if x.kind=0 then (match out.getLast? with | some r=>if r.1+r.2=k then out.dropLast++[(r.1,r.2+1)] else out++[(k,1)] | none=>[(k,1)]) else out
def zjj (ps:List Pg):Nat->List (Int×Int)
 | 0=>[]
 | k+1=>match ps[k]? with | some x=>zjY (zjj ps k) k x | none=>zjj ps k
def zpE (ps:List Pg):List (Int×Int):=zjj ps ps.length
def zis (ps:List Pg) (k:Int):Int:=match (zpE ps).find? (fun r=>decide (1<=k)&&decide (k<=r.2)) with | some r=>r.1 | none=>-1
def put (ps:List Pg) (i k:Nat) (x:Pg):List Pg:=ps.take i++List.replicate k x++ps.drop (i+k)
theorem zmx (ps:List Pg) (i:Nat) (x:Pg):put ps i 0 x=ps:=by simp [put]
theorem zj7 {ps:List Pg} {i k:Nat} {x:Pg} (h:i+k<=ps.length):(put ps i k x).length=ps.length:=by
 unfold put;rw [List.length_append,List.length_append,List.length_take,List.length_replicate,List.length_drop];omega
theorem zjP {ps:List Pg} {i k:Nat} {x:Pg} (h:i+k<=ps.length) {j:Nat} (hj:i+k<=j\/j<i):(put ps i k x)[j]?=ps[j]?:=by
 unfold put
 rcases hj with hj | hj
 · rw [List.getElem?_append_right (by rw [List.length_append,List.length_take,List.length_replicate];omega),List.getElem?_drop]
   congr 1
   rw [List.length_append,List.length_take,List.length_replicate];omega
 · rw [List.append_assoc,List.getElem?_append_left (by rw [List.length_take];omega),List.getElem?_take,if_pos hj]
theorem zl4 {ps:List Pg} {i k:Nat} {x:Pg} (h:i+k<=ps.length) {j:Nat} (h1:i<=j) (h2:j<i+k):(put ps i k x)[j]?=some x:=by
 unfold put
 rw [List.append_assoc,List.getElem?_append_right (by rw [List.length_take];omega),List.getElem?_append_left (by rw [List.length_take,List.length_replicate];omega),List.getElem?_replicate,if_pos (by rw [List.length_take];omega)]
theorem zvo {ps:List Pg} {i k:Nat} {x:Pg} (h:i+k<ps.length):(put ps i k x).set (i+k) x=put ps i (k+1) x:=by
 apply List.ext_getElem?
 intro j
 rw [List.getElem?_set]
 have hl:(put ps i k x).length=ps.length:=zj7 (by omega)
 by_cases hj:i+k=j
 · rw [if_pos hj,if_pos (by omega),zl4 (by omega) (by omega) (by omega)]
 · rw [if_neg hj]
   by_cases h1:i<=j/\j<i+k
   · rw [zl4 (by omega) h1.1 h1.2,zl4 (by omega) h1.1 (by omega)]
   · rw [zjP (by omega) (by omega),zjP (by omega) (by omega)]
def zju (ps:List Pg) (i k:Nat):Bool:=((ps.drop i).take k).all fun x=>decide (x.kind=0)
theorem zbg (ps:List Pg) (i:Nat):zju ps i 0=true:=by simp [zju]
theorem za3 {ps:List Pg} {i k:Nat} {x:Pg} (h:ps[i+k]?=some x):zju ps i (k+1)=(zju ps i k&&decide (x.kind=0)):=by
 unfold zju
 rw [zaC (l:=ps.drop i) (k:=k) (x:=x) (by rw [List.getElem?_drop];exact h),List.all_append]
 simp
theorem zsB {ps:List Pg} {i k m:Nat} (h:zju ps i k=true) (hm:m<=k):zju ps i m=true:=by
 unfold zju at *
 rw [List.all_eq_true] at *
 intro x hx
 refine h x ?_
 rw [show (ps.drop i).take m=((ps.drop i).take k).take m from by rw [List.take_take,Nat.min_eq_left hm]]at hx
 exact List.mem_of_mem_take hx
def zkB (ps:List Pg) (i k:Int) (x y:Pg):List Pg:=if 0<=i/\i<ps.length/\k<=ps.length-i then (if zju ps i.toNat k.toNat then (put ps i.toNat k.toNat y).set i.toNat x else []) else []
def zll (ps:List Pg) (i k:Int):Int:=if 0<=i/\i<ps.length/\k<=ps.length-i then (if zju ps i.toNat k.toNat then 0 else 20) else 2
def zjs (ps:List Pg) (i sp:Int):List Pg:=if 0<=sp/\sp<=1 then zkB ps i 1 ⟨1,sp,0,0⟩ Pg.zero else []
def zkZ (ps:List Pg) (i sp:Int):Int:=if 0<=sp/\sp<=1 then zll ps i 1 else 1
def zkt (pw np:Int) (ps:List Pg) (i sp n:Int):List Pg:=if 1<=ziq pw np n/\0<=sp/\sp<=1 then zkB ps i (ziq pw np n) ⟨2,sp,n,0⟩ ⟨3,sp,0,0⟩ else []
def zlC (pw np:Int) (ps:List Pg) (i sp n:Int):Int:=if 1<=ziq pw np n/\0<=sp/\sp<=1 then zll ps i (ziq pw np n) else 1
def zkr (n:Int):Bool:=decide (0<=n/\n<=2147483647)
def zjn (pw np:Int) (x:Pg) (r:List Pg) (due:Int):Option Int :=
 if ¬(x.kind=3↔0<due)\/x.space<0\/1<x.space\/zkr x.pins=false then none
 else if x.kind=0 then (if x=Pg.zero then some (max 0 (due-1)) else none)
 else if x.kind=1 then (if x.used<0\/pw<x.used then none else some (max 0 (due-1)))
 else if x.kind=2 then (if ziq pw np x.used<1\/(zkC x.space r:Int)<ziq pw np x.used-1 then none else some (max 0 (ziq pw np x.used-1)))
 else if x.kind=3 then (if x.used=0/\x.pins=0 then some (max 0 (due-1)) else none)
 else none
def ziy (pw np:Int):List Pg->Int->Bool
 | [],_=>true
 | x::r,due=>match zjn pw np x r due with | some d=>ziy pw np r d | none=>false
def zkI (ps:List Pg) (b:Int):Bool:=decide (b = -1\/(0<=b/\b<ps.length/\(ps.getD b.toNat Pg.zero).kind=1))
def zj8 (pw np:Int) (nw:Nat) (ps:List Pg) (sp b:Int):Bool :=
 confB pw np&&decide ((nw:Int)=np*pw)&&decide ((ps.length:Int)=np)&&decide (0<=sp/\sp<=1)&&zkI ps b&&ziy pw np ps 0
theorem zqg {pw n:Int} (h:n<=pw / 4):zkc pw n=0:=by unfold zkc;rw [if_pos h]
theorem zsw {pw n:Int} (hp:16<=pw) (h0:pw / 4<n) (h:4*pw<n):zkc pw n = -1:=by
 unfold zkc
 rw [if_neg (by omega),if_neg (by omega),if_neg (by omega),if_neg (by omega),if_neg (by omega)]
theorem zc2 {out:List (Int×Int)} {k:Int} {x:Pg} (h:¬x.kind=0):zjY out k x=out:=by unfold zjY;rw [if_neg h]
theorem zcb {k:Int} {x:Pg} (h:x.kind=0):zjY [] k x=[(k,1)]:=by unfold zjY;rw [if_pos h];rfl
theorem zbL {pre:List (Int×Int)} {r:Int×Int} {k:Int} {x:Pg} (h:x.kind=0) (he:r.1+r.2=k):zjY (pre++[r]) k x=pre++[(r.1,r.2+1)]:=by
 unfold zjY;rw [if_pos h];simp [he]
theorem zcc {pre:List (Int×Int)} {r:Int×Int} {k:Int} {x:Pg} (h:x.kind=0) (he:¬r.1+r.2=k):zjY (pre++[r]) k x=pre++[r]++[(k,1)]:=by
 unfold zjY;rw [if_pos h];simp [he]
theorem zca {ps:List Pg} {k:Nat} {x:Pg} (h:ps[k]?=some x):zjj ps (k+1)=zjY (zjj ps k) k x:=by
 rw [zjj,h]
theorem zeK (out:List (Int×Int)):out=[]\/∃ pre r,out=pre++[r]:=by
 rcases List.eq_nil_or_concat out with h | ⟨pre,r,h⟩
 · exact Or.inl h
 · exact Or.inr ⟨pre,r,by rw [h,List.concat_eq_append]⟩
theorem zpD (ps:List Pg):∀ (k:Nat) (r:Int×Int),r∈zjj ps k->0<=r.1/\1<=r.2/\r.1+r.2<=k
 | 0,r,h=>by simp [zjj]at h
 | k+1,r,h=>by
  have ih:=zpD ps k
  cases hx:ps[k]? with
  | none=>
   rw [zjj,hx]at h
   have:=ih r h;omega
  | some x=>
   rw [zca hx]at h
   by_cases h0:x.kind=0
   · rcases zeK (zjj ps k) with e | ⟨pre,q,e⟩
     · rw [e,zcb h0]at h
       simp at h;subst h;simp
     · rw [e]at h ih
       have hq:=ih q (by simp)
       by_cases he:q.1+q.2=k
       · rw [zbL h0 he]at h
         rcases List.mem_append.1 h with h | h
         · have:=ih r (List.mem_append_left _ h);omega
         · simp at h;subst h;simp;omega
       · rw [zcc h0 he]at h
         rcases List.mem_append.1 h with h | h
         · have:=ih r h;omega
         · simp at h;subst h;simp
   · rw [zc2 h0]at h
     have:=ih r h;omega
theorem zmr (ps:List Pg):∀ k:Nat,(zjj ps k).length<=k
 | 0=>Nat.le_refl _
 | k+1=>by
  have ih:=zmr ps k
  cases hx:ps[k]? with
  | none=>rw [zjj,hx];exact Nat.le_succ_of_le ih
  | some x=>
   rw [zca hx]
   by_cases h0:x.kind=0
   · rcases zeK (zjj ps k) with e | ⟨pre,q,e⟩
     · rw [e,zcb h0];simp
     · rw [e]at ih ⊢
       by_cases he:q.1+q.2=k
       · rw [zbL h0 he];simp at ih ⊢;omega
       · rw [zcc h0 he];simp at ih ⊢;omega
   · rw [zc2 h0];omega
def ziT (k:Int):List (Int×Int)->Int
 | []=>-1
 | r::t=>if 1<=k/\k<=r.2 then r.1 else ziT k t
theorem zgM (ps:List Pg) (k:Int):zis ps k=ziT k (zpE ps):=by
 unfold zis
 generalize zpE ps=l
 induction l with
 | nil=>rfl
 | cons r t ih=>
  rw [List.find?_cons,ziT]
  by_cases h:1<=k/\k<=r.2
  · rw [if_pos h];simp [h]
  · rw [if_neg h]
    have:(decide (1<=k)&&decide (k<=r.2))=false:=by simp;omega
    rw [this];exact ih
theorem zoW {k:Int} {l:List (Int×Int)} {i:Nat} {r:Int×Int} (h:l[i]?=some r):ziT k (l.drop i)=if 1<=k/\k<=r.2 then r.1 else ziT k (l.drop (i+1)):=by
 obtain ⟨hi,rfl⟩:=List.getElem?_eq_some_iff.1 h
 rw [List.drop_eq_getElem_cons hi,ziT]
theorem zm8 {k:Int} {l:List (Int×Int)} {i:Nat} (h:l.length<=i):ziT k (l.drop i) = -1:=by
 rw [List.drop_eq_nil_of_le h];rfl
theorem zvd {ps:List Pg} {i k:Int} {x y:Pg} (h:¬(0<=i/\i<ps.length/\k<=ps.length-i)):zkB ps i k x y=[]/\zll ps i k=2:=by
 unfold zkB zll;rw [if_neg h,if_neg h];exact ⟨rfl,rfl⟩
theorem zls {ps:List Pg} {i k:Nat} {x y:Pg} (h:i<ps.length) (hk:i+k<=ps.length) (hf:zju ps i k=true):zkB ps i k x y=(put ps i k y).set i x/\zll ps i k=0:=by
 have hc:0<=(i:Int)/\(i:Int)<ps.length/\(k:Int)<=ps.length-i:=⟨by omega,by omega,by omega⟩
 unfold zkB zll;rw [if_pos hc,if_pos hc,Int.toNat_natCast,Int.toNat_natCast,if_pos hf,if_pos hf];exact ⟨rfl,rfl⟩
theorem zh3 {ps:List Pg} {i k m:Nat} {x:Pg} (hx:ps[i+m]?=some x) (hm:m<k) (h:¬x.kind=0):zju ps i k=false:=by
 rw [<-Bool.not_eq_true]
 intro hf
 have:=zsB hf (show m+1<=k from hm)
 rw [za3 hx]at this
 simp at this;exact h this.2
structure Hp where
 pw:Int
 np:Int
 words:List Int
 pages:List Pg
 space:Int
 bump:Int
def Hp.zero:Hp:=⟨0,0,[],[],0,0⟩
def WB (xs:List Int):Prop:=∀ x∈xs,0<=x/\x<18446744073709551616
theorem WB.zeros (n:Nat):WB (List.replicate n 0):=by
 intro x hx;obtain ⟨_,rfl⟩:=List.mem_replicate.1 hx;omega
theorem WB.nil:WB []:=fun x h=>by cases h
def zoC (pw np:Int):Hp:=if confB pw np then ⟨pw,np,List.replicate (np*pw).toNat 0,List.replicate np.toNat Pg.zero,0,-1⟩ else Hp.zero
def newHE (pw np:Int):Int:=if confB pw np then 0 else 1
theorem zqe {pw np:Int} (h:confB pw np=true):zoC pw np=⟨pw,np,List.replicate (np*pw).toNat 0,List.replicate np.toNat Pg.zero,0,-1⟩/\newHE pw np=0:=by
 unfold zoC newHE;rw [if_pos h,if_pos h];exact ⟨rfl,rfl⟩
def zky (n:Int):Int:=2 ^ min n.toNat 64-1
def zkL (n:Int):Nat:=2 ^ min n.toNat 64-1
theorem zvr (k:Nat) (h:k<=64):(2:Nat) ^ k<=18446744073709551616:=by
 have:(2:Nat) ^ k<=2 ^ 64:=Nat.pow_le_pow_right (by decide) h
 simpa using this
theorem zvq (k:Nat) (h:k<64):(2:Nat) ^ k<=9223372036854775808:=by
 have:(2:Nat) ^ k<=2 ^ 63:=Nat.pow_le_pow_right (by decide) (by omega)
 simpa using this
theorem zfZ (k:Nat):1<=(2:Nat) ^ k:=Nat.one_le_two_pow
theorem zcK (k:Nat):((2 ^ k:Nat):Int)=(2:Int) ^ k:=by rw [Int.natCast_pow];rfl
theorem zuq (k:Nat) (h:k<64):(2:Int) ^ k<=9223372036854775808:=by
 have:=zvq k h;rw [<-zcK];omega
theorem zup (k:Nat):1<=(2:Int) ^ k:=by
 have:=zfZ k;rw [<-zcK];omega
theorem zhT (n:Int):zky n=((zkL n:Nat):Int):=by
 unfold zky zkL
 have:=zfZ (min n.toNat 64)
 rw [Int.natCast_sub this]
 simp
theorem ztZ (n:Int) (h:n<0):zky n=0:=by
 unfold zky
 have:n.toNat=0:=by omega
 simp [this]
theorem zvE (n:Int):zkL n<18446744073709551616:=by
 unfold zkL;have:=zvr (min n.toNat 64) (by omega);have:=zfZ (min n.toNat 64);omega
theorem shr_lt (x k:Nat) (hx:x<18446744073709551616):x >>> k<18446744073709551616:=by
 rw [Nat.shiftRight_eq_div_pow];exact Nat.lt_of_le_of_lt (Nat.div_le_self _ _) hx
theorem zf8 (v:Nat) (n:Int):v &&& zkL n=v % 2 ^ min n.toNat 64:=by
 unfold zkL;exact Nat.and_two_pow_sub_one_eq_mod v _
def fitL:Int->List Int->Bool
 | _,[]=>true
 | left,x::r=>if x<1\/left<x then false else fitL (left-x) r
theorem zm6 {left x:Int} {ws:List Int} {k:Nat} (hx:ws[k]?=some x) (h:x<1\/left<x):fitL left (ws.drop k)=false:=by
 obtain ⟨hk,rfl⟩:=List.getElem?_eq_some_iff.1 hx
 rw [List.drop_eq_getElem_cons hk,fitL,if_pos h]
theorem zrP {left x:Int} {ws:List Int} {k:Nat} (hx:ws[k]?=some x) (h1:¬x<1) (h2:¬left<x):fitL left (ws.drop k)=fitL (left-x) (ws.drop (k+1)):=by
 obtain ⟨hk,rfl⟩:=List.getElem?_eq_some_iff.1 hx
 rw [List.drop_eq_getElem_cons hk,fitL,if_neg (by omega)]
theorem zrR {left:Int} {ws:List Int} {k:Nat} (hk:ws.length<=k):fitL left (ws.drop k)=true:=by
 rw [List.drop_eq_nil_of_le hk,fitL]
theorem zoV {left x:Int} {r:List Int} (h:fitL left (x::r)=true):1<=x/\x<=left/\fitL (left-x) r=true:=by
 rw [fitL]at h
 by_cases c:x<1\/left<x
 · rw [if_pos c]at h;cases h
 · rw [if_neg c]at h;exact ⟨by omega,by omega,h⟩
def sumW:List Int->Nat
 | []=>0
 | x::r=>x.toNat+sumW r
theorem zrQ:∀ (ws:List Int) (left:Int),0<=left->fitL left ws=true->(sumW ws:Int)<=left
 | [],_,h,_=>by simp [sumW];exact h
 | x::r,left,h,hf=>by
  obtain ⟨h1,h2,h3⟩:=zoV hf
  have:=zrQ r (left-x) (by omega) h3
  rw [sumW];omega
theorem zm7:∀ (ws:List Int) (left:Int),0<=left->fitL left ws=true->∀ x∈ws,1<=x/\x<=left
 | [],_,_,_,x,hx=>by cases hx
 | y::r,left,h,hf,x,hx=>by
  obtain ⟨h1,h2,h3⟩:=zoV hf
  rcases List.mem_cons.1 hx with rfl | hx
  · exact ⟨h1,h2⟩
  · have:=zm7 r (left-y) (by omega) h3 x hx
    omega
theorem znQ:∀ (k:Nat) (ws:List Int),sumW (ws.drop k)<=sumW ws
 | 0,ws=>by simp
 | _+1,[]=>by simp
 | k+1,x::r=>by
  have:=znQ k r
  rw [List.drop_succ_cons,sumW];omega
def okF (fs:List (Int×Nat)):Bool:=fs.all fun f=>decide ((f.2:Int)<=zky f.1)
def zkD:List (Int×Nat)->Nat
 | []=>0
 | f::r=>zkD r <<< f.1.toNat ||| f.2
def zmB (fs:List (Int×Nat)):Int×Int:=if fitL 64 (fs.map (·.1))=true then (if okF fs=true then ((zkD fs:Nat),0) else (0,2)) else (0,1)
theorem zhv {v:Nat} {x:Int} (h1:x<=64) (h:(v:Int)<=zky x):v<2 ^ x.toNat:=by
 have e:min x.toNat 64=x.toNat:=by omega
 have hp:=zfZ x.toNat
 rw [zhT]at h;unfold zkL at h;rw [e]at h;omega
theorem join_lt {a b s t:Nat} (ha:a<2 ^ s) (hb:b<2 ^ t):a <<< t ||| b<2 ^ (s+t):=by
 rw [<-Nat.shiftLeft_add_eq_or_of_lt hb,Nat.shiftLeft_eq,Nat.pow_add]
 calc a*2 ^ t+b<a*2 ^ t+2 ^ t:=by omega
  _=(a+1)*2 ^ t:=by rw [Nat.add_mul];omega
  _<=2 ^ s*2 ^ t:=Nat.mul_le_mul_right _ ha
theorem zrx:∀ (fs:List (Int×Nat)),okF fs=true->(∀ x∈fs.map (·.1),1<=x/\x<=64)->zkD fs<2 ^ sumW (fs.map (·.1))
 | [],_,_=>by simp [zkD,sumW]
 | f::r,hok,hw=>by
  simp only [okF,List.all_cons,Bool.and_eq_true,decide_eq_true_eq]at hok
  have h1:=zrx r hok.2 (fun x hx=>hw x (List.mem_cons_of_mem _ hx))
  have h2:=zhv (hw f.1 (by simp)).2 hok.1
  have:=join_lt h1 h2
  rw [zkD,List.map_cons,sumW,Nat.add_comm]
  exact this
theorem zrO {fs:List (Int×Nat)} (hf:fitL 64 (fs.map (·.1))=true) (k:Nat):(∀ x∈(fs.drop k).map (·.1),1<=x/\x<=64)/\sumW ((fs.drop k).map (·.1))<=64:=by
 refine ⟨fun x hx=>zm7 _ _ (by omega) hf x ?_,?_⟩
 · rw [List.map_drop]at hx;exact List.mem_of_mem_drop hx
 · rw [List.map_drop]
   have h1:=znQ k (fs.map (·.1))
   have h2:=zrQ _ _ (by omega) hf
   omega
theorem zvu {fs:List (Int×Nat)} {i:Nat} {x:Int×Nat} (hx:fs[i]?=some x) (hv:¬(x.2:Int)<=zky x.1):okF fs=false:=by
 rw [<-Bool.not_eq_true]
 intro h
 have:=List.all_eq_true.1 h x (List.mem_of_getElem? hx)
 simp at this;exact hv this
def zir (k n m:Int):Bool:=decide (0<=k/\k<=3/\0<=n/\n<=255/\(k=1->n<=32/\m<2 ^ n.toNat)/\(¬k=1->m=0))
theorem zam {k n m:Int} (h:zir k n m=true):0<=k/\k<=3/\0<=n/\n<=255/\(k=1->n<=32/\m<2 ^ n.toNat)/\(¬k=1->m=0):=by
 unfold zir at h;exact of_decide_eq_true h
theorem zfV {k n m:Int} (h:0<=k/\k<=3/\0<=n/\n<=255/\(k=1->n<=32/\m<2 ^ n.toNat)/\(¬k=1->m=0)):zir k n m=true:=by
 unfold zir;exact decide_eq_true h
theorem za6 {k n m:Int} (h:¬(0<=k/\k<=3/\0<=n/\n<=255/\(k=1->n<=32/\m<2 ^ n.toNat)/\(¬k=1->m=0))):zir k n m=false:=by
 unfold zir;exact decide_eq_false h
theorem zvs (n:Int) (h:n<=32):(2:Int) ^ n.toNat<=4294967296:=by
 have:(2:Nat) ^ n.toNat<=2 ^ 32:=Nat.pow_le_pow_right (by decide) (by omega)
 rw [<-zcK];omega
theorem zga {k n m:Int} (h:zir k n m=true):m<4294967296:=by
 obtain ⟨h1,h2,h3,h4,h5,h6⟩:=zam h
 by_cases c:k=1
 · obtain ⟨h7,h8⟩:=h5 c;have:=zvs n h7;omega
 · have:=h6 c;omega
def zjK (k n m:Int):Int:=1+4*k+16*n+65536*m
def encV (k n m:Int):Int:=if zir k n m then zjK k n m else 0
def encE (k n m:Int):Int:=if zir k n m then 0 else 1
theorem zwt {k n m:Int} (h:zir k n m=true):encV k n m=zjK k n m/\encE k n m=0:=by
 unfold encV encE;rw [if_pos h,if_pos h];exact ⟨rfl,rfl⟩
theorem zwu {k n m:Int} (h:zir k n m=false):encV k n m=0/\encE k n m=1:=by
 unfold encV encE;rw [if_neg (by simp [h]),if_neg (by simp [h])];exact ⟨rfl,rfl⟩
theorem ztl {k n m:Int} (h:zir k n m=true) (hm:0<=m):0<=zjK k n m/\zjK k n m<281474976710656:=by
 have:=zga h
 obtain ⟨h1,h2,h3,h4,h5,h6⟩:=zam h
 unfold zjK;omega
def dK (x:Nat):Nat:=x / 4 % 4
def dN (x:Nat):Nat:=x / 16 % 4096
def dM (x:Nat):Nat:=x / 65536 % 4294967296
def okD (x:Nat):Bool:=decide (x % 4=1)&&decide (x<281474976710656)&&zir (dK x) (dN x) (dM x)
def decK (x:Nat):Int:=if okD x then dK x else 0
def decN (x:Nat):Int:=if okD x then dN x else 0
def decM (x:Nat):Int:=if okD x then dM x else 0
theorem zma {x:Nat} (h:okD x=true):decK x=dK x/\decN x=dN x/\decM x=dM x:=by
 unfold decK decN decM;rw [if_pos h,if_pos h,if_pos h];exact ⟨rfl,rfl,rfl⟩
theorem zo0 {x:Nat} (h:okD x=false):decK x=0/\decN x=0/\decM x=0:=by
 unfold decK decN decM;rw [if_neg (by simp [h]),if_neg (by simp [h]),if_neg (by simp [h])];exact ⟨rfl,rfl,rfl⟩
theorem za8 {x:Nat} (h:okD x=true):x % 4=1/\x<281474976710656/\zir (dK x) (dN x) (dM x)=true:=by
 unfold okD at h;simp only [Bool.and_eq_true,decide_eq_true_eq]at h;exact ⟨h.1.1,h.1.2,h.2⟩
theorem zwl {x:Nat} (h1:x % 4=1) (h2:x<281474976710656) (h3:zir (dK x) (dN x) (dM x)=true):okD x=true:=by
 unfold okD;simp only [Bool.and_eq_true,decide_eq_true_eq];exact ⟨⟨h1,h2⟩,h3⟩
theorem zt1 {x:Nat} (h:¬x % 4=1\/¬x<281474976710656\/zir (dK x) (dN x) (dM x)=false):okD x=false:=by
 rw [<-Bool.not_eq_true];intro c;obtain ⟨h1,h2,h3⟩:=za8 c
 rcases h with h | h | h
 · exact h h1
 · exact h h2
 · rw [h3]at h;cases h
theorem zv0 {x:Nat} (h:okD x=true):zjK (dK x) (dN x) (dM x)=x:=by
 obtain ⟨h1,h2,h3⟩:=za8 h
 obtain ⟨_,_,_,h4,_,_⟩:=zam h3
 unfold zjK dK dN dM at *;omega
theorem zu8 {k n m:Int} (h:zir k n m=true) (hm:0<=m) {x:Nat} (hx:zjK k n m=x):okD x=true/\(dK x:Int)=k/\(dN x:Int)=n/\(dM x:Int)=m:=by
 have hm2:=zga h
 obtain ⟨h1,h2,h3,h4,h5,h6⟩:=zam h
 have e1:(dK x:Int)=k:=by unfold zjK at hx;unfold dK;omega
 have e2:(dN x:Int)=n:=by unfold zjK at hx;unfold dN;omega
 have e3:(dM x:Int)=m:=by unfold zjK at hx;unfold dM;omega
 refine ⟨zwl ?_ ?_ ?_,e1,e2,e3⟩
 · unfold zjK at hx;omega
 · unfold zjK at hx;omega
 · rw [e1,e2,e3];exact h
theorem zmh {x:Nat}:okD x=true↔zir (dK x) (dN x) (dM x)=true/\zjK (dK x) (dN x) (dM x)=x :=
 ⟨fun h=>⟨(za8 h).2.2,zv0 h⟩,fun h=>(zu8 h.1 (Int.natCast_nonneg _) h.2).1⟩
def fwdV (a:Int):Int:=if a<4294967296 then 4*a+2 else 0
def fwdE (a:Int):Int:=if a<4294967296 then 0 else 1
theorem zwp {a:Int} (h:a<4294967296):fwdV a=4*a+2/\fwdE a=0:=by
 unfold fwdV fwdE;rw [if_pos h,if_pos h];exact ⟨rfl,rfl⟩
def okT (x:Nat):Bool:=decide (x % 4=2)&&decide (x<17179869184)
def tgtV (x:Nat):Int:=if okT x then ((x / 4:Nat):Int) else 0
theorem zn8 {x:Nat} (h:okT x=true):x % 4=2/\x<17179869184:=by
 unfold okT at h;simp only [Bool.and_eq_true,decide_eq_true_eq]at h;exact h
theorem okT_mk {x:Nat} (h1:x % 4=2) (h2:x<17179869184):okT x=true:=by
 unfold okT;simp only [Bool.and_eq_true,decide_eq_true_eq];exact ⟨h1,h2⟩
theorem zwg {x:Nat} (h:okT x=true):tgtV x=((x / 4:Nat):Int):=by unfold tgtV;rw [if_pos h]
theorem tgt_no {x:Nat} (h:okT x=false):tgtV x=0:=by unfold tgtV;rw [if_neg (by simp [h])]
theorem apart (x:Nat):¬(okD x=true/\okT x=true):=by
 rintro ⟨h,k⟩;have:=(za8 h).1;have:=(zn8 k).1;omega
def ziC (k n m:Int):Int:=if zir k n m then n+1 else 0
theorem zjA {k n m:Int} (h:zir k n m=true):ziC k n m=n+1:=by unfold ziC;rw [if_pos h]
theorem zpC {k n m:Int} (h:zir k n m=false):ziC k n m=0:=by unfold ziC;rw [if_neg (by simp [h])]
def ptrB (k n m i:Int):Bool:=zir k n m&&decide (0<=i)&&decide (i<n)&&(decide (k=2) || (decide (k=1)&&m.toNat.testBit i.toNat))
def zkj (k n m:Int) (j:Nat):List Int:=((List.range j).map Int.ofNat).filter (fun i=>ptrB k n m i)
def zlW (k n m:Int):List Int:=if zir k n m then zkj k n m n.toNat else []
theorem zpI (k n m:Int) (j:Nat):zkj k n m (j+1)=if ptrB k n m j then zkj k n m j++[(j:Int)] else zkj k n m j:=by
 unfold zkj
 rw [List.range_succ,List.map_append,List.filter_append]
 by_cases h:ptrB k n m j=true
 · rw [if_pos h]
   have:([j].map Int.ofNat).filter (fun i=>ptrB k n m i)=[(j:Int)]:=by simp [h]
   rw [this]
 · rw [if_neg h]
   have:([j].map Int.ofNat).filter (fun i=>ptrB k n m i)=[]:=by simp [h]
   rw [this,List.append_nil]
theorem zsh (k n m:Int) (j:Nat):(zkj k n m j).length<=j:=by
 unfold zkj;refine Nat.le_trans (List.length_filter_le _ _) ?_;simp
theorem zsg {k n m:Int} {j:Nat} {x:Int} (h:x∈zkj k n m j):ptrB k n m x=true:=(List.mem_filter.1 h).2
theorem ztJ {k n m:Int} {x:Int} (h:x∈zlW k n m):ptrB k n m x=true:=by
 unfold zlW at h
 by_cases c:zir k n m=true
 · rw [if_pos c]at h;exact zsg h
 · rw [if_neg c]at h;cases h
theorem ptrs_ok {k n m:Int} (h:zir k n m=true):zlW k n m=zkj k n m n.toNat:=by unfold zlW;rw [if_pos h]
theorem ptrs_no {k n m:Int} (h:zir k n m=false):zlW k n m=[]:=by unfold zlW;rw [if_neg (by simp [h])]
def okA (len:Nat) (a:Int) (n:Nat):Bool:=decide (4096<=a/\a-4096+n<=len)
theorem zmD (i:Nat):((4096+(i:Int))-4096).toNat=i:=by omega
def zlD (len:Nat) (a:Int):Int:=if okA len a 1 then a-4096 else 0
def zlE (len:Nat) (a:Int):Int:=if okA len a 1 then 0 else 2
def zit (xs:List Int) (a:Int):Int:=if okA xs.length a 1 then xs.getD (a-4096).toNat 0 else 0
def zlA (xs:List Int) (a:Int):Int:=if okA xs.length a 1 then 0 else 2
def zlw (xs:List Int) (a n:Int):List Int:=if n<0 then [] else if okA xs.length a n.toNat then (xs.drop (a-4096).toNat).take n.toNat else []
def zmv (xs:List Int) (a n:Int):Int:=if n<0 then 1 else if okA xs.length a n.toNat then 0 else 2
def ziw (xs:List Int) (a:Int) (l:List Int):List Int:=if okA xs.length a l.length then splice xs (a-4096).toNat l else []
def zjo (xs:List Int) (a:Int) (l:List Int):Int:=if okA xs.length a l.length then 0 else 2
def zkd (xs:List Int) (t f n:Int):List Int:=if n<0 then [] else if okA xs.length t n.toNat/\okA xs.length f n.toNat then splice xs (t-4096).toNat ((xs.drop (f-4096).toNat).take n.toNat) else []
def moveE (xs:List Int) (t f n:Int):Int:=if n<0 then 1 else if okA xs.length t n.toNat/\okA xs.length f n.toNat then 0 else 2
theorem nneg (n:Nat):¬((n:Int)<0):=by omega
theorem index_ok {len i:Nat} (h:okA len (4096+(i:Int)) 1=true):zlD len (4096+(i:Int))=i/\zlE len (4096+(i:Int))=0:=by
 unfold zlD zlE;rw [if_pos h,if_pos h];exact ⟨by omega,rfl⟩
theorem zvM {xs:List Int} {i:Nat} {x:Int} (h:okA xs.length (4096+(i:Int)) 1=true) (hx:xs[i]?=some x):zit xs (4096+(i:Int))=x/\zlA xs (4096+(i:Int))=0:=by
 unfold zit zlA;rw [if_pos h,if_pos h,zmD,List.getD_eq_getElem?_getD,hx];exact ⟨rfl,rfl⟩
theorem zvm {xs:List Int} {a n:Int} (h:n<0):zlw xs a n=[]/\zmv xs a n=1:=by
 unfold zlw zmv;rw [if_pos h,if_pos h];exact ⟨rfl,rfl⟩
theorem read_ok {xs:List Int} {i n:Nat} (h:okA xs.length (4096+(i:Int)) n=true):zlw xs (4096+(i:Int)) n=(xs.drop i).take n/\zmv xs (4096+(i:Int)) n=0:=by
 unfold zlw zmv;rw [if_neg (nneg n),if_neg (nneg n),Int.toNat_natCast,if_pos h,if_pos h,zmD];exact ⟨rfl,rfl⟩
theorem read_no {xs:List Int} {a:Int} {n:Nat} (h:okA xs.length a n=false):zlw xs a n=[]/\zmv xs a n=2:=by
 unfold zlw zmv;rw [if_neg (nneg n),if_neg (nneg n),Int.toNat_natCast,if_neg (by simp [h]),if_neg (by simp [h])];exact ⟨rfl,rfl⟩
theorem zu6 {xs l:List Int} {i:Nat} (h:okA xs.length (4096+(i:Int)) l.length=true):ziw xs (4096+(i:Int)) l=splice xs i l/\zjo xs (4096+(i:Int)) l=0:=by
 unfold ziw zjo;rw [if_pos h,if_pos h,zmD];exact ⟨rfl,rfl⟩
theorem zu7 {xs l:List Int} {a:Int} (h:okA xs.length a l.length=false):ziw xs a l=[]/\zjo xs a l=2:=by
 unfold ziw zjo;rw [if_neg (by simp [h]),if_neg (by simp [h])];exact ⟨rfl,rfl⟩
theorem zbe {xs l:List Int} {i:Nat} (h:i+l.length<=xs.length):(splice xs i l).length=xs.length:=length_splice xs i l h
theorem zcw {xs l:List Int} {i j:Nat} (h:i+l.length<=xs.length) (h1:i<=j) (h2:j<i+l.length):(splice xs i l)[j]?=l[j-i]?:=by
 unfold splice
 have e:(xs.take i).length=i:=by rw [List.length_take];omega
 rw [List.getElem?_append_right (by omega),e,List.getElem?_append_left (by omega)]
theorem zcY {xs l:List Int} {i j:Nat} (h:i+l.length<=xs.length) (h1:j<i\/i+l.length<=j):(splice xs i l)[j]?=xs[j]?:=by
 unfold splice
 have e:(xs.take i).length=i:=by rw [List.length_take];omega
 rcases h1 with h1 | h1
 · rw [List.getElem?_append_left (by omega),List.getElem?_take,if_pos h1]
 · rw [List.getElem?_append_right (by omega),e,List.getElem?_append_right (by omega),List.getElem?_drop]
   congr 1;omega
structure Hd where
 k:Int
 n:Int
 m:Int
 deriving DecidableEq
def Hd.zero:Hd:=⟨0,0,0⟩
def okH (h:Hp):Bool:=zj8 h.pw h.np h.words.length h.pages h.space h.bump
def zjy (h:Hp) (a:Int):Pg:=h.pages.getD (ofI h.pw h.np a).toNat Pg.zero
def ziE (h:Hp) (a:Int):Nat:=(h.words.getD (a-4096).toNat 0).toNat
def hdOf (x:Nat):Hd:=⟨dK x,dN x,dM x⟩
def atB (h:Hp) (a:Int):Bool :=
 decide ((zjy h a).kind=1\/(zjy h a).kind=2)&&decide (ofK h.pw h.np a<(zjy h a).used)&&okD (ziE h a) &&
 (if (zjy h a).kind=1 then decide (ofK h.pw h.np a+(dN (ziE h a)+1)<=(zjy h a).used) else decide (ofK h.pw h.np a=0/\(dN (ziE h a):Int)+1=(zjy h a).used))
def atE (h:Hp) (a:Int):Int:=if okH h then (if ofE h.pw h.np a=0 then (if atB h a then 0 else 19) else 2) else 1
def atH (h:Hp) (a:Int):Hd:=if atE h a=0 then hdOf (ziE h a) else Hd.zero
def getE (h:Hp) (a:Int):Int:=if okH h then (if a=0 then 5 else if atE h a=0/\(atH h a).k=0 then 4 else atE h a) else 1
def getH (h:Hp) (a:Int):Hd:=if getE h a=0 then atH h a else Hd.zero
def zlf (h:Hp) (a i:Int):Int:=if getE h a=0 then (if i<0\/(getH h a).n<=i then 2 else zlA h.words (a+1+i)) else getE h a
def zwq (h:Hp) (a i:Int):Int:=if getE h a=0 then (if i<0\/(getH h a).n<=i then 0 else zit h.words (a+1+i)) else 0
def setE (h:Hp) (a i:Int):Int:=zlf h a i
def setV (h:Hp) (a i v:Int):Hp:=if zlf h a i=0 then { h with words:=ziw h.words (a+1+i) [v] } else Hp.zero
theorem zan {h:Hp} (hp:okH h=true):confB h.pw h.np=true/\(h.words.length:Int)=h.np*h.pw/\(h.pages.length:Int)=h.np/\0<=h.space/\h.space<=1/\zkI h.pages h.bump=true/\ziy h.pw h.np h.pages 0=true:=by
 unfold okH zj8 at hp
 simp only [Bool.and_eq_true,decide_eq_true_eq]at hp
 obtain ⟨⟨⟨⟨⟨h1,h2⟩,h3⟩,h4⟩,h5⟩,h6⟩:=hp
 exact ⟨h1,h2,h3,h4.1,h4.2,h5,h6⟩
theorem zbC (pw np:Int):∀ (ps:List Pg) (due:Int),ziy pw np ps due=true->∀ x∈ps,0<=x.space/\x.space<=1/\0<=x.pins/\x.pins<=2147483647/\(x.kind=0->x=Pg.zero)/\(x.kind=1->0<=x.used/\x.used<=pw)/\(x.kind=2->1<=ziq pw np x.used)/\(x.kind=3->x.used=0/\x.pins=0)/\(x.kind=0\/x.kind=1\/x.kind=2\/x.kind=3)
 | [],_,_,x,hx=>by cases hx
 | y::r,due,h,x,hx=>by
  rw [ziy]at h
  cases hs:zjn pw np y r due with
  | none=>rw [hs]at h;cases h
  | some d=>
   rw [hs]at h
   rcases List.mem_cons.1 hx with rfl | hx
   · unfold zjn at hs
     split at hs
     · cases hs
     · rename_i hA
       have h1:0<=x.space:=by omega
       have h2:x.space<=1:=by omega
       have h3:zkr x.pins=true:=by
        cases hp:zkr x.pins
        · exact absurd (Or.inr (Or.inr (Or.inr hp))) hA
        · rfl
       have h4:=of_decide_eq_true h3
       refine ⟨h1,h2,h4.1,h4.2,?_⟩
       split at hs
       · rename_i k
         refine ⟨fun _=>?_,fun c=>by omega,fun c=>by omega,fun c=>by omega,Or.inl k⟩
         split at hs
         · assumption
         · cases hs
       · split at hs
         · rename_i k
           refine ⟨fun c=>by omega,fun _=>?_,fun c=>by omega,fun c=>by omega,Or.inr (Or.inl k)⟩
           split at hs
           · cases hs
           · omega
         · split at hs
           · rename_i k
             refine ⟨fun c=>by omega,fun c=>by omega,fun _=>?_,fun c=>by omega,Or.inr (Or.inr (Or.inl k))⟩
             split at hs
             · cases hs
             · omega
           · split at hs
             · rename_i k
               refine ⟨fun c=>by omega,fun c=>by omega,fun c=>by omega,fun _=>?_,Or.inr (Or.inr (Or.inr k))⟩
               split at hs
               · assumption
               · cases hs
             · cases hs
   · exact zbC pw np r d h x hx
theorem zt2 {h:Hp} {a:Int} (hp:okH h=true) (he:ofE h.pw h.np a=0):inAr h.pw h.np a=true/\(∃ i j:Nat,ofI h.pw h.np a=i/\ofK h.pw h.np a=j/\i<h.pages.length/\(j:Int)<h.pw/\a=4096+i*h.pw+j)/\(∃ t:Nat,a=4096+t/\t<h.words.length):=by
 obtain ⟨h1,h2,h3,_⟩:=zan hp
 have hc:=zai h1
 have hin:inAr h.pw h.np a=true:=by
  cases hi:inAr h.pw h.np a
  · rw [(zkz h1 hi).2.2]at he;cases he
  · rfl
 obtain ⟨e1,e2,_⟩:=zlY h1 hin
 obtain ⟨b1,b2⟩:=of_decide_eq_true hin
 have m1:=Int.emod_nonneg (a-4096) (show h.pw≠0 by omega)
 have m2:=Int.emod_lt_of_pos (a-4096) (show 0<h.pw by omega)
 have d1:0<=(a-4096) / h.pw:=Int.ediv_nonneg (by omega) (by omega)
 have d2:(a-4096) / h.pw<h.np:=Int.ediv_lt_of_lt_mul (by omega) (by omega)
 have de:=Int.mul_ediv_add_emod (a-4096) h.pw
 refine ⟨hin,⟨((a-4096) / h.pw).toNat,((a-4096) % h.pw).toNat,by rw [e1];omega,by rw [e2];omega,by omega,by omega,?_⟩,⟨(a-4096).toNat,by omega,by omega⟩⟩
 rw [Int.toNat_of_nonneg d1,Int.toNat_of_nonneg m1,Int.mul_comm]
 omega
theorem zpJ {pw np:Int} {ps:List Pg} {k:Nat} {x:Pg} (h:ps[k]?=some x) (due:Int):ziy pw np (ps.drop k) due=match zjn pw np x (ps.drop (k+1)) due with | some d=>ziy pw np (ps.drop (k+1)) d | none=>false:=by
 obtain ⟨hk,rfl⟩:=List.getElem?_eq_some_iff.1 h
 rw [List.drop_eq_getElem_cons hk,ziy]
def wrow (xs l:List Int) (i k:Nat):List Int:=splice xs i (l.take k)
theorem zmg {xs l:List Int} {i k:Nat} (h:i+l.length<=xs.length):(wrow xs l i k).length=xs.length:=by
 unfold wrow;rw [zbe (by rw [List.length_take];omega)]
theorem znJ (xs l:List Int) (i:Nat):wrow xs l i 0=xs:=by unfold wrow splice;simp
theorem zri {xs l:List Int} {i k:Nat} (h:l.length<=k):wrow xs l i k=splice xs i l:=by unfold wrow;rw [List.take_of_length_le h]
theorem zrh {xs l:List Int} {i k:Nat} {x:Int} (h:i+l.length<=xs.length) (hx:l[k]?=some x):(wrow xs l i k).set (i+k) x=wrow xs l i (k+1):=by
 have hk:=(List.getElem?_eq_some_iff.1 hx).1
 apply List.ext_getElem?
 intro j
 have hl1:(l.take k).length=k:=by rw [List.length_take];omega
 have hl2:(l.take (k+1)).length=k+1:=by rw [List.length_take];omega
 rw [List.getElem?_set]
 by_cases h1:i+k=j
 · subst h1
   rw [if_pos rfl,if_pos (by rw [zmg h];omega)]
   unfold wrow
   rw [zcw (by omega) (by omega) (by omega),List.getElem?_take,if_pos (by omega),show i+k-i=k from by omega,hx]
 · rw [if_neg h1]
   unfold wrow
   by_cases h2:i<=j/\j<i+k
   · rw [zcw (by omega) (by omega) (by omega),zcw (by omega) (by omega) (by omega),List.getElem?_take,List.getElem?_take,if_pos (by omega),if_pos (by omega)]
   · rw [zcY (by omega) (by omega),zcY (by omega) (by omega)]
theorem ztH (xs:List Int) (a m:Int):(zlw xs a m).length<=xs.length:=by
 unfold zlw
 by_cases h1:m<0
 · rw [if_pos h1];exact Nat.zero_le _
 · rw [if_neg h1]
   by_cases h2:okA xs.length a m.toNat=true
   · rw [if_pos h2,List.length_take,List.length_drop];omega
   · rw [if_neg h2];exact Nat.zero_le _
theorem zuM {h:Hp} {a:Int} (h1:okH h=false):atE h a=1/\atH h a=Hd.zero:=by
 have e:atE h a=1:=by unfold atE;rw [if_neg (by simp [h1])]
 exact ⟨e,by unfold atH;rw [if_neg (by rw [e];decide)]⟩
theorem zlO {h:Hp} {a:Int} (h1:okH h=true) (h2:¬ofE h.pw h.np a=0):atE h a=2/\atH h a=Hd.zero:=by
 have e:atE h a=2:=by unfold atE;rw [if_pos h1,if_neg h2]
 exact ⟨e,by unfold atH;rw [if_neg (by rw [e];decide)]⟩
theorem zpb {h:Hp} {a:Int} (h1:okH h=true) (h2:ofE h.pw h.np a=0) (h3:atB h a=false):atE h a=19/\atH h a=Hd.zero:=by
 have e:atE h a=19:=by unfold atE;rw [if_pos h1,if_pos h2,if_neg (by simp [h3])]
 exact ⟨e,by unfold atH;rw [if_neg (by rw [e];decide)]⟩
theorem zpa {h:Hp} {a:Int} (h1:okH h=true) (h2:ofE h.pw h.np a=0) (h3:atB h a=true):atE h a=0/\atH h a=hdOf (ziE h a):=by
 have e:atE h a=0:=by unfold atE;rw [if_pos h1,if_pos h2,if_pos h3]
 exact ⟨e,by unfold atH;rw [if_pos e]⟩
theorem word_of {h:Hp} {a:Int} (hw:WB h.words) (hp:okH h=true) (he:ofE h.pw h.np a=0):zit h.words a=ziE h a/\zlA h.words a=0/\ziE h a<18446744073709551616:=by
 obtain ⟨_,_,t,rfl,ht⟩:=zt2 hp he
 have hx:h.words[t]?=some (h.words[t]):=List.getElem?_eq_getElem ht
 have hk:okA h.words.length (4096+(t:Int)) 1=true:=decide_eq_true (by omega)
 obtain ⟨e1,e2⟩:=zvM hk hx
 obtain ⟨b1,b2⟩:=hw _ (List.getElem_mem ht)
 have e3:ziE h (4096+(t:Int))=(h.words[t]).toNat:=by unfold ziE;rw [zmD,List.getD_eq_getElem?_getD,hx];rfl
 rw [e1,e2,e3]
 exact ⟨by omega,rfl,by omega⟩
theorem zef {h:Hp} {a:Int} (e:¬getE h a=0):getH h a=Hd.zero:=by unfold getH;rw [if_neg e]
theorem zvV {h:Hp} {a:Int} (h1:okH h=false):getE h a=1/\getH h a=Hd.zero:=by
 have e:getE h a=1:=by unfold getE;rw [if_neg (by simp [h1])]
 exact ⟨e,zef (by rw [e];decide)⟩
theorem zuw {h:Hp} (h1:okH h=true):getE h 0=5/\getH h 0=Hd.zero:=by
 have e:getE h 0=5:=by unfold getE;rw [if_pos h1,if_pos rfl]
 exact ⟨e,zef (by rw [e];decide)⟩
theorem zux {h:Hp} {a:Int} (h1:okH h=true) (h2:¬a=0) (h3:atE h a=0) (h4:(atH h a).k=0):getE h a=4/\getH h a=Hd.zero:=by
 have e:getE h a=4:=by unfold getE;rw [if_pos h1,if_neg h2,if_pos ⟨h3,h4⟩]
 exact ⟨e,zef (by rw [e];decide)⟩
theorem getE_at {h:Hp} {a:Int} (h1:okH h=true) (h2:¬a=0) (h3:¬(atE h a=0/\(atH h a).k=0)):getE h a=atE h a/\getH h a=atH h a:=by
 have e:getE h a=atE h a:=by unfold getE;rw [if_pos h1,if_neg h2,if_neg h3]
 refine ⟨e,?_⟩
 unfold getH
 by_cases h4:getE h a=0
 · rw [if_pos h4]
 · rw [if_neg h4];rw [e]at h4;unfold atH;rw [if_neg h4]
theorem zqm {h:Hp} {a:Int} (e:getE h a=0):okH h=true/\atE h a=0/\getH h a=atH h a/\ofE h.pw h.np a=0/\atB h a=true/\4096<=a/\a<8192/\0<=(getH h a).n/\(getH h a).n<=255/\¬(getH h a).k=0:=by
 have h1:okH h=true:=by
  cases h1:okH h
  · rw [(zvV (a:=a) h1).1]at e;cases e
  · rfl
 have h2:¬a=0:=by intro h2;subst h2;rw [(zuw h1).1]at e;cases e
 have h3:¬(atE h a=0/\(atH h a).k=0):=by rintro ⟨h3,h4⟩;rw [(zux h1 h2 h3 h4).1]at e;cases e
 obtain ⟨e1,e2⟩:=getE_at h1 h2 h3
 have h4:atE h a=0:=by rw [<-e1];exact e
 have h5:ofE h.pw h.np a=0:=by
  by_cases h5:ofE h.pw h.np a=0
  · exact h5
  · rw [(zlO h1 h5).1]at h4;cases h4
 have h6:atB h a=true:=by
  cases h6:atB h a
  · rw [(zpb h1 h5 h6).1]at h4;cases h4
  · rfl
 obtain ⟨hin,_,t,ht,htl⟩:=zt2 h1 h5
 obtain ⟨g1,g2,_⟩:=zan h1
 have:=(conf_prod g1).2
 have hok:okD (ziE h a)=true:=by
  unfold atB at h6
  simp only [Bool.and_eq_true]at h6
  exact h6.1.2
 have hv:=zam (za8 hok).2.2
 have hH:getH h a=hdOf (ziE h a):=by rw [e2,(zpa h1 h5 h6).2]
 refine ⟨h1,h4,e2,h5,h6,by omega,by omega,?_,?_,?_⟩
 · rw [hH];exact hv.2.2.1
 · rw [hH];exact hv.2.2.2.1
 · rw [e2];intro c;exact h3 ⟨h4,c⟩
theorem znL {xs l:List Int} {i:Nat} (h:WB xs) (hl:WB l):WB (splice xs i l):=by
 intro x hx
 unfold splice at hx
 rcases List.mem_append.1 hx with hx | hx
 · exact h x (List.mem_of_mem_take hx)
 · rcases List.mem_append.1 hx with hx | hx
   · exact hl x hx
   · exact h x (List.mem_of_mem_drop hx)
theorem zcW {xs l:List Int} {a:Int} (h:WB xs) (hl:WB l):WB (ziw xs a l):=by
 unfold ziw
 split
 · exact znL h hl
 · exact WB.nil
def zkH (k n m:Int):List Int:=zjK k n m::List.replicate n.toNat 0
def zj5 (h:Hp) (a k n m:Int):Int:=if zir k n m=true/\okH h=true then zjo h.words a (zkH k n m) else 1
def zk6 (h:Hp) (a k n m:Int):Hp:=if zj5 h a k n m=0 then { h with words:=ziw h.words a (zkH k n m) } else Hp.zero
theorem zgF {k n m:Int}:(zkH k n m).length=n.toNat+1:=by unfold zkH;rw [List.length_cons,List.length_replicate]
theorem zvT {k n m:Int} (h:zir k n m=true) (hm:0<=m):WB (zkH k n m):=by
 intro x hx
 rcases List.mem_cons.1 hx with rfl | hx
 · have:=ztl h hm;omega
 · exact WB.zeros _ x hx
def zuE (h:Hp) (a:Int):Int:=if getE h a=0 then zmv h.words (a+1) (getH h a).n else getE h a
def zk7 (h:Hp) (a:Int):List Int:=if getE h a=0 then zlw h.words (a+1) (getH h a).n else []
theorem zlQ (pw np p o:Int):0<=ziR pw np p o/\ziR pw np p o<18446744073709551616:=by
 cases h:confB pw np
 · unfold ziR;rw [h];simp
 · cases h1:inPg pw np p o
   · rw [(znn h h1).1];omega
   · rw [(zlb h h1).1]
     have hc:=conf_prod h
     obtain ⟨a1,a2,a3,a4⟩:=of_decide_eq_true h1
     obtain ⟨c1,c2,_⟩:=zai h
     have e1:p*pw<=(np-1)*pw:=Int.mul_le_mul_of_nonneg_right (by omega) (by omega)
     have e2:(np-1)*pw=np*pw-pw:=by rw [Int.sub_mul,Int.one_mul]
     have e3:0<=p*pw:=Int.mul_nonneg a1 (by omega)
     omega
theorem zo9 {h:Hp} {a:Int} (e:atE h a=0):okH h=true/\zir (atH h a).k (atH h a).n (atH h a).m=true/\0<=(atH h a).m/\(atH h a).m<4294967296/\0<=(atH h a).n/\(atH h a).n<=255:=by
 have h1:okH h=true:=by
  cases h1:okH h
  · unfold atE at e;rw [h1]at e;simp at e
  · rfl
 have h5:ofE h.pw h.np a=0:=by
  by_cases h5:ofE h.pw h.np a=0
  · exact h5
  · rw [(zlO h1 h5).1]at e;cases e
 have h6:atB h a=true:=by
  cases h6:atB h a
  · rw [(zpb h1 h5 h6).1]at e;cases e
  · rfl
 have hok:okD (ziE h a)=true:=by
  unfold atB at h6
  simp only [Bool.and_eq_true]at h6
  exact h6.1.2
 have hv:=(za8 hok).2.2
 have hp:=zam hv
 have hm:=zga hv
 rw [(zpa h1 h5 h6).2]
 exact ⟨h1,hv,Int.natCast_nonneg _,hm,hp.2.2.1,hp.2.2.2.1⟩
theorem zww {h:Hp} {a:Int} (e:¬atE h a=0):atH h a=Hd.zero:=by unfold atH;exact if_neg e
def zjp (h:Hp) (i:Int) (big:Bool) (u o:Nat):Option (List Int) :=
 if _hlt:o<u then
  if atE h (ziR h.pw h.np i o)=0 then
   if big then some [ziR h.pw h.np i o]
   else (zjp h i big u (o+((atH h (ziR h.pw h.np i o)).n.toNat+1))).map (ziR h.pw h.np i o :: ·)
  else none
 else some []
 termination_by u-o
theorem zaU {h:Hp} {i:Int} {big:Bool} {u o:Nat} (hlt:¬o<u):zjp h i big u o=some []:=by
 rw [zjp,dif_neg hlt]
theorem zbJ {h:Hp} {i:Int} {big:Bool} {u o:Nat} (hlt:o<u) (e:¬atE h (ziR h.pw h.np i o)=0):zjp h i big u o=none:=by
 rw [zjp,dif_pos hlt,if_neg e]
theorem zcX {h:Hp} {i:Int} {u o:Nat} (hlt:o<u) (e:atE h (ziR h.pw h.np i o)=0):zjp h i true u o=some [ziR h.pw h.np i o]:=by
 rw [zjp,dif_pos hlt,if_pos e,if_pos rfl]
theorem zbB {h:Hp} {i:Int} {u o:Nat} (hlt:o<u) (e:atE h (ziR h.pw h.np i o)=0):zjp h i false u o=(zjp h i false u (o+((atH h (ziR h.pw h.np i o)).n.toNat+1))).map (ziR h.pw h.np i o :: ·):=by
 rw [zjp,dif_pos hlt,if_pos e,if_neg (by decide)]
def zjz (h:Hp) (i:Int) (big:Bool) (u o:Nat) (acc:List Int):Prop:=zjp h i big u 0=(zjp h i big u o).map (acc ++ ·)
theorem zjz.start (h:Hp) (i:Int) (big:Bool) (u:Nat):zjz h i big u 0 []:=by
 unfold zjz;cases zjp h i big u 0 <;> simp
theorem zjz.fin {h:Hp} {i:Int} {big:Bool} {u o:Nat} {acc:List Int} (hw:zjz h i big u o acc) (hlt:¬o<u):zjp h i big u 0=some acc:=by
 unfold zjz at hw;rw [hw,zaU hlt];simp
theorem zjz.bad {h:Hp} {i:Int} {big:Bool} {u o:Nat} {acc:List Int} (hw:zjz h i big u o acc) (hlt:o<u) (e:¬atE h (ziR h.pw h.np i o)=0):zjp h i big u 0=none:=by
 unfold zjz at hw;rw [hw,zbJ hlt e];rfl
theorem zjz.big {h:Hp} {i:Int} {u o:Nat} {acc:List Int} (hw:zjz h i true u o acc) (hlt:o<u) (e:atE h (ziR h.pw h.np i o)=0):zjp h i true u 0=some (acc++[ziR h.pw h.np i o]):=by
 unfold zjz at hw;rw [hw,zcX hlt e];rfl
theorem zjz.step {h:Hp} {i:Int} {u o:Nat} {acc:List Int} (hw:zjz h i false u o acc) (hlt:o<u) (e:atE h (ziR h.pw h.np i o)=0):zjz h i false u (o+((atH h (ziR h.pw h.np i o)).n.toNat+1)) (acc++[ziR h.pw h.np i o]):=by
 unfold zjz at hw ⊢;rw [hw,zbB hlt e]
 cases zjp h i false u (o+((atH h (ziR h.pw h.np i o)).n.toNat+1)) <;> simp
def pgAt (h:Hp) (i:Int):Pg:=h.pages.getD i.toNat Pg.zero
def zjZ (h:Hp) (i:Int):Option (List Int):=zjp h i (decide ((pgAt h i).kind=2)) (pgAt h i).used.toNat 0
def zjt (h:Hp) (i:Int):Int:=if okH h then (if i<0\/h.pages.length<=i then 2 else if (pgAt h i).kind=0\/(pgAt h i).kind=3 then 0 else if (zjZ h i).isSome then 0 else 19) else 1
def zi7 (h:Hp) (i:Int):List Int:=if okH h then (if i<0\/h.pages.length<=i then [] else if (pgAt h i).kind=0\/(pgAt h i).kind=3 then [] else (zjZ h i).getD []) else []
theorem zmA {h:Hp} {i:Int} (h1:okH h=false):zjt h i=1/\zi7 h i=[]:=by
 unfold zjt zi7;rw [if_neg (by simp [h1]),if_neg (by simp [h1])];exact ⟨rfl,rfl⟩
theorem zmz {h:Hp} {i:Int} (h1:okH h=true) (h2:i<0\/h.pages.length<=i):zjt h i=2/\zi7 h i=[]:=by
 unfold zjt zi7;rw [if_pos h1,if_pos h1,if_pos h2,if_pos h2];exact ⟨rfl,rfl⟩
theorem zcz {h:Hp} {i:Int} (h1:okH h=true) (h2:¬(i<0\/h.pages.length<=i)) (h3:(pgAt h i).kind=0\/(pgAt h i).kind=3):zjt h i=0/\zi7 h i=[]:=by
 unfold zjt zi7;rw [if_pos h1,if_pos h1,if_neg h2,if_neg h2,if_pos h3,if_pos h3];exact ⟨rfl,rfl⟩
theorem zdV {h:Hp} {i:Int} (h1:okH h=true) (h2:¬(i<0\/h.pages.length<=i)) (h3:¬((pgAt h i).kind=0\/(pgAt h i).kind=3)):zjt h i=(if (zjZ h i).isSome then 0 else 19)/\zi7 h i=(zjZ h i).getD []:=by
 unfold zjt zi7;rw [if_pos h1,if_pos h1,if_neg h2,if_neg h2,if_neg h3,if_neg h3];exact ⟨rfl,rfl⟩
theorem zgm {h:Hp} {i:Int} {l:List Int} (h1:okH h=true) (h2:¬(i<0\/h.pages.length<=i)) (h3:¬((pgAt h i).kind=0\/(pgAt h i).kind=3)) (h4:zjZ h i=some l):zjt h i=0/\zi7 h i=l:=by
 obtain ⟨e1,e2⟩:=zdV h1 h2 h3
 rw [e1,e2,h4];exact ⟨rfl,rfl⟩
theorem zn2 {h:Hp} {i:Int} (h1:okH h=true) (h2:¬(i<0\/h.pages.length<=i)) (h3:¬((pgAt h i).kind=0\/(pgAt h i).kind=3)) (h4:zjZ h i=none):zjt h i=19/\zi7 h i=[]:=by
 obtain ⟨e1,e2⟩:=zdV h1 h2 h3
 rw [e1,e2,h4];exact ⟨rfl,rfl⟩
def ztQ (h:Hp) (i o:Int):Int:=zit h.words (ziR h.pw h.np i o)
theorem zrk (h:Hp) (i:Int) (u:Nat):∀ (f o:Nat) (l:List Int),u-o<=f->zjp h i false u o=some l->l.length<=u-o
 | 0,o,l,hf,hl=>by
  rw [zaU (by omega)]at hl;cases hl;simp
 | f+1,o,l,hf,hl=>by
  by_cases hlt:o<u
  · by_cases e:atE h (ziR h.pw h.np i o)=0
    · rw [zbB hlt e]at hl
      cases hr:zjp h i false u (o+((atH h (ziR h.pw h.np i o)).n.toNat+1)) with
      | none=>rw [hr]at hl;cases hl
      | some r=>
       rw [hr]at hl;cases hl
       have:=zrk h i u f _ r (by omega) hr
       rw [List.length_cons];omega
    · rw [zbJ hlt e]at hl;cases hl
  · rw [zaU hlt]at hl;cases hl;simp
theorem zcA {h:Hp} {i:Int} (h1:okH h=true):(zi7 h i).length<=64:=by
 by_cases h2:i<0\/h.pages.length<=i
 · rw [(zmz h1 h2).2];simp
 · by_cases h3:(pgAt h i).kind=0\/(pgAt h i).kind=3
   · rw [(zcz h1 h2 h3).2];simp
   · rw [(zdV h1 h2 h3).2]
     cases hw:zjZ h i with
     | none=>simp
     | some l=>
      rw [Option.getD_some]
      unfold zjZ at hw
      by_cases h4:(pgAt h i).kind=2
      · rw [decide_eq_true h4]at hw
        by_cases hlt:0<(pgAt h i).used.toNat
        · by_cases e:atE h (ziR h.pw h.np i ((0:Nat):Int))=0
          · rw [zcX hlt e]at hw;cases hw;simp
          · rw [zbJ hlt e]at hw;cases hw
        · rw [zaU hlt]at hw;cases hw;simp
      · rw [decide_eq_false h4]at hw
        have hlen:=zrk h i _ _ _ _ (Nat.le_refl _) hw
        obtain ⟨g1,-,-,-,-,-,hL⟩:=zan h1
        have hpw:=(zai g1).2.1
        have hil:i.toNat<h.pages.length:=by omega
        have hmem:pgAt h i∈h.pages:=by
         unfold pgAt;rw [zin (List.getElem?_eq_getElem hil)];exact List.getElem_mem hil
        obtain ⟨-,-,-,-,-,k1,-,-,hk⟩:=zbC _ _ _ _ hL _ hmem
        have:=k1 (by omega)
        omega
theorem ztR {h:Hp} {i:Int} (h1:okH h=true) (h2:¬(i<0\/h.pages.length<=i)) (h3:¬zjt h i=0):zjt h i=19:=by
 unfold zjt at h3 ⊢
 rw [if_pos h1,if_neg h2]at h3 ⊢
 split at h3
 · exact absurd rfl h3
 · rename_i h4
   rw [if_neg h4]
   split at h3
   · exact absurd rfl h3
   · rename_i h5;rw [if_neg h5]
def zi1 (h:Hp) (k:Nat):List Int:=(List.range k).flatMap (fun (j:Nat)=>zi7 h j)
def zkX (h:Hp):Bool:=(List.range h.pages.length).all (fun (j:Nat)=>decide (zjt h j=0))
def ziK (h:Hp):Int:=if okH h then (if zkX h then 0 else 19) else 1
def ziB (h:Hp):List Int:=if okH h then (if zkX h then zi1 h h.pages.length else []) else []
theorem zby {h:Hp} (h1:okH h=false):ziK h=1/\ziB h=[]:=by
 unfold ziK ziB;rw [if_neg (by simp [h1]),if_neg (by simp [h1])];exact ⟨rfl,rfl⟩
theorem znR {h:Hp} {k:Nat} (h1:okH h=true) (hk:k<h.pages.length) (h2:¬zjt h k=0):ziK h=19/\ziB h=[]:=by
 have hB:zkX h=false:=by
  rw [<-Bool.not_eq_true];intro c
  unfold zkX at c
  exact h2 (of_decide_eq_true (List.all_eq_true.1 c k (List.mem_range.2 hk)))
 unfold ziK ziB;rw [if_pos h1,if_pos h1,if_neg (by simp [hB]),if_neg (by simp [hB])];exact ⟨rfl,rfl⟩
theorem zge {h:Hp} (h1:okH h=true) (h2:∀ k:Nat,k<h.pages.length->zjt h k=0):ziK h=0/\ziB h=zi1 h h.pages.length:=by
 have hB:zkX h=true:=by
  unfold zkX
  exact List.all_eq_true.2 fun j hj=>decide_eq_true (h2 j (List.mem_range.1 hj))
 unfold ziK ziB;rw [if_pos h1,if_pos h1,if_pos hB,if_pos hB];exact ⟨rfl,rfl⟩
theorem zbr (h:Hp) (k:Nat):zi1 h (k+1)=zi1 h k++zi7 h k:=by
 unfold zi1;rw [List.range_succ,List.flatMap_append];simp
theorem zcv {h:Hp} (h1:okH h=true):∀ k,(zi1 h k).length<=64*k
 | 0=>by simp [zi1]
 | k+1=>by
  rw [zbr,List.length_append]
  have:=zcv h1 k
  have:=zcA (i:=k) h1
  omega
theorem ztn (h:Hp) (i:Int) (big:Bool) (u:Nat):∀ (f o:Nat) (l:List Int),u-o<=f->zjp h i big u o=some l->WB l
 | 0,o,l,hf,hl=>by
  rw [zaU (by omega)]at hl;cases hl;exact WB.nil
 | f+1,o,l,hf,hl=>by
  by_cases hlt:o<u
  · by_cases e:atE h (ziR h.pw h.np i o)=0
    · cases big
      · rw [zbB hlt e]at hl
        cases hr:zjp h i false u (o+((atH h (ziR h.pw h.np i o)).n.toNat+1)) with
        | none=>rw [hr]at hl;cases hl
        | some r=>
         rw [hr]at hl;cases hl
         intro x hx
         rcases List.mem_cons.1 hx with rfl | hx
         · exact zlQ _ _ _ _
         · exact ztn h i false u f _ r (by omega) hr x hx
      · rw [zcX hlt e]at hl;cases hl
        intro x hx
        rw [List.mem_singleton.1 hx];exact zlQ _ _ _ _
    · rw [zbJ hlt e]at hl;cases hl
  · rw [zaU hlt]at hl;cases hl;exact WB.nil
theorem zru (h:Hp) (i:Int):WB (zi7 h i):=by
 unfold zi7
 split
 · split
   · exact WB.nil
   · split
     · exact WB.nil
     · cases hw:zjZ h i with
       | none=>exact WB.nil
       | some l=>exact ztn h i _ _ _ _ l (Nat.le_refl _) hw
 · exact WB.nil
theorem zeI (h:Hp):WB (ziB h):=by
 unfold ziB
 split
 · split
   · intro x hx
     obtain ⟨j,-,hj⟩:=List.mem_flatMap.1 hx
     exact zru h j x hj
   · exact WB.nil
 · exact WB.nil
theorem zaR (h:Hp):(ziB h).length<=4096:=by
 unfold ziB
 split
 · rename_i h1
   split
   · have:=zcv h1 h.pages.length
     obtain ⟨g1,_,g3,_⟩:=zan h1
     have:=(zai g1).2.2.2.2
     omega
   · simp
 · simp
def zje (h:Hp) (l:List Int):List Int:=l.filter (fun a=>decide (¬(atH h a).k=0))
def zij (h:Hp):List Int:=zje h (ziB h)
theorem objs_in {h:Hp} {l:List Int} {k:Nat} {x:Int} (hx:l[k]?=some x) (hk:¬(atH h x).k=0):zje h (l.take (k+1))=zje h (l.take k)++[x]:=by
 unfold zje;rw [zaC hx,List.filter_append];simp [hk]
theorem zvI {h:Hp} {l:List Int} {k:Nat} {x:Int} (hx:l[k]?=some x) (hk:(atH h x).k=0):zje h (l.take (k+1))=zje h (l.take k):=by
 unfold zje;rw [zaC hx,List.filter_append];simp [hk]
theorem zvJ (h:Hp) (l:List Int) (k:Nat):(zje h (l.take k)).length<=l.length:=by
 unfold zje
 exact Nat.le_trans (List.length_filter_le _ _) (by rw [List.length_take];omega)
def zqp (P:Int->Bool):List Int->Int
 | []=>0
 | x::r=>if P x then x else zqp P r
theorem zvX {P:Int->Bool} {l:List Int} {k:Nat} {x:Int} (h:l[k]?=some x):zqp P (l.drop k)=if P x then x else zqp P (l.drop (k+1)):=by
 obtain ⟨hk,rfl⟩:=List.getElem?_eq_some_iff.1 h
 rw [List.drop_eq_getElem_cons hk,zqp]
theorem zuB {P:Int->Bool} {l:List Int} {k:Nat} (h:l.length<=k):zqp P (l.drop k)=0:=by
 rw [List.drop_eq_nil_of_le h];rfl
theorem atH_m (h:Hp) (a:Int):0<=(atH h a).m/\(atH h a).m<4294967296:=by
 by_cases e:atE h a=0
 · have:=zo9 e;exact ⟨this.2.2.1,this.2.2.2.1⟩
 · rw [zww e];decide
def clsB (h:Hp) (i:Nat) (x:Int):Bool :=
 (decide ((pgAt h i).kind=1) && !decide (ziC (atH h x).k (atH h x).n (atH h x).m<=zlt h.pw h.np)) || (decide ((pgAt h i).kind=2)&&decide ((atH h x).k=0))
def clsV (h:Hp) (i:Nat) (l:List Int):Int:=zqp (clsB h i) l
def zi2 (ps:List Pg):Nat->Nat
 | 0=>0
 | j+1=>if (ps.getD (j+1) Pg.zero).kind=3 then zi2 ps j else j+1
theorem zoQ (ps:List Pg):∀ i,zi2 ps i<=i
 | 0=>Nat.le_refl _
 | j+1=>by unfold zi2;split;exact Nat.le_succ_of_le (zoQ ps j);exact Nat.le_refl _
theorem zut {h:Hp} (h1:okH h=true):¬(h.pages.getD 0 Pg.zero).kind=3:=by
 obtain ⟨-,-,-,-,-,-,hL⟩:=zan h1
 cases hp:h.pages with
 | nil=>simp [Pg.zero]
 | cons x r=>
  rw [hp,ziy]at hL
  intro hk
  have hk':x.kind=3:=hk
  unfold zjn at hL
  rw [if_pos (Or.inl (by rw [hk'];simp))]at hL
  cases hL
def zmi (h:Hp) (x:Int):Int:=if (atH h x).k=0 then 1 else ziC (atH h x).k (atH h x).n (atH h x).m
def zvb (h:Hp) (i:Nat) (l:List Int) (t:Nat):Bool:=l.any fun x=>decide (x-4096-(i:Int)*h.pw<=t/\(t:Int)<x-4096-(i:Int)*h.pw+zmi h x)
def zkU (h:Hp) (i:Nat) (l:List Int):List Bool:=(List.range h.pw.toNat).map (zvb h i l)
def zkV (h:Hp) (i:Nat) (l:List Int) (x:Int) (z:Nat):List Bool:=(List.range h.pw.toNat).map fun t=>zvb h i l t || decide (x-4096-(i:Int)*h.pw<=t/\(t:Int)<x-4096-(i:Int)*h.pw+z)
theorem znN (h:Hp) (i:Nat) (l:List Int) (x:Int) (z:Nat):(zkV h i l x z).length=h.pw.toNat:=by unfold zkV;rw [List.length_map,List.length_range]
theorem zr5 (h:Hp) (i:Nat) (l:List Int) (x:Int):zkV h i l x 0=zkU h i l:=by
 unfold zkV zkU
 congr 1;funext t
 rw [show decide (x-4096-(i:Int)*h.pw<=t/\(t:Int)<x-4096-(i:Int)*h.pw+((0:Nat):Int))=false from decide_eq_false (by omega),Bool.or_false]
theorem zva {h:Hp} {i:Nat} {l:List Int} {x:Int} {z T:Nat} (hT:x-4096-(i:Int)*h.pw+z=T) (hp:T<h.pw.toNat):(zkV h i l x z).set T true=zkV h i l x (z+1):=by
 apply List.ext_getElem?
 intro j
 rw [List.getElem?_set,znN]
 unfold zkV
 rw [List.getElem?_map,List.getElem?_map]
 by_cases hj:j<h.pw.toNat
 · rw [List.getElem?_range hj]
   by_cases hjT:T=j
   · subst hjT
     rw [if_pos rfl,if_pos hp]
     simp only [Option.map_some]
     rw [decide_eq_true (by omega),Bool.or_true]
   · rw [if_neg hjT]
     simp only [Option.map_some]
     congr 2
     exact decide_eq_decide.2 (by omega)
 · rw [List.getElem?_eq_none (by rw [List.length_range];omega),if_neg (by omega)]
   rfl
theorem zts {h:Hp} {i:Nat} {l:List Int} {x:Int} {z:Nat} (hT:x-4096-(i:Int)*h.pw+z<0\/h.pw<=x-4096-(i:Int)*h.pw+z):zkV h i l x (z+1)=zkV h i l x z:=by
 unfold zkV
 apply List.map_congr_left
 intro t ht
 have:=List.mem_range.1 ht
 congr 1
 exact decide_eq_decide.2 (by omega)
theorem ztt {h:Hp} {i:Nat} {l:List Int} {x:Int} {z:Nat} (hz:zmi h x=z):zkV h i l x z=zkU h i (l++[x]):=by
 unfold zkV zkU
 congr 1;funext t
 unfold zvb
 rw [List.any_append,List.any_cons,List.any_nil,Bool.or_false,hz]
theorem zu9 (h:Hp) (x:Int):1<=zmi h x/\zmi h x<=256:=by
 unfold zmi
 split
 · omega
 · by_cases e:atE h x=0
   · have:=zo9 e
     rw [zjA this.2.1];omega
   · rw [zww e];decide
theorem ztq (h:Hp) (i:Nat):zkU h i []=List.replicate h.pw.toNat false:=by
 unfold zkU zvb
 rw [List.eq_replicate_iff]
 refine ⟨by rw [List.length_map,List.length_range],fun b hb=>?_⟩
 obtain ⟨t,-,rfl⟩:=List.mem_map.1 hb
 rfl
theorem zpx (h:Hp) (i:Int) (big:Bool) (u:Nat):∀ (f o:Nat) (l:List Int),u-o<=f->zjp h i big u o=some l->∀ x∈l,atE h x=0/\∃ o':Nat,o<=o'/\o'<u/\x=ziR h.pw h.np i o'
 | 0,o,l,hf,hl,x,hx=>by
  rw [zaU (by omega)]at hl;cases hl;cases hx
 | f+1,o,l,hf,hl,x,hx=>by
  by_cases hlt:o<u
  · by_cases e:atE h (ziR h.pw h.np i o)=0
    · cases big
      · rw [zbB hlt e]at hl
        cases hr:zjp h i false u (o+((atH h (ziR h.pw h.np i o)).n.toNat+1)) with
        | none=>rw [hr]at hl;cases hl
        | some r=>
         rw [hr]at hl;cases hl
         rcases List.mem_cons.1 hx with rfl | hx
         · exact ⟨e,o,Nat.le_refl _,hlt,rfl⟩
         · obtain ⟨a,o',b1,b2,b3⟩:=zpx h i false u f _ r (by omega) hr x hx
           exact ⟨a,o',by omega,b2,b3⟩
      · rw [zcX hlt e]at hl;cases hl
        rw [List.mem_singleton.1 hx];exact ⟨e,o,Nat.le_refl _,hlt,rfl⟩
    · rw [zbJ hlt e]at hl;cases hl
  · rw [zaU hlt]at hl;cases hl;cases hx
theorem zrv {h:Hp} {i:Int} {x:Int} (hx:x∈zi7 h i):atE h x=0:=by
 unfold zi7 at hx
 split at hx
 · split at hx
   · cases hx
   · split at hx
     · cases hx
     · cases hw:zjZ h i with
       | none=>rw [hw]at hx;cases hx
       | some l=>
        rw [hw]at hx
        exact (zpx h i _ _ _ _ l (Nat.le_refl _) hw x hx).1
 · cases hx
theorem at_bd {h:Hp} {x:Int} (e:atE h x=0):4096<=x/\x<8192:=by
 have h1:=(zo9 e).1
 have h5:ofE h.pw h.np x=0:=by
  by_cases h5:ofE h.pw h.np x=0
  · exact h5
  · rw [(zlO h1 h5).1]at e;cases e
 obtain ⟨-,-,t,ht,htl⟩:=zt2 h1 h5
 obtain ⟨k1,k2,-⟩:=zan h1
 have:=(conf_prod k1).2
 omega
theorem zhM {h:Hp} {x:Int} (hx:x∈ziB h):atE h x=0:=by
 unfold ziB at hx
 split at hx
 · split at hx
   · unfold zi1 at hx
     obtain ⟨j,-,hj⟩:=List.mem_flatMap.1 hx
     exact zrv hj
   · cases hx
 · cases hx
theorem zgp {h:Hp} {x:Int} (hx:x∈zij h):atE h x=0/\¬(atH h x).k=0:=by
 unfold zij zje at hx
 obtain ⟨h1,h2⟩:=List.mem_filter.1 hx
 exact ⟨zhM h1,of_decide_eq_true h2⟩
def zku (h:Hp) (i:Nat):Nat->List Bool->Int
 | _,[]=>0
 | k,b::r=>if b=false/\¬ztQ h i k=0 then 4096+(i:Int)*h.pw+k else zku h i (k+1) r
def zuH (h:Hp) (i:Nat):Int:=zku h i 0 (zkU h i (zi7 h (zi2 h.pages i)))
theorem dirt_at {h:Hp} {i:Nat} {l:List Bool} {k:Nat} {b:Bool} (hb:l[k]?=some b):zku h i k (l.drop k)=if b=false/\¬ztQ h i k=0 then 4096+(i:Int)*h.pw+k else zku h i (k+1) (l.drop (k+1)):=by
 obtain ⟨hk,rfl⟩:=List.getElem?_eq_some_iff.1 hb
 rw [List.drop_eq_getElem_cons hk,zku]
theorem zvZ {h:Hp} {i:Nat} {l:List Bool} {k:Nat} (hk:l.length<=k):zku h i k (l.drop k)=0:=by
 rw [List.drop_eq_nil_of_le hk];rfl
theorem ztr (h:Hp) (i:Nat) (l:List Int):(zkU h i l).length=h.pw.toNat:=by unfold zkU;rw [List.length_map,List.length_range]
structure Fd where
 fault:Int
 page:Int
 addr:Int
 deriving DecidableEq
def Fd.none:Fd:=⟨0,0,0⟩
def zvt (h:Hp) (i:Nat):Fd :=
 if ¬(pgAt h i).kind=0/\¬(pgAt h i).space=h.space then ⟨2,i,0⟩
 else if ¬zjt h i=0 then ⟨3,i,0⟩
 else if ¬clsV h i (zi7 h i)=0 then ⟨5,i,clsV h i (zi7 h i)⟩
 else if ¬zuH h i=0 then ⟨4,i,zuH h i⟩ else Fd.none
theorem getH_m (h:Hp) (a:Int):0<=(getH h a).m/\(getH h a).m<4294967296:=by
 by_cases e:getE h a=0
 · rw [(zqm e).2.2.1];exact atH_m h a
 · rw [zef e];decide
theorem zqr (h:Hp) (a:Int):(zk7 h a).length<=h.words.length:=by
 unfold zk7;split
 · exact ztH _ _ _
 · simp
def zjb (all:List Int) (x:Hd):Nat->List Int->Option Nat
 | _,[]=>none
 | k,f::r=>if ptrB x.k x.n x.m k=true/\¬f=0/\¬f∈all then some k else zjb all x (k+1) r
theorem bad_at {all:List Int} {x:Hd} {l:List Int} {k:Nat} {f:Int} (hf:l[k]?=some f):zjb all x k (l.drop k)=if ptrB x.k x.n x.m k=true/\¬f=0/\¬f∈all then some k else zjb all x (k+1) (l.drop (k+1)):=by
 obtain ⟨hk,rfl⟩:=List.getElem?_eq_some_iff.1 hf
 rw [List.drop_eq_getElem_cons hk,zjb]
theorem bad_end {all:List Int} {x:Hd} {l:List Int} {k:Nat} (hk:l.length<=k):zjb all x k (l.drop k)=none:=by
 rw [List.drop_eq_nil_of_le hk];rfl
def ztK (h:Hp) (a:Int):Fd:=⟨6,ofI h.pw h.np a,a⟩
def zkp (h:Hp) (all:List Int):List Int->Fd
 | []=>Fd.none
 | x::r=>match zjb all (getH h x) 0 (zk7 h x) with | some k=>ztK h (x+1+k) | none=>zkp h all r
def zkq (h:Hp):Fd:=zkp h (zij h) (zij h)
theorem ptrs_at {h:Hp} {all l:List Int} {k:Nat} {x:Int} (hx:l[k]?=some x):zkp h all (l.drop k)=match zjb all (getH h x) 0 (zk7 h x) with | some k=>ztK h (x+1+k) | none=>zkp h all (l.drop (k+1)):=by
 obtain ⟨hk,rfl⟩:=List.getElem?_eq_some_iff.1 hx
 rw [List.drop_eq_getElem_cons hk,zkp]
theorem zvp {h:Hp} {all l:List Int} {k:Nat} (hk:l.length<=k):zkp h all (l.drop k)=Fd.none:=by
 rw [List.drop_eq_nil_of_le hk];rfl
def zjd (h:Hp):Nat->Nat->Fd
 | _,0=>Fd.none
 | i,n+1=>if ¬(zvt h i).fault=0 then zvt h i else zjd h (i+1) n
def zja:List Pg->Nat
 | []=>0
 | x::r=>(if x.kind=1/\0<x.pins then 1 else 0)+zja r
theorem zeh:∀ a b:List Pg,zja (a++b)=zja a+zja b
 | [],b=>by simp [zja]
 | x::r,b=>by rw [List.cons_append,zja,zja,zeh r b];omega
theorem zqs {ps:List Pg} {k:Nat} {x:Pg} (h:ps[k]?=some x):zja (ps.take (k+1))=zja (ps.take k)+if x.kind=1/\0<x.pins then 1 else 0:=by
 rw [zaC h,zeh];simp [zja]
theorem zo1:∀ ps:List Pg,zja ps<=ps.length
 | []=>Nat.le_refl _
 | x::r=>by have:=zo1 r;unfold zja;rw [List.length_cons];split <;> omega
def zlM (h:Hp):Fd :=
 if okH h then
  (if ¬(zjd h 0 h.pages.length).fault=0 then zjd h 0 h.pages.length
   else if ¬(zkq h).fault=0 then zkq h
   else if h.np / 4<zja h.pages then ⟨7,0,0⟩ else Fd.none)
 else ⟨1,0,0⟩
def zuv (h:Hp):Bool:=decide ((zlM h).fault=0)
theorem zsH {h:Hp} (e:(zlM h).fault=0):zlM h=Fd.none:=by
 unfold zlM at e ⊢
 split at e
 · rename_i h1
   rw [if_pos h1]
   split at e
   · contradiction
   · rename_i h2
     rw [if_neg h2]
     split at e
     · contradiction
     · rename_i h3
       rw [if_neg h3]
       split at e
       · cases e
       · rename_i h4;rw [if_neg h4]
 · cases e
def zk0 (h:Hp) (l:List Int):Bool:=zuv h&&l.all fun x=>decide (x=0\/x∈zij h)
theorem all_at {P:Int->Bool} {l:List Int} {k:Nat} {x:Int} (hx:l[k]?=some x):(l.drop k).all P=(P x&&(l.drop (k+1)).all P):=by
 obtain ⟨hk,rfl⟩:=List.getElem?_eq_some_iff.1 hx
 rw [List.drop_eq_getElem_cons hk,List.all_cons]
def zlq (pw np k n m:Int):Bool:=zir k n m&&decide (¬k=0)&&decide (¬ziq pw np (ziC k n m) = -1)
theorem znT (ps:List Pg):∀ (k:Nat) (r:Int×Int),r∈zjj ps k->∀ t:Nat,r.1<=t->(t:Int)<r.1+r.2->∃ x,ps[t]?=some x/\x.kind=0
 | 0,r,h=>by simp [zjj]at h
 | k+1,r,h=>by
  have ih:=znT ps k
  cases hx:ps[k]? with
  | none=>rw [zjj,hx]at h;exact ih r h
  | some x=>
   rw [zca hx]at h
   by_cases h0:x.kind=0
   · rcases zeK (zjj ps k) with e | ⟨pre,q,e⟩
     · rw [e,zcb h0]at h
       simp at h;subst h
       intro t h1 h2
       obtain rfl:t=k:=by simp only at h1 h2;omega
       exact ⟨x,hx,h0⟩
     · by_cases he:q.1+q.2=k
       · rw [e,zbL h0 he]at h
         rcases List.mem_append.1 h with h | h
         · exact ih r (by rw [e];exact List.mem_append_left _ h)
         · simp at h;subst h
           intro t h1 h2
           by_cases ht:t=k
           · subst ht;exact ⟨x,hx,h0⟩
           · exact ih q (by rw [e];simp) t h1 (by simp only at h2;omega)
       · rw [e,zcc h0 he]at h
         rcases List.mem_append.1 h with h | h
         · exact ih r (by rw [e];exact h)
         · simp at h;subst h
           intro t h1 h2
           obtain rfl:t=k:=by simp only at h1 h2;omega
           exact ⟨x,hx,h0⟩
   · rw [zc2 h0]at h;exact ih r h
theorem zeg {k:Int}:∀ l:List (Int×Int),ziT k l = -1\/∃ r∈l,ziT k l=r.1/\1<=k/\k<=r.2
 | []=>Or.inl rfl
 | r::t=>by
  unfold ziT
  split
  · rename_i h;exact Or.inr ⟨r,by simp,rfl,h⟩
  · rcases zeg t with h | ⟨q,hq,h⟩
    · exact Or.inl h
    · exact Or.inr ⟨q,by simp [hq],h⟩
theorem zbz {ps:List Pg} {k:Int} (h:0<=zis ps k):1<=k/\zis ps k+k<=ps.length/\∀ t:Nat,zis ps k<=t->(t:Int)<zis ps k+k->∃ x,ps[t]?=some x/\x.kind=0:=by
 rw [zgM]at h ⊢
 rcases zeg (k:=k) (zpE ps) with e | ⟨r,hr,e,h1,h2⟩
 · omega
 · rw [e]
   have hb:=zpD ps ps.length r hr
   exact ⟨h1,by omega,fun t a b=>znT ps ps.length r hr t a (by omega)⟩
def zlh (h:Hp):Pg:=h.pages.getD h.bump.toNat Pg.zero
def newB (h:Hp) (n:Int):Bool:=decide (h.bump<0\/¬(zlh h).space=h.space\/h.pw<(zlh h).used+n\/zkA h.pw h.np<ziO h.pages)
def zjL (h:Hp):Bool:=decide (zis h.pages 1<0\/zkA h.pw h.np<=ziO h.pages)
def zjf (h:Hp) (n:Int):Bool:=!(newB h n&&zjL h)
def zko (h:Hp) (n:Int):Int:=if newB h n then zis h.pages 1 else h.bump
def zi6 (h:Hp) (n:Int):List Pg:=if newB h n then zjs h.pages (zis h.pages 1) h.space else h.pages
def zkJ (ps:List Pg) (j:Nat) (n:Int):List Pg:=ps.set j ⟨(ps.getD j Pg.zero).kind,(ps.getD j Pg.zero).space,(ps.getD j Pg.zero).used+n,(ps.getD j Pg.zero).pins⟩
def zlu (h:Hp) (n:Int):Hp:={ h with pages:=zkJ (zi6 h n) (zko h n).toNat n,bump:=zko h n }
def zlv (h:Hp) (n:Int):Int:=4096+zko h n*h.pw+((zi6 h n).getD (zko h n).toNat Pg.zero).used
def zkN (h:Hp) (k:Int):Bool:=decide (¬(zis h.pages k<0\/zkA h.pw h.np<ziO h.pages+k))
def zl7 (h:Hp) (n k:Int):Hp:={ h with pages:=zkt h.pw h.np h.pages (zis h.pages k) h.space n }
def zl8 (h:Hp) (k:Int):Int:=4096+zis h.pages k*h.pw
theorem zun {pw np:Int} {ps:List Pg} {i sp n:Int} (h:1<=ziq pw np n/\0<=sp/\sp<=1):zkt pw np ps i sp n=zkB ps i (ziq pw np n) ⟨2,sp,n,0⟩ ⟨3,sp,0,0⟩/\zlC pw np ps i sp n=zll ps i (ziq pw np n):=by
 unfold zkt zlC;rw [if_pos h,if_pos h];exact ⟨rfl,rfl⟩
theorem small_spec {h:Hp} {n:Int} (h1:okH h=true) (hok:zjf h n=true) :
 ∃ j:Nat,∃ x:Pg,zko h n=j/\j<h.pages.length/\(zi6 h n).length=h.pages.length/\(zi6 h n)[j]?=some x/\x.kind=1/\0<=x.used/\x.used<=h.pw/\x.space=h.space /\
  ((newB h n=true/\zi6 h n=h.pages.set j ⟨1,h.space,0,0⟩/\x=⟨1,h.space,0,0⟩/\zkZ h.pages (zis h.pages 1) h.space=0/\∃ y,h.pages[j]?=some y/\y.kind=0)\/(newB h n=false/\zi6 h n=h.pages/\x.used+n<=h.pw)):=by
 obtain ⟨g1,g2,g3,g4,g5,g6,g7⟩:=zan h1
 obtain ⟨k1,k2,-,k4,k5⟩:=zai g1
 unfold zjf at hok
 cases hn:newB h n
 · have hd:=of_decide_eq_false hn
   have hb0:0<=h.bump:=by omega
   have hbb:=of_decide_eq_true g6
   have hbs:h.bump<h.pages.length/\(h.pages.getD h.bump.toNat Pg.zero).kind=1:=by
    rcases hbb with h | h
    · omega
    · exact ⟨h.2.1,h.2.2⟩
   have hx:h.pages[h.bump.toNat]?=some (h.pages[h.bump.toNat]'(by omega)):=List.getElem?_eq_getElem _
   have hgd:=zin hx
   have hmem:=zbC _ _ _ _ g7 _ (List.mem_of_getElem? hx)
   rw [hgd]at hbs
   have hbp:zlh h=h.pages[h.bump.toNat]'(by omega):=hgd
   rw [hbp]at hd
   refine ⟨h.bump.toNat,h.pages[h.bump.toNat]'(by omega),by unfold zko;rw [hn];simp;omega,by omega,by unfold zi6;rw [hn];rfl,by unfold zi6;rw [hn];exact hx,hbs.2,(hmem.2.2.2.2.2.1 hbs.2).1,(hmem.2.2.2.2.2.1 hbs.2).2,?_,Or.inr ⟨rfl,by unfold zi6;rw [hn];rfl,by omega⟩⟩
   have:¬¬(h.pages[h.bump.toNat]'(by omega)).space=h.space:=fun c=>hd (Or.inr (Or.inl c))
   exact Classical.not_not.1 this
 · rw [hn,Bool.true_and]at hok
   have hf:zjL h=false:=by simpa using hok
   have hd:=of_decide_eq_false hf
   have hF:0<=zis h.pages 1:=by omega
   obtain ⟨-,f1,f2⟩:=zbz hF
   obtain ⟨y,hy,hy0⟩:=f2 (zis h.pages 1).toNat (by omega) (by omega)
   have hlt:(zis h.pages 1).toNat<h.pages.length:=(List.getElem?_eq_some_iff.1 hy).1
   have hfree:zju h.pages (zis h.pages 1).toNat 1=true:=by
    have:=za3 (ps:=h.pages) (i:=(zis h.pages 1).toNat) (k:=0) (x:=y) (by rw [Nat.add_zero];exact hy)
    rw [zbg,hy0]at this;simpa using this
   obtain ⟨t1,t2⟩:=zls (x:=⟨1,h.space,0,0⟩) (y:=Pg.zero) hlt (show (zis h.pages 1).toNat+1<=h.pages.length by omega) hfree
   have eF:(((zis h.pages 1).toNat:Nat):Int)=zis h.pages 1:=by omega
   rw [eF]at t1 t2
   have hps:zi6 h n=h.pages.set (zis h.pages 1).toNat ⟨1,h.space,0,0⟩:=by
    unfold zi6 zjs
    rw [hn,if_pos rfl,if_pos ⟨g4,g5⟩]
    rw [show ((1:Nat):Int)=1 from rfl]at t1
    rw [t1]
    apply List.ext_getElem?
    intro i
    have hl:(put h.pages (zis h.pages 1).toNat 1 Pg.zero).length=h.pages.length:=zj7 (by omega)
    rw [List.getElem?_set,List.getElem?_set,hl]
    split
    · rfl
    · rw [zjP (by omega) (by omega)]
   have hpe:zkZ h.pages (zis h.pages 1) h.space=0:=by
    unfold zkZ;rw [if_pos ⟨g4,g5⟩];exact t2
   refine ⟨(zis h.pages 1).toNat,⟨1,h.space,0,0⟩,by unfold zko;rw [hn];exact eF.symm,hlt,by rw [hps,List.length_set],by rw [hps,List.getElem?_set];simp [hlt],rfl,by simp,by simp only;omega,rfl,Or.inl ⟨rfl,hps,rfl,hpe,y,hy,hy0⟩⟩
theorem zcE (pw np n:Int):ziq pw np n<=4:=by
 unfold ziq zkc
 repeat' split
 all_goals omega
theorem zmU (pw np n:Int) : -1<=ziq pw np n:=by
 unfold ziq zkc
 repeat' split
 all_goals omega
def zle (h:Hp) (k n m:Int):Bool:=okH h&&zlq h.pw h.np k n m
def zrC (h:Hp) (k n m:Int):Bool:=decide (0<ziq h.pw h.np (ziC k n m))
def zmS (h:Hp) (k n m:Int):Bool:=if zrC h k n m then zkN h (ziq h.pw h.np (ziC k n m)) else zjf h (ziC k n m)
def zlz (h:Hp) (k n m:Int):Hp:=if zrC h k n m then zl7 h (ziC k n m) (ziq h.pw h.np (ziC k n m)) else zlu h (ziC k n m)
def zmT (h:Hp) (k n m:Int):Int:=if zrC h k n m then zl8 h (ziq h.pw h.np (ziC k n m)) else zlv h (ziC k n m)
def zjF (h:Hp) (k n m:Int):Int:=if zle h k n m then (if zmS h k n m then 0 else 3) else 1
def zkT (h:Hp) (k n m:Int):Hp:=if zjF h k n m=0 then zk6 (zlz h k n m) (zmT h k n m) k n m else Hp.zero
def zli (h:Hp) (k n m:Int):Int:=if zjF h k n m=0 then zmT h k n m else 0
structure Wk where
 h:Hp
 old:List Int
 taken:List Int
 queue:List Int
 sc:Int
 r0:Int
 r1:Int
 r2:Int
 r3:Int
 r4:Int
 r5:Int
def Wk.zero:Wk:=⟨Hp.zero,[],[],[],0,0,0,0,0,0,0⟩
def zj9 (x:Wk) (i:Int):Bool:=match x.h.pages[i.toNat]? with
 | some g=>decide (0<=i)&&(decide (g.kind=1) && !decide (g.space=x.h.space) && !decide (i∈x.taken))
 | none=>false
def zjS (x:Wk) (a:Int):Wk:={ x with queue:=x.queue++[a],r1:=wrap64 (x.r1+1) }
theorem zmp {ps:List Pg} {sp:Int} (h0:0<=sp) (h1:sp<=1) (hF:0<=zis ps 1) :
 (zis ps 1).toNat<ps.length/\zjs ps (zis ps 1) sp=ps.set (zis ps 1).toNat ⟨1,sp,0,0⟩/\∃ y,ps[(zis ps 1).toNat]?=some y/\y.kind=0:=by
 obtain ⟨-,f1,f2⟩:=zbz hF
 obtain ⟨y,hy,hy0⟩:=f2 (zis ps 1).toNat (by omega) (by omega)
 have hlt:(zis ps 1).toNat<ps.length:=(List.getElem?_eq_some_iff.1 hy).1
 have hfree:zju ps (zis ps 1).toNat 1=true:=by
  have:=za3 (ps:=ps) (i:=(zis ps 1).toNat) (k:=0) (x:=y) (by rw [Nat.add_zero];exact hy)
  rw [zbg,hy0]at this;simpa using this
 obtain ⟨t1,t2⟩:=zls (x:=⟨1,sp,0,0⟩) (y:=Pg.zero) hlt (show (zis ps 1).toNat+1<=ps.length by omega) hfree
 have eF:(((zis ps 1).toNat:Nat):Int)=zis ps 1:=by omega
 rw [eF]at t1 t2
 refine ⟨hlt,?_,y,hy,hy0⟩
 unfold zjs
 rw [if_pos ⟨h0,h1⟩]
 rw [show ((1:Nat):Int)=1 from rfl]at t1
 rw [t1]
 apply List.ext_getElem?
 intro i
 have hl:(put ps (zis ps 1).toNat 1 Pg.zero).length=ps.length:=zj7 (by omega)
 rw [List.getElem?_set,List.getElem?_set,hl]
 split
 · rfl
 · rw [zjP (by omega) (by omega)]
def zjN (x:Wk) (n:Int):Bool:=match x.taken.getLast? with | some l=>decide ((x.h.pages.getD l.toNat Pg.zero).used+n<=x.h.pw) | none=>false
def plJ (x:Wk) (n:Int):Int:=if zjN x n then x.taken.getLast?.getD (-1) else zis x.h.pages 1
def plB (x:Wk) (n:Int):Bool:=zjN x n || decide (0<=zis x.h.pages 1)
def plPs (x:Wk) (n:Int):List Pg:=if zjN x n then x.h.pages else zjs x.h.pages (zis x.h.pages 1) (1-x.h.space)
def plT (x:Wk) (n:Int):List Int:=if zjN x n then x.taken else x.taken++[zis x.h.pages 1]
def plW (x:Wk) (n:Int):Wk:={ x with h:={ x.h with pages:=zkJ (plPs x n) (plJ x n).toNat n },taken:=plT x n }
def plA (x:Wk) (n:Int):Int:=4096+plJ x n*x.h.pw+((plPs x n).getD (plJ x n).toNat Pg.zero).used
structure PlOK (x:Wk):Prop where
 pw0:16<=x.h.pw
 pw1:x.h.pw<=64
 np0:1<=x.h.pages.length
 np1:x.h.pages.length<=64
 sp0:0<=x.h.space
 sp1:x.h.space<=1
 tk:x.taken.length<=1000
 last:∀ l,x.taken.getLast?=some l->∃ k:Nat,l=k/\∃ g,x.h.pages[k]?=some g/\0<=g.used/\g.used<=x.h.pw
theorem zc3 {x:Wk} {n:Int} (hx:PlOK x) (hb:plB x n=true) :
 ∃ j:Nat,∃ y:Pg,plJ x n=j/\j<x.h.pages.length/\(plPs x n).length=x.h.pages.length/\(plPs x n)[j]?=some y/\0<=y.used/\y.used<=x.h.pw /\
  ((zjN x n=true/\plPs x n=x.h.pages/\x.taken.getLast?=some (j:Int)/\y.used+n<=x.h.pw)\/(zjN x n=false/\zis x.h.pages 1=j/\plPs x n=x.h.pages.set j ⟨1,1-x.h.space,0,0⟩/\y=⟨1,1-x.h.space,0,0⟩/\∃ z,x.h.pages[j]?=some z/\z.kind=0)):=by
 cases hr:zjN x n
 · unfold plB at hb
   rw [hr,Bool.false_or]at hb
   have hF:=of_decide_eq_true hb
   have s0:=hx.sp0
   have s1:=hx.sp1
   have p0:=hx.pw0
   obtain ⟨f1,f2,z,f3,f4⟩:=zmp (ps:=x.h.pages) (sp:=1-x.h.space) (by omega) (by omega) hF
   have e1:plPs x n=x.h.pages.set (zis x.h.pages 1).toNat ⟨1,1-x.h.space,0,0⟩:=by unfold plPs;rw [hr];exact f2
   refine ⟨(zis x.h.pages 1).toNat,⟨1,1-x.h.space,0,0⟩,by unfold plJ;rw [hr];simp;omega,f1,by rw [e1,List.length_set],by rw [e1,List.getElem?_set,if_pos rfl,if_pos f1],by simp,by simp only;omega,Or.inr ⟨rfl,by omega,e1,rfl,z,f3,f4⟩⟩
 · have h1:=hr
   unfold zjN at h1
   cases hl:x.taken.getLast? with
   | none=>rw [hl]at h1;cases h1
   | some l=>
    rw [hl]at h1
    obtain ⟨k,rfl,g,g1,g2,g3⟩:=hx.last l hl
    have hk:=(List.getElem?_eq_some_iff.1 g1).1
    have h2:=of_decide_eq_true h1
    rw [Int.toNat_natCast,zin g1]at h2
    have e1:plPs x n=x.h.pages:=by unfold plPs;rw [hr];rfl
    exact ⟨k,g,by unfold plJ;rw [hr,hl];rfl,hk,by rw [e1],by rw [e1];exact g1,g2,g3,Or.inl ⟨rfl,e1,rfl,h2⟩⟩
def evWd (x:Wk) (a:Int):Int:=zit x.h.words a
def evI (x:Wk) (a:Int):Int:=ofI x.h.pw x.h.np a
def evN (x:Wk) (a:Int):Int:=ziC (decK (evWd x a).toNat) (decN (evWd x a).toNat) (decM (evWd x a).toNat)
def zkP (x:Wk) (a:Int):Bool:=decide ((x.h.pages.getD (evI x a).toNat Pg.zero).kind=2)
def spc (ps:List Pg) (i k:Nat) (sp:Int):List Pg:=ps.mapIdx fun j y=>if i<=j/\j<k then ⟨y.kind,sp,y.used,y.pins⟩ else y
def zjh (ps:List Pg) (i:Nat):Nat:=i+1+((ps.drop (i+1)).takeWhile fun y=>decide (y.kind=3)).length
def zjl (x:Wk) (i:Nat):Wk:={ x with h:={ x.h with pages:=spc x.h.pages i (zjh x.h.pages i) (1-x.h.space) } }
def zlK (x:Wk) (a:Int):List Int:=ziw (zkd x.h.words (plA x (evN x a)) a (evN x a)) a [fwdV (plA x (evN x a))]
def ziV (x:Wk) (a:Int):Wk:={ plW x (evN x a) with h:={ (plW x (evN x a)).h with words:=zlK x a },queue:=x.queue++[plA x (evN x a)],r0:=wrap64 (x.r0+1) }
def evC (x:Wk) (a:Int):Nat :=
 if a=0\/a∈x.queue then 0 else if ¬a∈x.old then 1 else if okT (evWd x a).toNat then 2
 else if ¬ofE x.h.pw x.h.np a=0\/(x.h.pages.length:Int)<=evI x a then 3
 else if zj9 x (evI x a) then 4 else if zkP x a then 5 else if plB x (evN x a) then 7 else 6
def evE (x:Wk) (a:Int):Int:=match evC x a with | 1=>19 | 3=>19 | 6=>3 | _=>0
def evA (x:Wk) (a:Int):Int:=match evC x a with | 0=>a | 2=>tgtV (evWd x a).toNat | 4=>a | 5=>a | 7=>plA x (evN x a) | _=>0
def evW (x:Wk) (a:Int):Wk:=match evC x a with | 0=>x | 2=>x | 4=>zjS x a | 5=>zjS (zjl x (evI x a).toNat) a | 7=>ziV x a | _=>Wk.zero
theorem zcH {xs:List Int} (h:WB xs) (a:Int):∃ k:Nat,zit xs a=k/\k<18446744073709551616:=by
 have hx:0<=zit xs a/\zit xs a<18446744073709551616:=by
  unfold zit
  split
  · rw [List.getD_eq_getElem?_getD]
    cases hg:xs[(a-4096).toNat]? with
    | none=>simp
    | some v=>simpa using h v (List.mem_of_getElem? hg)
  · simp
 exact ⟨(zit xs a).toNat,by omega,by omega⟩
theorem zuI (x:Nat):0<=decM x/\decM x<4294967296:=by
 unfold decM
 split
 · unfold dM;have:x / 65536 % 4294967296<4294967296:=Nat.mod_lt _ (by omega);omega
 · omega
theorem evN_bd (x:Wk) (a:Int):0<=evN x a/\evN x a<=1000:=by
 unfold evN ziC
 split
 · rename_i h
   unfold zir at h
   have:=of_decide_eq_true h
   omega
 · omega
theorem ztM {x:Wk} {n:Int} (hx:PlOK x) (hb:plB x n=true):0<=plA x n/\plA x n<18446744073709551616:=by
 obtain ⟨j,y,s1,s2,s3,s4,s5,s6,-⟩:=zc3 hx hb
 have k1:=hx.pw0
 have k2:=hx.pw1
 have k3:=hx.np1
 have hJ0:0<=(j:Int)*x.h.pw:=Int.mul_nonneg (by omega) (by omega)
 have hJ1:(j:Int)*x.h.pw<=64*64:=Int.mul_le_mul (by omega) k2 (by omega) (by omega)
 unfold plA
 rw [s1,Int.toNat_natCast,zin s4]
 omega
theorem zrE (xs:List Int) (t f n:Int):(zkd xs t f n).length<=xs.length:=by
 unfold zkd
 split
 · simp
 · split
   · rename_i h0 h
     have h1:=of_decide_eq_true h.1
     rw [zbe (by rw [List.length_take,List.length_drop];omega)]
     exact Nat.le_refl _
   · simp
theorem wb_move {xs:List Int} (h:WB xs) (t f n:Int):WB (zkd xs t f n):=by
 unfold zkd
 split
 · exact WB.nil
 · split
   · exact znL h (fun v hv=>h v (List.mem_of_mem_drop (List.mem_of_mem_take hv)))
   · exact WB.nil
theorem zwv {x:Wk} {a:Int} (hx:PlOK x) (hb:plB x (evN x a)=true) (h:WB x.h.words):WB (ziV x a).h.words:=by
 show WB (ziw (zkd x.h.words _ a _) a [fwdV _])
 refine zcW (wb_move h _ _ _) (fun v hv=>?_)
 simp only [List.mem_singleton]at hv
 subst hv
 have:=ztM hx hb
 unfold fwdV
 split <;> omega
theorem zdQ {α:Type} {p:α->Bool}:∀ (L:List α) (n:Nat),n<=L.length->(∀ j y,j<n->L[j]?=some y->p y=true)->(∀ y,L[n]?=some y->p y=false)->(L.takeWhile p).length=n
 | [],n,hn,_,_=>by simp at hn;subst hn;rfl
 | y::r,0,_,_,h=>by rw [List.takeWhile_cons,h y rfl];rfl
 | y::r,n+1,hn,ha,h=>by
  rw [List.takeWhile_cons,ha 0 y (by omega) rfl]
  simp only [if_true,List.length_cons]
  rw [zdQ r n (by simpa using hn) (fun j z hj hz=>ha (j+1) z (by omega) (by simpa using hz)) (fun z hz=>h z (by simpa using hz))]
theorem zr8 {ps:List Pg} {i k:Nat} (h1:i+1<=k) (h2:k<=ps.length) (h3:∀ l y,i<l->l<k->ps[l]?=some y->y.kind=3) (h4:∀ y,ps[k]?=some y->¬y.kind=3):zjh ps i=k:=by
 unfold zjh
 rw [zdQ (ps.drop (i+1)) (k-(i+1)) (by rw [List.length_drop];omega) (fun j y hj hy=>decide_eq_true (h3 (i+1+j) y (by omega) (by omega) (by rw [List.getElem?_drop]at hy;exact hy))) (fun y hy=>decide_eq_false (h4 y (by rw [List.getElem?_drop]at hy;rw [show i+1+(k-(i+1))=k by omega]at hy;exact hy)))]
 omega
theorem ztB (ps:List Pg) (i k:Nat) (sp:Int):(spc ps i k sp).length=ps.length:=by unfold spc;simp
theorem zkY {ps:List Pg} {i k j:Nat} {sp:Int} {y:Pg} (h:ps[j]?=some y):(spc ps i k sp)[j]?=some (if i<=j/\j<k then ⟨y.kind,sp,y.used,y.pins⟩ else y):=by
 unfold spc;rw [List.getElem?_mapIdx,h];rfl
theorem zmn {ps:List Pg} {i k j:Nat} {sp:Int} (h:ps[j]?=none):(spc ps i k sp)[j]?=none:=by
 unfold spc;rw [List.getElem?_mapIdx,h];rfl
theorem zro {ps:List Pg} {i k:Nat} {sp:Int} {y:Pg} (hi:i<=k) (h:ps[k]?=some y):(spc ps i k sp).set k ⟨y.kind,sp,y.used,y.pins⟩=spc ps i (k+1) sp:=by
 apply List.ext_getElem?
 intro j
 rw [List.getElem?_set,ztB]
 have hk:=(List.getElem?_eq_some_iff.1 h).1
 by_cases e:k=j
 · subst e;rw [if_pos rfl,if_pos hk,zkY h,if_pos ⟨hi,by omega⟩]
 · rw [if_neg e]
   cases hj:ps[j]? with
   | none=>rw [zmn hj,zmn hj]
   | some z=>
    rw [zkY hj,zkY hj]
    by_cases c:i<=j/\j<k
    · rw [if_pos c,if_pos ⟨c.1,by omega⟩]
    · rw [if_neg c,if_neg (by omega)]
theorem ztA {ps:List Pg} {i:Nat} {sp:Int}:spc ps i i sp=ps:=by
 apply List.ext_getElem?
 intro j
 cases hj:ps[j]? with
 | none=>rw [zmn hj]
 | some z=>rw [zkY hj,if_neg (by omega)]
theorem zso {pw np a:Int} (h:ofE pw np a=0):0<=ofI pw np a:=by
 cases hv:confB pw np with
 | false=>have:=(zvG (a:=a) hv).2.2;omega
 | true=>
  cases hi:inAr pw np a with
  | false=>have:=(zkz hv hi).2.2;omega
  | true=>
   obtain ⟨h1,-,-⟩:=zlY hv hi
   have h2:=zai hv
   unfold inAr at hi
   have h3:=of_decide_eq_true hi
   rw [h1]
   exact Int.ediv_nonneg (by omega) (by omega)
def evH (x:Wk) (a:Int):Hd:=⟨decK (evWd x a).toNat,decN (evWd x a).toNat,decM (evWd x a).toNat⟩
structure FwOK (x:Wk):Prop where
 pl:PlOK x
 wl:x.h.words.length<=100000
 ql:x.queue.length<=1000000
def zjJ (x:Wk) (A:Int):Wk:={ evW x (zit x.h.words A) with h:={ (evW x (zit x.h.words A)).h with words:=ziw (evW x (zit x.h.words A)).h.words A [evA x (zit x.h.words A)] } }
def stGo:Wk->Int->List Int->Wk×Int
 | x,_,[]=>(x,0)
 | x,A,i::r=>if evE x (zit x.h.words (A+1+i))=0 then stGo (zjJ x (A+1+i)) A r else (Wk.zero,evE x (zit x.h.words (A+1+i)))
def StOK:Wk->Int->List Int->Prop
 | _,_,[]=>True
 | x,A,i::r=>FwOK x/\(evE x (zit x.h.words (A+1+i))=0->StOK (zjJ x (A+1+i)) A r)
def stL (x:Wk) (A:Int):List Int:=zlW (evH x A).k (evH x A).n (evH x A).m
def stW (x:Wk) (A:Int):Wk:={ (stGo x A (stL x A)).1 with sc:=wrap64 ((stGo x A (stL x A)).1.sc+1),r5:=wrap64 (wrap64 ((stGo x A (stL x A)).1.r5+1)+(stL x A).length) }
def stE (x:Wk) (A:Int):Int:=(stGo x A (stL x A)).2
theorem stL_bd {x:Wk} {A i:Int} (h:i∈stL x A):0<=i/\i<=1000:=by
 unfold stL zlW at h
 split at h
 · rename_i hv
   unfold zkj at h
   have h1:=(List.mem_filter.1 h).1
   obtain ⟨j,hj,rfl⟩:=List.mem_map.1 h1
   have h2:=List.mem_range.1 hj
   unfold zir at hv
   have h3:=of_decide_eq_true hv
   have h4:Int.ofNat j=(j:Int):=rfl
   omega
 · cases h
theorem evA_bd {x:Wk} {a:Int} (hx:PlOK x) (h0:0<=a) (h1:a<18446744073709551616):0<=evA x a/\evA x a<18446744073709551616:=by
 unfold evA
 split
 · exact ⟨h0,h1⟩
 · unfold tgtV
   split
   · rename_i h
     unfold okT at h
     rw [Bool.and_eq_true]at h
     have h2:=of_decide_eq_true h.2
     omega
   · omega
 · exact ⟨h0,h1⟩
 · exact ⟨h0,h1⟩
 · rename_i h
   refine ztM hx ?_
   unfold evC at h
   split at h
   · omega
   split at h
   · omega
   split at h
   · omega
   split at h
   · omega
   split at h
   · omega
   split at h
   · omega
   split at h
   · assumption
   · omega
 · omega
theorem wb_next {x:Wk} {A:Int} (hx:PlOK x) (hw:WB x.h.words) (hy:WB (evW x (zit x.h.words A)).h.words):WB (zjJ x A).h.words:=by
 obtain ⟨k,h1,h2⟩:=zcH hw A
 refine zcW hy (fun v hv=>?_)
 simp only [List.mem_singleton]at hv
 subst hv
 exact evA_bd hx (by omega) (by omega)
theorem evW_wl {x:Wk} {n:Nat} (h:x.h.words.length<=n) (a:Int):(evW x a).h.words.length<=n:=by
 unfold evW
 split
 · exact h
 · exact h
 · exact h
 · exact h
 · show (ziw (zkd x.h.words _ a _) a [_]).length<=n
   unfold ziw
   split
   · rename_i hk
     have h1:=of_decide_eq_true hk
     rw [zbe (by omega)]
     exact Nat.le_trans (zrE _ _ _ _) h
   · simp
 · exact Nat.zero_le _
def allV:Nat->Wk->Wk×Int
 | 0,x=>(x,0)
 | f+1,x=>match x.queue[x.sc.toNat]? with
  | none=>(x,0)
  | some A=>if stE x A=0 then allV f (stW x A) else (Wk.zero,stE x A)
def zu2:Nat->Wk->Prop
 | 0,_=>False
 | f+1,x=>∃ k:Nat,x.sc=k/\k<=1000000/\(x.queue[k]?=none\/∃ A,x.queue[k]?=some A/\0<=A/\A<=1000000/\x.h.words.length<=100000/\StOK x A (stL x A)/\(stE x A=0->(stW x A).sc=((k+1:Nat):Int)/\zu2 f (stW x A)))
theorem zr1 {f:Nat} {x:Wk} {k:Nat} (hk:x.sc=k) (h:x.queue[k]?=none):allV (f+1) x=(x,0):=by
 unfold allV;rw [hk,Int.toNat_natCast,h]
theorem zuS {f:Nat} {x:Wk} {k:Nat} {A:Int} (hk:x.sc=k) (h:x.queue[k]?=some A):allV (f+1) x=if stE x A=0 then allV f (stW x A) else (Wk.zero,stE x A):=by
 rw [allV,hk,Int.toNat_natCast,h]
def zi4 (sp:Int) (l:List Pg):Bool:=l.all fun t=>decide (t.kind=3/\t.space=sp)
def zkm (pw np:Int) (ps:List Pg):Nat->Int
 | 0=>0
 | i+1=>if (ps.getD i Pg.zero).kind=2 then max 0 (ziq pw np (ps.getD i Pg.zero).used-1) else max 0 (zkm pw np ps i-1)
theorem zfW (sp:Int):∀ (l:List Pg) (m:Nat),m<=zkC sp l↔(m<=l.length/\zi4 sp (l.take m)=true)
 | [],m=>by
  rw [zkC]
  constructor
  · intro h;obtain rfl:m=0:=by omega
    exact ⟨Nat.le_refl _,rfl⟩
  · rintro ⟨h,-⟩;exact h
 | x::r,0=>by simp [zi4]
 | x::r,m+1=>by
  rw [zkC,List.take_succ_cons,List.length_cons]
  have ih:=zfW sp r m
  have e:zi4 sp (x::r.take m)=(decide (x.kind=3/\x.space=sp)&&zi4 sp (r.take m)):=rfl
  rw [e,Bool.and_eq_true,decide_eq_true_eq]
  by_cases h:x.kind=3/\x.space=sp
  · rw [if_pos h]
    constructor
    · intro a
      obtain ⟨a1,a2⟩:=ih.1 (by omega)
      exact ⟨by omega,h,a2⟩
    · rintro ⟨a1,-,a2⟩
      have:=ih.2 ⟨by omega,a2⟩
      omega
  · rw [if_neg h]
    constructor
    · intro a;omega
    · rintro ⟨-,a,-⟩;exact absurd a h
theorem zrU {pw np:Int} {ps:List Pg} {i:Nat} {x:Pg} (hx:ps[i]?=some x) {r:List Pg} {d:Int} (h:zjn pw np x r (zkm pw np ps i)=some d):d=zkm pw np ps (i+1):=by
 rw [zkm,zin hx]
 unfold zjn at h
 split at h
 · cases h
 · split at h
   · rename_i k0
     rw [if_neg (by omega)]
     split at h
     · exact (Option.some.inj h).symm
     · cases h
   · split at h
     · rename_i k1
       rw [if_neg (by omega)]
       split at h
       · cases h
       · exact (Option.some.inj h).symm
     · split at h
       · rename_i k2
         rw [if_pos k2]
         split at h
         · cases h
         · exact (Option.some.inj h).symm
       · rename_i k2
         rw [if_neg k2]
         split at h
         · split at h
           · exact (Option.some.inj h).symm
           · cases h
         · cases h
theorem zgl {pw np:Int} {ps:List Pg} (h:ziy pw np ps 0=true):∀ i,i<=ps.length->ziy pw np (ps.drop i) (zkm pw np ps i)=true
 | 0,_=>by rw [List.drop_zero];exact h
 | i+1,hi=>by
  have ih:=zgl h i (by omega)
  have hx:ps[i]?=some (ps[i]'(by omega)):=List.getElem?_eq_getElem _
  rw [List.drop_eq_getElem_cons (by omega),ziy]at ih
  cases hs:zjn pw np (ps[i]'(by omega)) (ps.drop (i+1)) (zkm pw np ps i) with
  | none=>rw [hs]at ih;cases ih
  | some d=>rw [hs]at ih;rw [<-zrU hx hs];exact ih
def osz (h:Hp) (a:Int):Int:=(atH h a).n+1
def zlx (h:Hp) (g:Pg):Int:=if g.kind=2 then ziq h.pw h.np g.used else 1
theorem zoD {pw np n:Int} (h:1<=ziq pw np n):n<=ziq pw np n*pw/\ziq pw np n<=4/\confB pw np=true/\1<=n:=by
 by_cases hc:confB pw np=true/\1<=n
 · rw [zkE hc.1 hc.2]at h ⊢
   refine ⟨?_,?_,hc.1,hc.2⟩
   · unfold zkc at h ⊢
     repeat' split
     all_goals first | omega | (exfalso;simp_all)
   · unfold zkc at h ⊢
     repeat' split
     all_goals omega
 · rw [zkF (by
    by_cases h1:confB pw np=true
    · right;have:¬1<=n:=fun h2=>hc ⟨h1,h2⟩;omega
    · left;simpa using h1)]at h
   omega
theorem zdB {pw np:Int} {ps:List Pg} (h:ziy pw np ps 0=true) {i:Nat} {g:Pg} (hg:ps[i]?=some g) (hk:g.kind=2) :
 1<=ziq pw np g.used/\(i:Int)+ziq pw np g.used<=ps.length/\∀ t:Nat,i<t->(t:Int)<i+ziq pw np g.used->∃ y,ps[t]?=some y/\y.kind=3/\y.space=g.space:=by
 have hi:i<ps.length:=(List.getElem?_eq_some_iff.1 hg).1
 have h1:=zgl h i (by omega)
 have e:ps.drop i=g::ps.drop (i+1):=by
  obtain ⟨hlt,rfl⟩:=List.getElem?_eq_some_iff.1 hg
  exact List.drop_eq_getElem_cons hlt
 rw [e,ziy]at h1
 have h2:¬(ziq pw np g.used<1\/(zkC g.space (ps.drop (i+1)):Int)<ziq pw np g.used-1):=by
  intro hb
  have:zjn pw np g (ps.drop (i+1)) (zkm pw np ps i)=none:=by
   unfold zjn
   split
   · rfl
   · rw [if_neg (by omega:¬g.kind=0),if_neg (by omega:¬g.kind=1)]
  rw [this]at h1;cases h1
 have h3:(ziq pw np g.used-1).toNat<=zkC g.space (ps.drop (i+1)):=by omega
 obtain ⟨h4,h5⟩:=(zfW _ _ _).1 h3
 rw [List.length_drop]at h4
 refine ⟨by omega,by omega,fun t ht ht2=>?_⟩
 have h6:t<ps.length:=by omega
 refine ⟨ps[t],List.getElem?_eq_getElem h6,?_⟩
 unfold zi4 at h5
 rw [List.all_eq_true]at h5
 have h7:=h5 ps[t] (by
  rw [List.mem_iff_getElem?]
  refine ⟨t-(i+1),?_⟩
  rw [List.getElem?_take,if_pos (by omega),List.getElem?_drop]
  rw [show i+1+(t-(i+1))=t from by omega,List.getElem?_eq_getElem h6])
 exact of_decide_eq_true h7
structure Begins (h:Hp) (a:Int) (i j:Nat) (g:Pg):Prop where
 ok:okH h=true
 oi:ofI h.pw h.np a=i
 il:i<h.pages.length
 jl:(j:Int)<h.pw
 ad:a=4096+i*h.pw+j
 pg:h.pages[i]?=some g
 od:okD (ziE h a)=true
 hd:atH h a=hdOf (ziE h a)
 sz:osz h a=dN (ziE h a)+1
 kd:(g.kind=1/\j+osz h a<=g.used/\g.used<=h.pw)\/(g.kind=2/\j=0/\osz h a=g.used/\1<=ziq h.pw h.np g.used)
 wl:a+osz h a<=4096+h.words.length
theorem zuL {h:Hp} {a:Int} (e:atE h a=0):∃ i j g,Begins h a i j g:=by
 have h1:okH h=true:=by
  cases h1:okH h
  · unfold atE at e;rw [h1]at e;simp at e
  · rfl
 have h5:ofE h.pw h.np a=0:=by
  by_cases h5:ofE h.pw h.np a=0
  · exact h5
  · unfold atE at e;rw [if_pos h1,if_neg h5]at e;cases e
 have h6:atB h a=true:=by
  cases h6:atB h a
  · unfold atE at e;rw [if_pos h1,if_pos h5,h6]at e;simp at e
  · rfl
 obtain ⟨hin,⟨i,j,e1,e2,hi,hj,ha⟩,t,ht,htl⟩:=zt2 h1 h5
 have hg:h.pages[i]?=some h.pages[i]:=List.getElem?_eq_getElem hi
 have hp:zjy h a=h.pages[i]:=by unfold zjy;rw [e1,Int.toNat_natCast];exact zin hg
 have hh:atH h a=hdOf (ziE h a):=by unfold atH;rw [if_pos e]
 have hz:osz h a=dN (ziE h a)+1:=by unfold osz;rw [hh];rfl
 unfold atB at h6
 rw [hp,e2]at h6
 simp only [Bool.and_eq_true,decide_eq_true_eq]at h6
 obtain ⟨⟨⟨k1,k2⟩,k3⟩,k4⟩:=h6
 obtain ⟨c1,c2,c3,c4,c5,c6,c7⟩:=zan h1
 obtain ⟨p1,p2,p3,p4,p5⟩:=zai c1
 have hm:=zbC _ _ _ _ c7 _ (List.mem_of_getElem? hg)
 have pp:=zaw (p:=i) c1 (by omega) (by omega)
 have kd:(h.pages[i].kind=1/\j+osz h a<=h.pages[i].used/\h.pages[i].used<=h.pw)\/(h.pages[i].kind=2/\j=0/\osz h a=h.pages[i].used/\1<=ziq h.pw h.np h.pages[i].used):=by
  rcases k1 with k1 | k1
  · left
    rw [if_pos k1]at k4
    have:=of_decide_eq_true k4
    have h9:=hm.2.2.2.2.2.1 k1
    refine ⟨k1,by rw [hz];omega,h9.2⟩
  · right
    rw [if_neg (by omega)]at k4
    obtain ⟨m1,m2⟩:=of_decide_eq_true k4
    refine ⟨k1,by omega,by rw [hz];exact m2,hm.2.2.2.2.2.2.1 k1⟩
 refine ⟨i,j,h.pages[i],h1,e1,hi,hj,ha,hg,k3,hh,hz,kd,?_⟩
 rcases kd with ⟨k,l,m⟩ | ⟨k,l,m,n⟩
 · omega
 · obtain ⟨t1,t2,t3⟩:=zdB c7 hg k
   obtain ⟨f1,f2,-⟩:=zoD n
   have:(i:Int)*h.pw+ziq h.pw h.np h.pages[i].used*h.pw<=h.np*h.pw:=by
    rw [<-Int.add_mul];exact Int.mul_le_mul_of_nonneg_right (by omega) (by omega)
   omega
theorem Begins.pos {h:Hp} {a:Int} {i j:Nat} {g:Pg} (b:Begins h a i j g):1<=osz h a/\4096<=a:=by
 obtain ⟨c1,c2,c3,c4,c5,c6,c7⟩:=zan b.ok
 obtain ⟨p1,p2,p3,p4,p5⟩:=zai c1
 have pp:=zaw (p:=i) c1 (by omega) (by have:=b.il;omega)
 have:=b.sz
 have:=b.ad
 omega
theorem Begins.upto {h:Hp} {a:Int} {i j:Nat} {g:Pg} (b:Begins h a i j g):1<=zlx h g/\4096+(i:Int)*h.pw<=a/\a+osz h a<=4096+((i:Int)+zlx h g)*h.pw/\∀ t:Nat,i<t->(t:Int)<i+zlx h g->∃ y,h.pages[t]?=some y/\y.kind=3:=by
 obtain ⟨c1,c2,c3,c4,c5,c6,c7⟩:=zan b.ok
 obtain ⟨p1,p2,p3,p4,p5⟩:=zai c1
 have ha:=b.ad
 rw [Int.add_mul]
 rcases b.kd with ⟨k,l,m⟩ | ⟨k,l,m,n⟩
 · have e:zlx h g=1:=by unfold zlx;rw [if_neg (by omega)]
   rw [e,Int.one_mul]
   exact ⟨by omega,by omega,by omega,fun t h1 h2=>by omega⟩
 · have e:zlx h g=ziq h.pw h.np g.used:=by unfold zlx;rw [if_pos k]
   obtain ⟨f1,f2,-⟩:=zoD n
   obtain ⟨t1,t2,t3⟩:=zdB c7 b.pg k
   rw [e]
   refine ⟨by omega,by omega,by omega,fun t h1 h2=>?_⟩
   obtain ⟨y,h3,h4,-⟩:=t3 t h1 h2
   exact ⟨y,h3,h4⟩
theorem zo8 {h:Hp} {a b:Int} {i j k l:Nat} {g f:Pg} (ha:Begins h a i j g) (hb:Begins h b k l f) (hik:i<k):a+osz h a<=b:=by
 obtain ⟨u1,u2,u3,u4⟩:=ha.upto
 obtain ⟨v1,v2,v3,v4⟩:=hb.upto
 obtain ⟨c1,-⟩:=zan ha.ok
 obtain ⟨p1,p2,p3,p4,p5⟩:=zai c1
 have h1:¬(k:Int)<i+zlx h g:=fun hlt=>by
  obtain ⟨y,y1,y2⟩:=u4 k hik hlt
  rw [hb.pg]at y1
  injection y1 with y1
  subst y1
  rcases hb.kd with ⟨z,-⟩ | ⟨z,-⟩ <;> omega
 have:((i:Int)+zlx h g)*h.pw<=(k:Int)*h.pw:=Int.mul_le_mul_of_nonneg_right (by omega) (by omega)
 omega
theorem zaq {h:Hp} {a:Int} {i j:Nat} {g:Pg} (ha:Begins h a i j g) {k:Nat} {f:Pg} (hf:h.pages[k]?=some f) (hk:f.kind=0):a+osz h a<=4096+(k:Int)*h.pw\/4096+(k:Int)*h.pw+h.pw<=a:=by
 obtain ⟨u1,u2,u3,u4⟩:=ha.upto
 obtain ⟨c1,-⟩:=zan ha.ok
 obtain ⟨p1,p2,p3,p4,p5⟩:=zai c1
 have hne:i≠k:=fun e=>by
  subst e
  have:=ha.pg
  rw [hf]at this
  injection this with this
  subst this
  rcases ha.kd with ⟨z,-⟩ | ⟨z,-⟩ <;> omega
 by_cases hik:i<k
 · left
   have h1:¬(k:Int)<i+zlx h g:=fun hlt=>by
    obtain ⟨y,y1,y2⟩:=u4 k hik hlt
    rw [hf]at y1
    injection y1 with y1
    subst y1
    omega
   have:((i:Int)+zlx h g)*h.pw<=(k:Int)*h.pw:=Int.mul_le_mul_of_nonneg_right (by omega) (by omega)
   omega
 · right
   have e1:((k:Int)+1)*h.pw<=(i:Int)*h.pw:=Int.mul_le_mul_of_nonneg_right (by omega) (by omega)
   rw [Int.add_mul,Int.one_mul]at e1
   omega
theorem zf9 (h:Hp) (i:Nat) (u:Nat) (hc:confB h.pw h.np=true) (hi:(i:Int)<h.np) (hu:(u:Int)<=h.pw):∀ (f o:Nat) (l:List Int),u-o<=f->zjp h i false u o=some l ->
 (∀ a∈l,4096+(i:Int)*h.pw+o<=a)/\l.Pairwise (fun a b=>a+osz h a<=b)
 | f,o,l,hf,hl=>by
  by_cases hlt:o<u
  · have he:atE h (ziR h.pw h.np i o)=0:=by
     by_cases he:atE h (ziR h.pw h.np i o)=0
     · exact he
     · rw [zbJ hlt he]at hl;cases hl
    have hA:ziR h.pw h.np i o=4096+(i:Int)*h.pw+o:=(zlb hc (by unfold inPg;exact decide_eq_true (by omega))).1
    rw [zbB hlt he]at hl
    obtain ⟨l2,hl2,rfl⟩:=Option.map_eq_some_iff.1 hl
    match f,hf with
    | f+1,hf=>
     have hn:=(zo9 he).2.2.2.2.1
     obtain ⟨s1,s2⟩:=zf9 h i u hc hi hu f _ l2 (by omega) hl2
     refine ⟨fun a ha=>?_,List.pairwise_cons.2 ⟨fun b hb=>?_,s2⟩⟩
     · rcases List.mem_cons.1 ha with rfl | ha
       · omega
       · have:=s1 a ha;omega
     · have:=s1 b hb
       unfold osz
       omega
    | 0,hf=>omega
  · rw [zaU hlt]at hl
    obtain rfl:=Option.some.inj hl
    exact ⟨fun a ha=>(by cases ha),List.Pairwise.nil⟩
theorem zn3 {h:Hp} (h1:okH h=true) (i:Nat) (hi:i<h.pages.length):(zi7 h i).Pairwise (fun a b=>a+osz h a<=b)/\∀ a∈zi7 h i,∃ j g,Begins h a i j g:=by
 obtain ⟨c1,c2,c3,c4,c5,c6,c7⟩:=zan h1
 obtain ⟨p1,p2,p3,p4,p5⟩:=zai c1
 have hg:h.pages[i]?=some h.pages[i]:=List.getElem?_eq_getElem hi
 have hpg:pgAt h i=h.pages[i]:=by unfold pgAt;rw [Int.toNat_natCast];exact zin hg
 have hm:=zbC _ _ _ _ c7 _ (List.mem_of_getElem? hg)
 have hno:¬((i:Int)<0\/(h.pages.length:Int)<=i):=by omega
 by_cases h3:(pgAt h i).kind=0\/(pgAt h i).kind=3
 · rw [(zcz h1 hno h3).2]
   exact ⟨List.Pairwise.nil,fun a ha=>by cases ha⟩
 · rw [(zdV h1 hno h3).2]
   rw [hpg]at h3
   have hk:h.pages[i].kind=1\/h.pages[i].kind=2:=by omega
   cases hw:zjZ h i with
   | none=>exact ⟨List.Pairwise.nil,fun a ha=>by cases ha⟩
   | some l=>
    rw [Option.getD_some]
    unfold zjZ at hw
    rw [hpg]at hw
    have hat:=zpx h i _ _ _ 0 l (Nat.le_refl _) hw
    have hbg:∀ a∈l,∃ j g,Begins h a i j g:=fun a ha=>by
     obtain ⟨e1,o,o1,o2,o3⟩:=hat a ha
     obtain ⟨i2,j,g,hb⟩:=zuL e1
     have hi2:i2=i:=by
      have h4:=hb.oi
      rw [o3]at h4
      cases hpi:inPg h.pw h.np i o with
      | false=>
       have h8:=(znn c1 hpi).1
       have:=hb.pos.2
       omega
      | true=>
       obtain ⟨a1,a2,a3⟩:=zt3 c1 hpi
       rw [(zlb c1 hpi).1,(zlY c1 a1).1,a2]at h4
       omega
     subst hi2
     exact ⟨j,g,hb⟩
    refine ⟨?_,hbg⟩
    rcases hk with hk | hk
    · rw [show decide (h.pages[i].kind=2)=false from decide_eq_false (by omega)]at hw
      have h9:=hm.2.2.2.2.2.1 hk
      exact (zf9 h i _ c1 (by omega) (by omega) _ 0 l (Nat.le_refl _) hw).2
    · rw [show decide (h.pages[i].kind=2)=true from decide_eq_true hk]at hw
      by_cases hlt:0<h.pages[i].used.toNat
      · by_cases he:atE h (ziR h.pw h.np i ((0:Nat):Int))=0
        · rw [zcX hlt he]at hw
          obtain rfl:=Option.some.inj hw
          exact List.pairwise_singleton _ _
        · rw [zbJ hlt he]at hw;cases hw
      · rw [zaU hlt]at hw
        obtain rfl:=Option.some.inj hw
        exact List.Pairwise.nil
theorem zcu {h:Hp} (h1:okH h=true):∀ k:Nat,k<=h.pages.length->(zi1 h k).Pairwise (fun a b=>a+osz h a<=b)/\∀ a∈zi1 h k,∃ i j g,i<k/\Begins h a i j g
 | 0,_=>by
  have:zi1 h 0=[]:=rfl
  rw [this];exact ⟨List.Pairwise.nil,fun a ha=>by cases ha⟩
 | k+1,hk=>by
  obtain ⟨s1,s2⟩:=zcu h1 k (by omega)
  obtain ⟨t1,t2⟩:=zn3 h1 k (by omega)
  rw [zbr]
  refine ⟨List.pairwise_append.2 ⟨s1,t1,fun a ha b hb=>?_⟩,fun a ha=>?_⟩
  · obtain ⟨i,j,g,hi,hba⟩:=s2 a ha
    obtain ⟨l,f,hbb⟩:=t2 b hb
    exact zo8 hba hbb hi
  · rcases List.mem_append.1 ha with ha | ha
    · obtain ⟨i,j,g,hi,hba⟩:=s2 a ha
      exact ⟨i,j,g,by omega,hba⟩
    · obtain ⟨j,g,hba⟩:=t2 a ha
      exact ⟨k,j,g,by omega,hba⟩
theorem zdk (h:Hp):(zij h).Pairwise (fun a b=>a+osz h a<=b):=by
 unfold zij zje
 refine List.Pairwise.filter _ ?_
 unfold ziB
 by_cases h1:okH h=true
 · rw [if_pos h1]
   split
   · exact (zcu h1 _ (Nat.le_refl _)).1
   · exact List.Pairwise.nil
 · rw [if_neg h1];exact List.Pairwise.nil
theorem zfp {R:Int->Int->Prop}:∀ {l:List Int},l.Pairwise R->∀ {a b:Int},a∈l->b∈l->a=b\/R a b\/R b a
 | [],_,a,b,ha,_=>by cases ha
 | c::l,hp,a,b,ha,hb=>by
  obtain ⟨h1,h2⟩:=List.pairwise_cons.1 hp
  rcases List.mem_cons.1 ha with ha2 | ha2 <;> rcases List.mem_cons.1 hb with hb2 | hb2
  · exact Or.inl (ha2.trans hb2.symm)
  · subst ha2;exact Or.inr (Or.inl (h1 _ hb2))
  · subst hb2;exact Or.inr (Or.inr (h1 _ ha2))
  · exact zfp h2 ha2 hb2
theorem zbs {h:Hp} {a b:Int} (ha:a∈zij h) (hb:b∈zij h) (hne:a≠b):a+osz h a<=b\/b+osz h b<=a :=
 (zfp (zdk h) ha hb).resolve_left hne
theorem zah {h:Hp} {a:Int} (ha:a∈zij h):∃ i j g,Begins h a i j g:=zuL (zgp ha).1
theorem ziz {len:Nat} {a:Int} {n:Nat}:okA len a n=true↔4096<=a/\a+n<=4096+len:=by
 unfold okA;rw [decide_eq_true_eq];omega
theorem zbO (xs:List Int) {a:Int} (h:4096<=a):zit xs a=(xs[(a-4096).toNat]?).getD 0:=by
 unfold zit
 by_cases hk:okA xs.length a 1=true
 · rw [if_pos hk,List.getD_eq_getElem?_getD]
 · rw [if_neg hk]
   have:xs[(a-4096).toNat]?=none:=by
    rw [List.getElem?_eq_none_iff]
    have h2:¬(4096<=a/\a+(1:Nat)<=4096+xs.length):=fun c=>hk (ziz.2 c)
    omega
   rw [this];rfl
theorem zf0 (xs:List Int) {a:Int} (h:a<4096):zit xs a=0:=by
 unfold zit okA
 rw [if_neg]
 simp only [decide_eq_true_eq]
 omega
theorem zb0 {xs l:List Int} {p:Int} (h:okA xs.length p l.length=true):(ziw xs p l).length=xs.length:=by
 unfold ziw;rw [if_pos h]
 have:=ziz.1 h
 exact zbe (by omega)
theorem zaH {xs l:List Int} {p:Int} (h:okA xs.length p l.length=true) {a:Int} (ha:a<p\/p+l.length<=a):zit (ziw xs p l) a=zit xs a:=by
 have h2:=ziz.1 h
 by_cases h4:4096<=a
 · rw [zbO _ h4,zbO _ h4]
   unfold ziw;rw [if_pos h,zcY (by omega) (by omega)]
 · rw [zf0 _ (by omega),zf0 _ (by omega)]
theorem zce {xs:List Int} {p v:Int} (h:okA xs.length p 1=true):zit (ziw xs p [v]) p=v:=by
 have h2:=ziz.1 h
 rw [zbO _ h2.1]
 unfold ziw;rw [if_pos (show okA xs.length p [v].length=true from h),zcw (by simp;omega) (Nat.le_refl _) (by simp),Nat.sub_self];rfl
theorem zmV {xs:List Int} {t f n:Int} (h0:0<=n) (ht:okA xs.length t n.toNat=true) (hf:okA xs.length f n.toNat=true):(zkd xs t f n).length=xs.length:=by
 unfold zkd;rw [if_neg (by omega),if_pos ⟨ht,hf⟩]
 have h1:=ziz.1 ht
 have h2:=ziz.1 hf
 refine zbe ?_
 rw [List.length_take,List.length_drop];omega
theorem zeb {xs:List Int} {t f n:Int} (h0:0<=n) (ht:okA xs.length t n.toNat=true) (hf:okA xs.length f n.toNat=true) {a:Int} (ha:a<t\/t+n<=a):zit (zkd xs t f n) a=zit xs a:=by
 have h1:=ziz.1 ht
 have h2:=ziz.1 hf
 by_cases h4:4096<=a
 · rw [zbO _ h4,zbO _ h4]
   unfold zkd;rw [if_neg (by omega),if_pos ⟨ht,hf⟩,zcY (by rw [List.length_take,List.length_drop];omega) (by rw [List.length_take,List.length_drop];omega)]
 · rw [zf0 _ (by omega),zf0 _ (by omega)]
theorem zfq {xs:List Int} {t f n:Int} (h0:0<=n) (ht:okA xs.length t n.toNat=true) (hf:okA xs.length f n.toNat=true) {k:Int} (hk0:0<=k) (hk:k<n):zit (zkd xs t f n) (t+k)=zit xs (f+k):=by
 have h1:=ziz.1 ht
 have h2:=ziz.1 hf
 rw [zbO _ (by omega),zbO _ (by omega)]
 unfold zkd;rw [if_neg (by omega),if_pos ⟨ht,hf⟩,zcw (by rw [List.length_take,List.length_drop];omega) (by omega) (by rw [List.length_take,List.length_drop];omega),List.getElem?_take,if_pos (by omega),List.getElem?_drop]
 congr 2;omega
def ziS (x:Wk) (q:Int):Prop:=∃ (k:Nat) (g:Pg),(k:Int)∈x.taken/\x.h.pages[k]?=some g/\4096+(k:Int)*x.h.pw<=q/\okD (evWd x q).toNat=true/\q+evN x q<=4096+(k:Int)*x.h.pw+g.used
def zjr (x:Wk) (a:Int):Bool:=decide (¬a∈x.queue) && !okT (evWd x a).toNat
structure Inv (h:Hp) (x:Wk):Prop where
 ok:okH h=true
 pw:x.h.pw=h.pw
 np:x.h.np=h.np
 sp:x.h.space=h.space
 old:x.old=zij h
 wl:x.h.words.length=h.words.length
 pl:x.h.pages.length=h.pages.length
 tk:∀ t∈x.taken,∃ (k:Nat) (g0 g:Pg),t=(k:Int)/\h.pages[k]?=some g0/\g0.kind=0/\x.h.pages[k]?=some g/\g.kind=1/\0<=g.used/\g.used<=h.pw
 pg:∀ (k:Nat) (g0:Pg),h.pages[k]?=some g0->¬(k:Int)∈x.taken->∃ g,x.h.pages[k]?=some g/\g.kind=g0.kind/\g.used=g0.used
 tl:x.taken.length<=ziO x.h.pages
 un:∀ a∈zij h,evWd x a=zit h.words a\/(okT (evWd x a).toNat=true/\¬a∈x.queue/\zj9 x (ofI h.pw h.np a)=false)
 qs:∀ q∈x.queue,q∈zij h\/ziS x q
 dj:∀ q∈x.queue,∀ r∈x.queue,ziS x q->ziS x r->q≠r->q+evN x q<=r\/r+evN x r<=q
 cnt:x.queue.length+((zij h).filter (zjr x)).length<=(zij h).length
structure Later (x y:Wk):Prop where
 sc:y.sc=x.sc
 qu:∃ l,y.queue=x.queue++l
 hd:∀ q∈x.queue,evWd y q=evWd x q
theorem Later.refl (x:Wk):Later x x:=⟨rfl,⟨[],by simp⟩,fun _ _=>rfl⟩
theorem Later.mem {x y:Wk} (h:Later x y) {q:Int} (hq:q∈x.queue):q∈y.queue:=by
 obtain ⟨l,e⟩:=h.qu;rw [e];exact List.mem_append_left _ hq
theorem Later.trans {x y z:Wk} (h:Later x y) (k:Later y z):Later x z:=by
 refine ⟨k.sc.trans h.sc,?_,fun q hq=>(k.hd q (h.mem hq)).trans (h.hd q hq)⟩
 obtain ⟨l,e⟩:=h.qu
 obtain ⟨m,f⟩:=k.qu
 exact ⟨l++m,by rw [f,e,List.append_assoc]⟩
theorem zlI {x:Wk} {a:Int} (h:okD (evWd x a).toNat=true):evN x a=dN (evWd x a).toNat+1/\(evH x a).n=dN (evWd x a).toNat:=by
 have e:=zma h
 have v:=(za8 h).2.2
 refine ⟨?_,?_⟩
 · unfold evN;rw [e.1,e.2.1,e.2.2,zjA v]
 · unfold evH;exact e.2.1
theorem zld {h:Hp} {x:Wk} {a:Int} (ha:a∈zij h) (e:evWd x a=zit h.words a):okD (evWd x a).toNat=true/\evN x a=osz h a/\(evH x a).n+1=osz h a/\okT (evWd x a).toNat=false:=by
 obtain ⟨i,j,g,b⟩:=zah ha
 have hp:=b.pos
 have h1:(evWd x a).toNat=ziE h a:=by
  rw [e,zbO _ hp.2];unfold ziE;rw [List.getD_eq_getElem?_getD]
 have h2:okD (evWd x a).toNat=true:=by rw [h1];exact b.od
 obtain ⟨e1,e2⟩:=zlI h2
 have hs:=b.sz
 rw [<-h1]at hs
 refine ⟨h2,by omega,by omega,?_⟩
 rw [<-Bool.not_eq_true]
 exact fun c=>apart _ ⟨h2,c⟩
theorem Inv.kept {h:Hp} {x:Wk} (I:Inv h x) {a:Int} (ha:a∈zij h) (hq:a∈x.queue):evWd x a=zit h.words a :=
 (I.un a ha).elim id (fun c=>absurd hq c.2.1)
theorem Inv.conf {h:Hp} {x:Wk} (I:Inv h x):16<=h.pw/\h.pw<=64/\8<=h.np/\h.np<=64/\(h.words.length:Int)=h.np*h.pw/\(h.pages.length:Int)=h.np/\h.np*h.pw<=4096/\0<=h.space/\h.space<=1:=by
 obtain ⟨c1,c2,c3,c4,c5,c6,c7⟩:=zan I.ok
 obtain ⟨p1,p2,p3,p4,p5⟩:=zai c1
 exact ⟨p1,p2,p4,p5,c2,c3,(conf_prod c1).2,c4,c5⟩
theorem Inv.qlen {h:Hp} {x:Wk} (I:Inv h x):x.queue.length<=(zij h).length/\(zij h).length<=4096:=by
 refine ⟨by have:=I.cnt;omega,?_⟩
 unfold zij zje
 exact Nat.le_trans (List.length_filter_le _ _) (zaR h)
theorem Inv.plok {h:Hp} {x:Wk} (I:Inv h x):PlOK x:=by
 obtain ⟨c1,c2,c3,c4,c5,c6,c7,c8,c9⟩:=I.conf
 have h1:=I.pl
 refine ⟨by rw [I.pw];exact c1,by rw [I.pw];exact c2,by omega,by omega,by rw [I.sp];exact c8,by rw [I.sp];exact c9,?_,fun l hl=>?_⟩
 · have h2:=I.tl
   have h3:=zee x.h.pages
   omega
 · obtain ⟨k,g0,g,e,-,-,h4,-,h5,h6⟩:=I.tk l (List.mem_of_getLast? hl)
   exact ⟨k,e,g,h4,h5,by rw [I.pw];exact h6⟩
theorem Inv.fwok {h:Hp} {x:Wk} (I:Inv h x):FwOK x:=by
 have h1:=I.conf
 have h2:=I.wl
 have h3:=I.qlen
 exact ⟨I.plok,by omega,by omega⟩
theorem Inv.copy {h:Hp} {x:Wk} (I:Inv h x) {q:Int} (hc:ziS x q):∃ (k:Nat) (g0:Pg),h.pages[k]?=some g0/\g0.kind=0/\(k:Int)<h.np/\4096+(k:Int)*h.pw<=q/\q+evN x q<=4096+(k:Int)*h.pw+h.pw/\1<=evN x q/\okD (evWd x q).toNat=true:=by
 obtain ⟨k,g,h1,h2,h3,h4,h5⟩:=hc
 obtain ⟨k2,g0,g2,e,f1,f2,f3,f4,f5,f6⟩:=I.tk _ h1
 obtain rfl:k=k2:=by omega
 rw [h2]at f3
 injection f3 with f3
 subst f3
 have:=(zlI h4).1
 have h7:=(List.getElem?_eq_some_iff.1 f1).1
 have h8:=I.conf
 rw [I.pw]at h3 h5
 exact ⟨k,g0,f1,f2,by omega,h3,by omega,by omega,h4⟩
theorem Inv.old_copy {h:Hp} {x:Wk} (I:Inv h x) {a q:Int} (ha:a∈zij h) (hc:ziS x q):a+osz h a<=q\/q+evN x q<=a:=by
 obtain ⟨k,g0,h1,h2,h3,h4,h5,h6,h7⟩:=I.copy hc
 obtain ⟨i,j,g,b⟩:=zah ha
 have:=zaq b h1 h2
 omega
theorem Inv.inside {h:Hp} {x:Wk} (I:Inv h x) {A i:Int} (hA:A∈x.queue) (h0:0<=i) (h1:i<(evH x A).n) :
 okA x.h.words.length (A+1+i) 1=true/\(∀ a∈zij h,A+1+i≠a)/\(∀ q∈x.queue,A+1+i≠q):=by
 have hcf:=I.conf
 have hwl:=I.wl
 rcases I.qs A hA with ho | hc
 · have e:=I.kept ho hA
   obtain ⟨e1,e2,e3,e4⟩:=zld ho e
   obtain ⟨i2,j2,g,b⟩:=zah ho
   have hb:=b.pos
   have hbl:=b.wl
   have hold:∀ a∈zij h,A+1+i≠a:=fun a ha eq=>by
    by_cases hne:A=a
    · omega
    · have h2:=zbs ho ha hne
      obtain ⟨i3,j3,g3,b3⟩:=zah ha
      have:=b3.pos
      omega
   refine ⟨ziz.2 (by omega),hold,fun q hq eq=>?_⟩
   rcases I.qs q hq with h2 | h2
   · exact hold q h2 eq
   · have h3:=I.old_copy ho h2
     obtain ⟨k,g0,f1,f2,f3,f4,f5,f6,f7⟩:=I.copy h2
     omega
 · obtain ⟨k,g0,f1,f2,f3,f4,f5,f6,f7⟩:=I.copy hc
   obtain ⟨e1,e2⟩:=zlI f7
   obtain ⟨c1,-⟩:=zan I.ok
   have pp:=zaw (p:=k) c1 (by omega) f3
   have hold:∀ a∈zij h,A+1+i≠a:=fun a ha eq=>by
    have h3:=I.old_copy ha hc
    obtain ⟨i3,j3,g3,b3⟩:=zah ha
    have:=b3.pos
    omega
   refine ⟨ziz.2 (by omega),hold,fun q hq eq=>?_⟩
   rcases I.qs q hq with h2 | h2
   · exact hold q h2 eq
   · by_cases hne:A=q
     · omega
     · have h3:=I.dj A hA q hq hc h2 hne
       obtain ⟨k2,g2,d1,d2,d3,d4,d5,d6,d7⟩:=I.copy h2
       omega
theorem zgN {p q:Int->Bool}:∀ {l:List Int},(∀ a∈l,p a=q a)->l.filter p=l.filter q
 | [],_=>rfl
 | a::l,h=>by
  rw [List.filter_cons,List.filter_cons,h a (List.mem_cons_self ..),zgN (fun b hb=>h b (List.mem_cons_of_mem _ hb))]
theorem zdC {p q:Int->Bool} {c:Int}:∀ {l:List Int},(∀ a∈l,q a=true->p a=true)->c∈l->p c=true->q c=false->(l.filter q).length+1<=(l.filter p).length
 | [],_,hc,_,_=>by cases hc
 | a::l,h,hc,hp,hq=>by
  have hle:∀ {m:List Int},(∀ a∈m,q a=true->p a=true)->(m.filter q).length<=(m.filter p).length:=by
   intro m
   induction m with
   | nil=>intro _;exact Nat.le_refl _
   | cons b m ih=>
    intro hm
    have h1:=ih (fun a ha=>hm a (List.mem_cons_of_mem _ ha))
    have h2:=hm b (List.mem_cons_self ..)
    rw [List.filter_cons,List.filter_cons]
    cases hqb:q b
    · simp only [Bool.false_eq_true,if_false]
      cases p b <;> simp <;> omega
    · rw [h2 hqb];simp;omega
  rw [List.filter_cons,List.filter_cons]
  rcases List.mem_cons.1 hc with rfl | hc
  · rw [hp,hq]
    have:=hle (m:=l) (fun a ha=>h a (List.mem_cons_of_mem _ ha))
    simp;omega
  · have h1:=zdC (fun a ha=>h a (List.mem_cons_of_mem _ ha)) hc hp hq
    have h2:=h a (List.mem_cons_self ..)
    cases hqb:q a
    · simp only [Bool.false_eq_true,if_false]
      cases p a <;> simp <;> omega
    · rw [h2 hqb];simp;omega
theorem Inv.write {h:Hp} {x:Wk} (I:Inv h x) {p v:Int} (hp:okA x.h.words.length p 1=true) (h1:∀ a∈zij h,p≠a) (h2:∀ q∈x.queue,p≠q) :
 Inv h { x with h:={ x.h with words:=ziw x.h.words p [v] } }/\Later x { x with h:={ x.h with words:=ziw x.h.words p [v] } }:=by
 have hev:∀ a,p≠a->evWd { x with h:={ x.h with words:=ziw x.h.words p [v] } } a=evWd x a:=fun a ha=>by
  unfold evWd;exact zaH (l:=[v]) hp (by simp only [List.length_singleton];omega)
 have hcp:∀ q∈x.queue,(ziS { x with h:={ x.h with words:=ziw x.h.words p [v] } } q↔ziS x q):=fun q hq=>by
  unfold ziS evN
  rw [hev q (h2 q hq)]
 have hn:∀ q∈x.queue,evN { x with h:={ x.h with words:=ziw x.h.words p [v] } } q=evN x q:=fun q hq=>by
  unfold evN;rw [hev q (h2 q hq)]
 refine ⟨⟨I.ok,I.pw,I.np,I.sp,I.old,?_,I.pl,I.tk,I.pg,I.tl,fun a ha=>?_,fun q hq=>?_,fun q hq r hr cq cr hne=>?_,?_⟩,⟨rfl,⟨[],by simp⟩,fun q hq=>hev q (h2 q hq)⟩⟩
 · exact (zb0 (l:=[v]) hp).trans I.wl
 · rw [hev a (h1 a ha)];exact I.un a ha
 · rcases I.qs q hq with c | c
   · exact Or.inl c
   · exact Or.inr ((hcp q hq).2 c)
 · rw [hn q hq,hn r hr];exact I.dj q hq r hr ((hcp q hq).1 cq) ((hcp r hr).1 cr) hne
 · rw [zgN (q:=zjr x) (fun a ha=>by unfold zjr;rw [hev a (h1 a ha)])];exact I.cnt
theorem zgG:∀ {ps:List Pg} {k:Nat} {z y:Pg},ps[k]?=some z->ziO (ps.set k y)+(if z.kind=0 then 0 else 1)=ziO ps+(if y.kind=0 then 0 else 1)
 | [],k,z,y,h=>by simp at h
 | a::r,0,z,y,h=>by
  simp at h;subst h
  rw [List.set_cons_zero,ziO,ziO];omega
 | a::r,k+1,z,y,h=>by
  have ih:=zgG (ps:=r) (k:=k) (z:=z) (y:=y) (by simpa using h)
  rw [List.set_cons_succ,ziO,ziO];omega
theorem zgH:∀ {ps qs:List Pg},ps.map (·.kind)=qs.map (·.kind)->ziO ps=ziO qs
 | [],[],_=>rfl
 | [],_::_,h=>by simp at h
 | _::_,[],h=>by simp at h
 | a::r,b::s,h=>by
  simp at h
  rw [ziO,ziO,h.1,zgH (ps:=r) (qs:=s) h.2]
theorem Inv.place {h:Hp} {x:Wk} (I:Inv h x) {n:Int} (hn0:1<=n) (hn:n<=h.pw) (hb:plB x n=true):∃ (J:Nat) (u:Int) (g0 g1:Pg),
 plA x n=4096+(J:Int)*h.pw+u/\0<=u/\u+n<=h.pw/\(J:Int)<h.np/\h.pages[J]?=some g0/\g0.kind=0 /\
 (∀ k:Nat,k≠J->(plW x n).h.pages[k]?=x.h.pages[k]?)/\(plW x n).h.pages[J]?=some g1/\g1.kind=1/\g1.used=u+n /\
 (plW x n).h.pages.length=x.h.pages.length/\(J:Int)∈(plW x n).taken/\(∀ t,t∈(plW x n).taken↔t∈x.taken\/t=J)/\(plW x n).taken.length<=ziO (plW x n).h.pages /\
 ((J:Int)∈x.taken->∃ g,x.h.pages[J]?=some g/\g.used=u):=by
 have hcf:=I.conf
 obtain ⟨J,y,p1,p2,p3,p4,p5,p6,p7⟩:=zc3 I.plok hb
 have hpl:=I.pl
 have htl:=I.tl
 have e1:(plW x n).h.pages=(plPs x n).set J ⟨y.kind,y.space,y.used+n,y.pins⟩:=by
  show zkJ (plPs x n) (plJ x n).toNat n=_
  unfold zkJ;rw [p1,Int.toNat_natCast,zin p4]
 have e2:(plW x n).taken=plT x n:=rfl
 have hA:plA x n=4096+(J:Int)*h.pw+y.used:=by
  unfold plA;rw [p1,Int.toNat_natCast,zin p4,I.pw]
 rw [I.pw]at p6 p7
 have hJ:(plW x n).h.pages[J]?=some ⟨y.kind,y.space,y.used+n,y.pins⟩:=by
  rw [e1,List.getElem?_set];simp [p3,p2]
 have hu1:ziO (plW x n).h.pages=ziO (plPs x n):=by
  have:=zgG (y:=⟨y.kind,y.space,y.used+n,y.pins⟩) p4
  rw [e1];simp only at this;omega
 rcases p7 with ⟨r1,r2,r3,r4⟩ | ⟨r1,r2,r3,r4,z,r5,r6⟩
 · have hm:(J:Int)∈x.taken:=List.mem_of_getLast? r3
   obtain ⟨k2,g0,g,f0,f1,f2,f3,f4,f5,f6⟩:=I.tk _ hm
   obtain rfl:J=k2:=by omega
   rw [r2]at p4
   rw [f3]at p4
   injection p4 with p4
   subst p4
   have hT:(plW x n).taken=x.taken:=by rw [e2];unfold plT;rw [if_pos r1]
   refine ⟨J,g.used,g0,_,hA,f5,r4,by omega,f1,f2,fun k hk=>?_,hJ,f4,rfl,by rw [e1,List.length_set,p3],by rw [hT];exact hm,fun t=>?_,?_,fun _=>⟨g,f3,rfl⟩⟩
   · rw [e1,List.getElem?_set_ne (by omega),r2]
   · rw [hT]
     constructor
     · intro h;exact Or.inl h
     · rintro (h | rfl)
       · exact h
       · exact hm
   · rw [hu1,hT,r2];exact htl
 · have hnt:¬(J:Int)∈x.taken:=fun hm=>by
    obtain ⟨k2,g0,g,f0,f1,f2,f3,f4,f5,f6⟩:=I.tk _ hm
    obtain rfl:J=k2:=by omega
    rw [r5]at f3
    injection f3 with f3
    subst f3
    omega
   have hlt:J<h.pages.length:=by omega
   obtain ⟨g,f1,f2,f3⟩:=I.pg J h.pages[J] (List.getElem?_eq_getElem hlt) hnt
   rw [r5]at f1
   injection f1 with f1
   subst f1
   have hT:(plW x n).taken=x.taken++[(J:Int)]:=by rw [e2];unfold plT;rw [r1,r2];rfl
   subst r4
   refine ⟨J,0,h.pages[J],_,hA,Int.le_refl _,by omega,by omega,List.getElem?_eq_getElem hlt,by omega,fun k hk=>?_,hJ,rfl,rfl,by rw [e1,List.length_set,p3],by rw [hT];simp,fun t=>?_,?_,fun hm=>absurd hm hnt⟩
   · rw [e1,List.getElem?_set_ne (by omega),r3,List.getElem?_set_ne (by omega)]
   · rw [hT];simp
   · rw [hu1,hT,r3,List.length_append]
     have:=zgG (y:=⟨1,1-x.h.space,0,0⟩) r5
     rw [if_pos r6,if_neg (by simp)]at this
     simp only [List.length_singleton]
     omega
theorem zsi {x y:Wk} {i:Nat} (h1:y.h.pages[i]?=x.h.pages[i]?) (h2:y.h.space=x.h.space) (h3:(i:Int)∈y.taken↔(i:Int)∈x.taken):zj9 y i=zj9 x i:=by
 unfold zj9
 rw [Int.toNat_natCast,h1,h2]
 cases x.h.pages[i]? with
 | none=>rfl
 | some g=>simp only [h3]
theorem Inv.begun {h:Hp} {x:Wk} (I:Inv h x) {a:Int} {i j:Nat} {g:Pg} (b:Begins h a i j g):¬(i:Int)∈x.taken:=fun hm=>by
 obtain ⟨k2,g0,g2,f0,f1,f2,-⟩:=I.tk _ hm
 obtain rfl:i=k2:=by omega
 have:=b.pg
 rw [f1]at this
 injection this with this
 subst this
 rcases b.kd with ⟨k,-⟩ | ⟨k,-⟩ <;> omega
theorem zmC {a:Int} (h0:0<=a) (h1:a<4294967296):okT (fwdV a).toNat=true:=by
 rw [(zwp h1).1]
 refine okT_mk ?_ ?_ <;> omega
theorem Inv.keep {h:Hp} {x:Wk} (I:Inv h x) {a:Int} (ha:a∈zij h) (hq:¬a∈x.queue) (ht:okT (evWd x a).toNat=false):Inv h (zjS x a)/\Later x (zjS x a):=by
 have e1:∀ b,evWd (zjS x a) b=evWd x b:=fun b=>rfl
 have e2:∀ b,evN (zjS x a) b=evN x b:=fun b=>rfl
 have e3:∀ b,ziS (zjS x a) b↔ziS x b:=fun b=>Iff.rfl
 have hm:∀ b,b∈(zjS x a).queue↔b∈x.queue\/b=a:=fun b=>by show b∈x.queue++[a]↔_;simp
 have hnc:∀ q,ziS x q->q≠a:=fun q hc e=>by
  subst e
  have h1:=I.old_copy ha hc
  obtain ⟨k,g0,f1,f2,f3,f4,f5,f6,f7⟩:=I.copy hc
  obtain ⟨i,j,g,b⟩:=zah ha
  have:=b.pos
  omega
 refine ⟨⟨I.ok,I.pw,I.np,I.sp,I.old,I.wl,I.pl,I.tk,I.pg,I.tl,fun b hb=>?_,fun q hqq=>?_,fun q hq2 r hr2 cq cr hne=>?_,?_⟩,⟨rfl,⟨[a],rfl⟩,fun _ _=>rfl⟩⟩
 · rcases I.un b hb with c | ⟨c1,c2,c3⟩
   · exact Or.inl c
   · refine Or.inr ⟨c1,fun hin=>?_,c3⟩
     rcases (hm b).1 hin with h2 | h2
     · exact c2 h2
     · subst h2;rw [ht]at c1;cases c1
 · rcases (hm q).1 hqq with h2 | h2
   · exact I.qs q h2
   · subst h2;exact Or.inl ha
 · have hq3:=((hm q).1 hq2).resolve_right (hnc q cq)
   have hr3:=((hm r).1 hr2).resolve_right (hnc r cr)
   exact I.dj q hq3 r hr3 cq cr hne
 · have h1:((zij h).filter (zjr (zjS x a))).length+1<=((zij h).filter (zjr x)).length:=by
    refine zdC (c:=a) (fun b hb hu=>?_) ha ?_ ?_
    · unfold zjr at hu ⊢
      simp only [Bool.and_eq_true,decide_eq_true_eq]at hu ⊢
      exact ⟨fun h2=>hu.1 ((hm b).2 (Or.inl h2)),hu.2⟩
    · unfold zjr;simp [hq,ht]
    · unfold zjr;rw [decide_eq_false (by simp [hm])];rfl
   have h2:(zjS x a).queue.length=x.queue.length+1:=by show (x.queue++[a]).length=_;simp
   have:=I.cnt
   omega
theorem zbK {P:Pg->Bool}:∀ {l:List Pg} {k:Nat},k<(l.takeWhile P).length->∃ y,l[k]?=some y/\P y=true
 | [],k,h=>by simp at h
 | a::l,k,h=>by
  rw [List.takeWhile_cons]at h
  split at h
  · rename_i hp
    cases k with
    | zero=>exact ⟨a,rfl,hp⟩
    | succ k=>
     obtain ⟨y,h1,h2⟩:=zbK (l:=l) (k:=k) (by simpa using h)
     exact ⟨y,by simpa using h1,h2⟩
  · simp at h
theorem Inv.large {h:Hp} {x:Wk} (I:Inv h x) {i:Nat} {g:Pg} (hg:x.h.pages[i]?=some g) (hk:g.kind=2):Inv h (zjl x i)/\Later x (zjl x i)/\(∀ a,evWd (zjl x i) a=evWd x a)/\(zjl x i).queue=x.queue:=by
 have hat:∀ (k:Nat) (y:Pg),x.h.pages[k]?=some y->∃ s,(zjl x i).h.pages[k]?=some ⟨y.kind,s,y.used,y.pins⟩/\(¬(y.kind=2\/y.kind=3)->s=y.space):=fun k y hy=>by
  show ∃ s,(spc x.h.pages i (zjh x.h.pages i) (1-x.h.space))[k]?=_/\_
  unfold spc
  rw [List.getElem?_mapIdx,hy]
  simp only [Option.map_some]
  by_cases hr:i<=k/\k<zjh x.h.pages i
  · rw [if_pos hr]
    refine ⟨1-x.h.space,rfl,fun hno=>?_⟩
    exfalso
    apply hno
    by_cases e:k=i
    · subst e;rw [hg]at hy;injection hy with hy;subst hy;exact Or.inl hk
    · right
      unfold zjh at hr
      obtain ⟨z,z1,z2⟩:=zbK (l:=x.h.pages.drop (i+1)) (k:=k-(i+1)) (P:=fun y=>decide (y.kind=3)) (by omega)
      rw [List.getElem?_drop,show i+1+(k-(i+1))=k from by omega,hy]at z1
      injection z1 with z1
      subst z1
      exact of_decide_eq_true z2
  · rw [if_neg hr];exact ⟨y.space,rfl,fun _=>rfl⟩
 have hkd:(zjl x i).h.pages.map (·.kind)=x.h.pages.map (·.kind):=by
  apply List.ext_getElem?
  intro k
  rw [List.getElem?_map,List.getElem?_map]
  cases hy:x.h.pages[k]? with
  | some y=>
   obtain ⟨s,h1,-⟩:=hat k y hy
   rw [h1];rfl
  | none=>
   have:(zjl x i).h.pages[k]?=none:=by
    show (spc x.h.pages i (zjh x.h.pages i) (1-x.h.space))[k]?=none
    unfold spc;rw [List.getElem?_mapIdx,hy];rfl
   rw [this]
 have hln:(zjl x i).h.pages.length=x.h.pages.length:=by
  have:=congrArg List.length hkd
  rwa [List.length_map,List.length_map]at this
 have hcp:∀ q,ziS (zjl x i) q->ziS x q:=fun q ⟨k,g2,c1,c2,c3,c4,c5⟩=>by
  cases hy:x.h.pages[k]? with
  | some y=>
   obtain ⟨s,h1,-⟩:=hat k y hy
   rw [h1]at c2
   injection c2 with c2
   exact ⟨k,y,c1,hy,c3,c4,by subst c2;exact c5⟩
  | none=>
   have h1:=List.getElem?_eq_none_iff.1 hy
   have h2:=(List.getElem?_eq_some_iff.1 c2).1
   omega
 refine ⟨⟨I.ok,I.pw,I.np,I.sp,I.old,I.wl,hln.trans I.pl,fun t ht=>?_,fun k g0 hg0 hnt=>?_,?_,fun a ha=>?_,fun q hq=>?_,fun q hq r hr cq cr hne=>I.dj q hq r hr (hcp q cq) (hcp r cr) hne,I.cnt⟩,⟨rfl,⟨[],by simp [zjl]⟩,fun _ _=>rfl⟩,fun _=>rfl,rfl⟩
 · obtain ⟨k,g0,g2,f0,f1,f2,f3,f4,f5,f6⟩:=I.tk t ht
   obtain ⟨s,h1,-⟩:=hat k g2 f3
   exact ⟨k,g0,_,f0,f1,f2,h1,f4,f5,f6⟩
 · obtain ⟨g2,f1,f2,f3⟩:=I.pg k g0 hg0 hnt
   obtain ⟨s,h1,-⟩:=hat k g2 f1
   exact ⟨_,h1,f2,f3⟩
 · rw [zgH hkd];exact I.tl
 · rcases I.un a ha with c | ⟨c1,c2,c3⟩
   · exact Or.inl c
   · refine Or.inr ⟨c1,c2,?_⟩
     obtain ⟨i2,j2,g2,b⟩:=zah ha
     rw [b.oi]at c3 ⊢
     obtain ⟨y,f1,f2,f3⟩:=I.pg i2 g2 b.pg (I.begun b)
     obtain ⟨s,h1,h2⟩:=hat i2 y f1
     unfold zj9 at c3 ⊢
     rw [Int.toNat_natCast,f1]at c3
     rw [Int.toNat_natCast,h1]
     simp only at c3 ⊢
     by_cases hk1:y.kind=1
     · rw [h2 (by omega)];exact c3
     · rw [decide_eq_false hk1];simp
 · rcases I.qs q hq with c | ⟨k,y,c1,c2,c3,c4,c5⟩
   · exact Or.inl c
   · obtain ⟨s,h1,-⟩:=hat k y c2
     exact Or.inr ⟨k,_,c1,h1,c3,c4,c5⟩
theorem Inv.copied {h:Hp} {x:Wk} (I:Inv h x) {a:Int} (ha:a∈zij h) (hq:¬a∈x.queue) (ht:okT (evWd x a).toNat=false) (hpr:zj9 x (evI x a)=false) (hbig:zkP x a=false) (hpl:plB x (evN x a)=true) :
 Inv h (ziV x a)/\Later x (ziV x a):=by
 obtain ⟨c1,c2,c3,c4,c5,c6,c7,c8,c9⟩:=I.conf
 obtain ⟨i,j,g,b⟩:=zah ha
 have hbp:=b.pos
 have hbw:=b.wl
 have hwl:=I.wl
 have e0:evWd x a=zit h.words a:=(I.un a ha).elim id (fun c=>by rw [ht]at c;exact absurd c.1 (by decide))
 obtain ⟨e1,e2,e3,-⟩:=zld ha e0
 have hoi:evI x a=i:=by unfold evI;rw [I.pw,I.np];exact b.oi
 obtain ⟨y,f1,f2,f3⟩:=I.pg i g b.pg (I.begun b)
 have hk1:g.kind=1:=by
  rcases b.kd with ⟨k,-⟩ | ⟨k,-⟩
  · exact k
  · unfold zkP at hbig
    rw [hoi,Int.toNat_natCast,zin f1]at hbig
    have:=of_decide_eq_false hbig
    omega
 have hn:evN x a<=h.pw:=by
  rcases b.kd with ⟨k,l,m⟩ | ⟨k,-⟩ <;> omega
 have hn0:1<=evN x a:=by omega
 obtain ⟨J,u,g0,g1,hA,hu0,hun,hJ,hg0,hk0,hoth,hg1,hk11,hu1,hplen,hJt,htk,htl,hru⟩:=I.place hn0 hn hpl
 obtain ⟨N,hN⟩:∃ N,evN x a=N:=⟨_,rfl⟩
 obtain ⟨T,hT⟩:∃ T,plA x N=T:=⟨_,rfl⟩
 rw [hN]at hA hn hn0 hun hoth hg1 hu1 hplen hJt htk htl e2 hpl
 rw [hT]at hA
 have hpp:=zaw (p:=(J:Int)) (zan I.ok).1 (by omega) hJ
 have hfree:=zaq b hg0 hk0
 have ka:okA x.h.words.length T N.toNat=true:=ziz.2 (by omega)
 have kb:okA x.h.words.length a N.toNat=true:=ziz.2 (by omega)
 have kc:okA (zkd x.h.words T a N).length a [fwdV T].length=true:=by rw [zmV (by omega) ka kb];exact ziz.2 (by simp only [List.length_singleton];omega)
 have hW:(ziV x a).h.words=ziw (zkd x.h.words T a N) a [fwdV T]:=by
  show zlK x a=_
  unfold zlK;rw [hN,hT]
 have hQ:(ziV x a).queue=x.queue++[T]:=by show x.queue++[plA x (evN x a)]=_;rw [hN,hT]
 have hP:(ziV x a).h.pages=(plW x N).h.pages:=by show (plW x (evN x a)).h.pages=_;rw [hN]
 have hTk:(ziV x a).taken=(plW x N).taken:=by show (plW x (evN x a)).taken=_;rw [hN]
 have hpw:(ziV x a).h.pw=h.pw:=I.pw
 have hself:evWd (ziV x a) a=fwdV T:=by unfold evWd;rw [hW];exact zce kc
 have hout:∀ p,p≠a->(p<T\/T+N<=p)->evWd (ziV x a) p=evWd x p:=fun p h1 h2=>by
  unfold evWd;rw [hW,zaH kc (by simp only [List.length_singleton];omega)]
  exact zeb (by omega) ka kb (by omega)
 have hnew:evWd (ziV x a) T=evWd x a:=by
  unfold evWd;rw [hW,zaH kc (by simp only [List.length_singleton];omega)]
  have:=zfq (k:=0) (by omega) ka kb (Int.le_refl _) (by omega)
  simpa using this
 have hold:∀ c∈zij h,c≠a->evWd (ziV x a) c=evWd x c:=fun c hc hne=>by
  obtain ⟨i3,j3,g3,b3⟩:=zah hc
  have h1:=zaq b3 hg0 hk0
  have h2:=b3.pos
  exact hout c hne (by omega)
 have hbelow:∀ q,ziS x q->q+evN x q<=T\/T+N<=q:=fun q hc=>by
  have hc2:=hc
  obtain ⟨k,y2,d1,d2,d3,d4,d5⟩:=hc
  obtain ⟨k3,y0,y3,l0,l1,l2,l3,l4,l5,l6⟩:=I.tk _ d1
  obtain rfl:k=k3:=by omega
  rw [d2]at l3
  injection l3 with l3
  subst l3
  rw [I.pw]at d3 d5
  by_cases hkJ:k=J
  · subst hkJ
    obtain ⟨g5,m1,m2⟩:=hru d1
    rw [d2]at m1
    injection m1 with m1
    subst m1
    left;omega
  · by_cases hlt:k<J
    · left
      have:((k:Int)+1)*h.pw<=(J:Int)*h.pw:=Int.mul_le_mul_of_nonneg_right (by omega) (by omega)
      rw [Int.add_mul,Int.one_mul]at this
      omega
    · right
      have:((J:Int)+1)*h.pw<=(k:Int)*h.pw:=Int.mul_le_mul_of_nonneg_right (by omega) (by omega)
      rw [Int.add_mul,Int.one_mul]at this
      omega
 have hcopy:∀ q,ziS x q->evWd (ziV x a) q=evWd x q/\q≠a/\q≠T:=fun q hc=>by
  have h1:=hbelow q hc
  obtain ⟨k,y0,l1,l2,l3,l4,l5,l6,l7⟩:=I.copy hc
  have h2:=I.old_copy ha hc
  have hne:q≠a:=by omega
  exact ⟨hout q hne (by omega),hne,by omega⟩
 have hcopyN:∀ q,ziS x q->evN (ziV x a) q=evN x q:=fun q hc=>by unfold evN;rw [(hcopy q hc).1]
 have hqd:∀ q∈x.queue,evWd (ziV x a) q=evWd x q:=fun q h1=>by
  rcases I.qs q h1 with h2 | h2
  · exact hold q h2 (fun e=>hq (by rw [<-e];exact h1))
  · exact (hcopy q h2).1
 have hcc:∀ q,ziS x q->ziS (ziV x a) q:=fun q hc=>by
  have h9:=hcopyN q hc
  have h8:=(hcopy q hc).1
  have hc2:=hc
  obtain ⟨k,y2,d1,d2,d3,d4,d5⟩:=hc
  by_cases hkJ:k=J
  · subst hkJ
    obtain ⟨g5,m1,m2⟩:=hru d1
    rw [d2]at m1
    injection m1 with m1
    subst m1
    refine ⟨k,g1,by rw [hTk];exact hJt,by rw [hP];exact hg1,by rw [hpw];rw [I.pw]at d3;exact d3,by rw [h8];exact d4,?_⟩
    rw [h9,hpw];rw [I.pw]at d5;omega
  · refine ⟨k,y2,by rw [hTk];exact (htk _).2 (Or.inl d1),by rw [hP,hoth k hkJ];exact d2,by rw [hpw];rw [I.pw]at d3;exact d3,by rw [h8];exact d4,?_⟩
    rw [h9,hpw];rw [I.pw]at d5;exact d5
 have hback:∀ q∈x.queue,ziS (ziV x a) q->ziS x q:=fun q h1 hc=>by
  rcases I.qs q h1 with h2 | h2
  · exfalso
    obtain ⟨k,y2,d1,d2,d3,d4,d5⟩:=hc
    obtain ⟨i3,j3,g3,b3⟩:=zah h2
    have hb3:=b3.pos
    rw [hpw]at d3 d5
    have hge:1<=evN (ziV x a) q:=by have:=(zlI d4).1;omega
    rw [hTk]at d1
    rw [hP]at d2
    rcases (htk _).1 d1 with d1 | d1
    · obtain ⟨k3,y0,y3,l0,l1,l2,l3,l4,l5,l6⟩:=I.tk _ d1
      obtain rfl:k=k3:=by omega
      have h6:=zaq b3 l1 l2
      have hul:y2.used<=h.pw:=by
       by_cases hkJ:k=J
       · subst hkJ;rw [hg1]at d2;injection d2 with d2;subst d2;omega
       · rw [hoth k hkJ,l3]at d2;injection d2 with d2;subst d2;exact l6
      omega
    · obtain rfl:k=J:=by omega
      have h6:=zaq b3 hg0 hk0
      rw [hg1]at d2;injection d2 with d2;subst d2
      omega
  · exact h2
 have hTN:evN (ziV x a) T=N:=by unfold evN;rw [hnew];exact hN
 refine ⟨⟨I.ok,I.pw,I.np,I.sp,I.old,?_,?_,fun t h1=>?_,fun k g5 h1 h2=>?_,?_,fun c hc=>?_,fun q h1=>?_,fun q h1 r h2 cq cr hne=>?_,?_⟩,⟨rfl,⟨[T],hQ⟩,hqd⟩⟩
 · rw [hW,zb0 kc,zmV (by omega) ka kb];exact hwl
 · rw [hP,hplen];exact I.pl
 · rw [hTk]at h1
   rw [hP]
   by_cases hkJ:t=J
   · exact ⟨J,g0,g1,hkJ,hg0,hk0,hg1,hk11,by omega,by omega⟩
   · obtain ⟨k3,y0,y3,l0,l1,l2,l3,l4,l5,l6⟩:=I.tk _ (((htk t).1 h1).resolve_right hkJ)
     exact ⟨k3,y0,y3,l0,l1,l2,by rw [hoth k3 (by omega)];exact l3,l4,l5,l6⟩
 · rw [hTk]at h2
   rw [hP]
   have hnt:¬(k:Int)∈x.taken:=fun h3=>h2 ((htk _).2 (Or.inl h3))
   have hkJ:k≠J:=fun e=>h2 ((htk _).2 (Or.inr (by rw [e])))
   obtain ⟨y5,l1,l2,l3⟩:=I.pg k g5 h1 hnt
   exact ⟨y5,by rw [hoth k hkJ];exact l1,l2,l3⟩
 · rw [hTk,hP];exact htl
 · have hstab:∀ i5 j5 g5,Begins h c i5 j5 g5->zj9 (ziV x a) i5=zj9 x i5:=fun i5 j5 g5 b5=>by
    have hnt:=I.begun b5
    have hkJ:i5≠J:=fun e=>by
     subst e
     have:=b5.pg
     rw [hg0]at this
     injection this with this
     subst this
     rcases b5.kd with ⟨k,-⟩ | ⟨k,-⟩ <;> omega
    refine zsi (by rw [hP];exact hoth i5 hkJ) rfl ?_
    rw [hTk,htk]
    constructor
    · rintro (h | h)
      · exact h
      · omega
    · exact Or.inl
   obtain ⟨i5,j5,g5,b5⟩:=zah hc
   by_cases hca:c=a
   · subst hca
     right
     refine ⟨by rw [hself];exact zmC (by omega) (by omega),fun h1=>?_,?_⟩
     · rw [hQ]at h1
       rcases List.mem_append.1 h1 with h1 | h1
       · exact hq h1
       · have:=List.mem_singleton.1 h1;omega
     · rw [b5.oi,hstab _ _ _ b5]
       have:evI x c=i5:=by unfold evI;rw [I.pw,I.np];exact b5.oi
       rw [<-this];exact hpr
   · rw [hold c hc hca]
     rcases I.un c hc with h1 | ⟨h1,h2,h3⟩
     · exact Or.inl h1
     · refine Or.inr ⟨h1,fun h4=>?_,by rw [b5.oi]at h3 ⊢;rw [hstab _ _ _ b5];exact h3⟩
       rw [hQ]at h4
       rcases List.mem_append.1 h4 with h4 | h4
       · exact h2 h4
       · have h5:=List.mem_singleton.1 h4
         have h6:=zaq b5 hg0 hk0
         have h7:=b5.pos
         omega
 · rw [hQ]at h1
   rcases List.mem_append.1 h1 with h1 | h1
   · rcases I.qs q h1 with h2 | h2
     · exact Or.inl h2
     · exact Or.inr (hcc q h2)
   · have h5:=List.mem_singleton.1 h1
     subst h5
     refine Or.inr ⟨J,g1,by rw [hTk];exact hJt,by rw [hP];exact hg1,by rw [hpw];omega,by rw [hnew];exact e1,?_⟩
     rw [hTN,hpw];omega
 · rw [hQ]at h1 h2
   rcases List.mem_append.1 h1 with m1 | m1 <;> rcases List.mem_append.1 h2 with m2 | m2
   · have cq2:=hback q m1 cq
     have cr2:=hback r m2 cr
     rw [hcopyN q cq2,hcopyN r cr2]
     exact I.dj q m1 r m2 cq2 cr2 hne
   · have h5:=List.mem_singleton.1 m2
     have cq2:=hback q m1 cq
     rw [h5,hcopyN q cq2,hTN]
     exact hbelow q cq2
   · have h5:=List.mem_singleton.1 m1
     have cr2:=hback r m2 cr
     rw [h5,hcopyN r cr2,hTN]
     exact (hbelow r cr2).symm
   · exact absurd ((List.mem_singleton.1 m1).trans (List.mem_singleton.1 m2).symm) hne
 · have h1:((zij h).filter (zjr (ziV x a))).length+1<=((zij h).filter (zjr x)).length:=by
    refine zdC (c:=a) (fun c hc hu=>?_) ha ?_ ?_
    · unfold zjr at hu ⊢
      by_cases hca:c=a
      · subst hca
        rw [hself,zmC (by omega) (by omega)]at hu
        simp at hu
      · rw [hold c hc hca]at hu
        simp only [Bool.and_eq_true,decide_eq_true_eq]at hu ⊢
        exact ⟨fun h2=>hu.1 (by rw [hQ];exact List.mem_append_left _ h2),hu.2⟩
    · unfold zjr;simp [hq,ht]
    · unfold zjr;rw [hself,zmC (by omega) (by omega)];simp
   have h2:(ziV x a).queue.length=x.queue.length+1:=by rw [hQ];simp
   have:=I.cnt
   omega
theorem Inv.forward {h:Hp} {x:Wk} (I:Inv h x) {a:Int} (he:evE x a=0):Inv h (evW x a)/\Later x (evW x a):=by
 unfold evE at he
 unfold evW
 by_cases h0:a=0\/a∈x.queue
 · have hc:evC x a=0:=by unfold evC;rw [if_pos h0]
   rw [hc];exact ⟨I,Later.refl x⟩
 have hq:¬a∈x.queue:=fun c=>h0 (Or.inr c)
 by_cases ho:¬a∈x.old
 · have hc:evC x a=1:=by unfold evC;rw [if_neg h0,if_pos ho]
   rw [hc]at he;exact absurd he (by decide)
 replace ho:a∈x.old:=Classical.not_not.1 ho
 have ho2:a∈zij h:=by rw [<-I.old];exact ho
 by_cases ht:okT (evWd x a).toNat=true
 · have hc:evC x a=2:=by unfold evC;rw [if_neg h0,if_neg (by simpa using ho),if_pos ht]
   rw [hc];exact ⟨I,Later.refl x⟩
 replace ht:okT (evWd x a).toNat=false:=by simpa using ht
 by_cases h3:¬ofE x.h.pw x.h.np a=0\/(x.h.pages.length:Int)<=evI x a
 · have hc:evC x a=3:=by unfold evC;rw [if_neg h0,if_neg (by simpa using ho),if_neg (by simp [ht]),if_pos h3]
   rw [hc]at he;exact absurd he (by decide)
 cases hpr:zj9 x (evI x a) with
 | true=>
  have hc:evC x a=4:=by unfold evC;rw [if_neg h0,if_neg (by simpa using ho),if_neg (by simp [ht]),if_neg h3,if_pos hpr]
  rw [hc];exact I.keep ho2 hq ht
 | false=>
  cases hbig:zkP x a with
  | true=>
   have hc:evC x a=5:=by unfold evC;rw [if_neg h0,if_neg (by simpa using ho),if_neg (by simp [ht]),if_neg h3,if_neg (by simp [hpr]),if_pos hbig]
   rw [hc]
   obtain ⟨i,j,g,b⟩:=zah ho2
   have hoi:evI x a=i:=by unfold evI;rw [I.pw,I.np];exact b.oi
   obtain ⟨y,f1,f2,f3⟩:=I.pg i g b.pg (I.begun b)
   have hk:y.kind=2:=by
    unfold zkP at hbig
    rw [hoi,Int.toNat_natCast,zin f1]at hbig
    exact of_decide_eq_true hbig
   rw [hoi,Int.toNat_natCast]
   obtain ⟨I2,L2,e1,e2⟩:=I.large f1 hk
   obtain ⟨I3,L3⟩:=I2.keep ho2 (by rw [e2];exact hq) (by rw [e1];exact ht)
   exact ⟨I3,L2.trans L3⟩
  | false=>
   cases hpp:plB x (evN x a) with
   | true=>
    have hc:evC x a=7:=by unfold evC;rw [if_neg h0,if_neg (by simpa using ho),if_neg (by simp [ht]),if_neg h3,if_neg (by simp [hpr]),if_neg (by simp [hbig]),if_pos hpp]
    rw [hc];exact I.copied ho2 hq ht hpr hbig hpp
   | false=>
    have hc:evC x a=6:=by unfold evC;rw [if_neg h0,if_neg (by simpa using ho),if_neg (by simp [ht]),if_neg h3,if_neg (by simp [hpr]),if_neg (by simp [hbig]),if_neg (by simp [hpp])]
    rw [hc]at he;exact absurd he (by decide)
def ziL:Wk->List Int->List Int->Wk×List Int×Int
 | x,acc,[]=>(x,acc,0)
 | x,acc,r::rs=>if evE x r=0 then ziL (evW x r) (acc++[evA x r]) rs else (Wk.zero,[],evE x r)
def znG:Wk->List Int->Prop
 | _,[]=>True
 | x,r::rs=>FwOK x/\(0<=r/\r<18446744073709551616)/\(evE x r=0->znG (evW x r) rs)
def zjT (h:Hp):Wk:=⟨{ h with pages:=h.pages.map fun g=>if g.kind=1/\0<g.pins then ⟨g.kind,1-h.space,g.used,g.pins⟩ else g },zij h,[],[],0,0,0,0,0,0,0⟩
def zoY (x:Wk) (a:Int):Bool:=zj9 x (ofI x.h.pw x.h.np a) && !decide (a∈x.queue)
def zl0 (x:Wk) (a:Int):List Int:=encV 0 (evH x a).n 0::List.replicate (evH x a).n.toNat 0
def zio (x:Wk) (a:Int):Wk:=if zoY x a then { x with h:={ x.h with words:=ziw x.h.words a (zl0 x a) },r2:=wrap64 (x.r2+1) } else x
def zjD (x:Wk):Wk:=x.old.foldl zio x
theorem zoZ {x y:Wk} (L:Later x y) {q:Int} (hq:q∈x.queue):evH y q=evH x q:=by
 unfold evH;rw [L.hd q hq]
theorem st_ok {h:Hp} {A:Int}:∀ (l:List Int) (x:Wk),Inv h x->A∈x.queue->(∀ i∈l,0<=i/\i<(evH x A).n)->StOK x A l/\((stGo x A l).2=0->Inv h (stGo x A l).1/\Later x (stGo x A l).1)
 | [],x,I,hA,_=>⟨trivial,fun _=>⟨I,Later.refl x⟩⟩
 | i::r,x,I,hA,hl=>by
  obtain ⟨h0,h1⟩:=hl i (List.mem_cons_self ..)
  have key:evE x (zit x.h.words (A+1+i))=0->Inv h (zjJ x (A+1+i))/\Later x (zjJ x (A+1+i)):=fun he=>by
   obtain ⟨I2,L2⟩:=I.forward he
   have hA2:=L2.mem hA
   obtain ⟨k1,k2,k3⟩:=I2.inside hA2 h0 (by rw [zoZ L2 hA];exact h1)
   obtain ⟨I3,L3⟩:=I2.write (v:=evA x (zit x.h.words (A+1+i))) k1 k2 k3
   exact ⟨I3,L2.trans L3⟩
  have hrec:∀ he:evE x (zit x.h.words (A+1+i))=0,StOK (zjJ x (A+1+i)) A r/\((stGo (zjJ x (A+1+i)) A r).2=0->Inv h (stGo (zjJ x (A+1+i)) A r).1/\Later (zjJ x (A+1+i)) (stGo (zjJ x (A+1+i)) A r).1):=fun he=>by
   obtain ⟨I3,L3⟩:=key he
   exact st_ok r _ I3 (L3.mem hA) (fun j hj=>by rw [zoZ L3 hA];exact hl j (List.mem_cons_of_mem _ hj))
  refine ⟨⟨I.fwok,fun he=>(hrec he).1⟩,fun hz=>?_⟩
  rw [stGo]at hz ⊢
  by_cases he:evE x (zit x.h.words (A+1+i))=0
  · rw [if_pos he]at hz ⊢
    obtain ⟨I4,L4⟩:=(hrec he).2 hz
    exact ⟨I4,(key he).2.trans L4⟩
  · rw [if_neg he]at hz
    exact absurd hz he
theorem stL_in {x:Wk} {A i:Int} (hi:i∈stL x A):0<=i/\i<(evH x A).n:=by
 have h:=ztJ hi
 unfold ptrB at h
 simp only [Bool.and_eq_true,decide_eq_true_eq]at h
 exact ⟨h.1.1.2,h.1.2⟩
theorem Inv.queue_bd {h:Hp} {x:Wk} (I:Inv h x) {A:Int} (hA:A∈x.queue):4096<=A/\A<=9000:=by
 rcases I.qs A hA with c | c
 · have:=at_bd (zgp c).1;omega
 · obtain ⟨k,g0,f1,f2,f3,f4,f5,f6,f7⟩:=I.copy c
   have h1:=I.conf
   have h2:=zaw (p:=(k:Int)) (zan I.ok).1 (by omega) f3
   omega
theorem Inv.reports {h:Hp} {x:Wk} (I:Inv h x) (s a b c d e f:Int):Inv h { x with sc:=s,r0:=a,r1:=b,r2:=c,r3:=d,r4:=e,r5:=f } :=
 ⟨I.ok,I.pw,I.np,I.sp,I.old,I.wl,I.pl,I.tk,I.pg,I.tl,I.un,I.qs,I.dj,I.cnt⟩
theorem zuR {h:Hp}:∀ (f:Nat) (x:Wk) (k:Nat),Inv h x->x.sc=k->k<=x.queue.length->(zij h).length+1<=k+f->zu2 f x/\((allV f x).2=0->Inv h (allV f x).1)
 | 0,x,k,I,hk,hq,hf=>by have:=I.qlen;omega
 | f+1,x,k,I,hk,hq,hf=>by
  have hql:=I.qlen
  cases hA:x.queue[k]? with
  | none=>
   refine ⟨⟨k,hk,by omega,Or.inl hA⟩,fun _=>?_⟩
   rw [zr1 hk hA];exact I
  | some A=>
   have hAm:=List.mem_of_getElem? hA
   have hkl:=(List.getElem?_eq_some_iff.1 hA).1
   have hbd:=I.queue_bd hAm
   obtain ⟨s1,s2⟩:=st_ok (stL x A) x I hAm (fun i hi=>stL_in hi)
   have key:stE x A=0->Inv h (stW x A)/\(stW x A).sc=((k+1:Nat):Int)/\k+1<=(stW x A).queue.length:=fun he=>by
    obtain ⟨I2,L2⟩:=s2 he
    refine ⟨I2.reports _ _ _ _ _ _ _,?_,?_⟩
    · show wrap64 ((stGo x A (stL x A)).1.sc+1)=_
      rw [L2.sc,hk];unfold wrap64;omega
    · show k+1<=(stGo x A (stL x A)).1.queue.length
      obtain ⟨l,e⟩:=L2.qu
      rw [e,List.length_append];omega
   have hrec:=fun he:stE x A=0=>zuR f (stW x A) (k+1) (key he).1 (key he).2.1 (key he).2.2 (by omega)
   refine ⟨⟨k,hk,by omega,Or.inr ⟨A,hA,by omega,by omega,I.fwok.wl,s1,fun he=>⟨(key he).2.1,(hrec he).1⟩⟩⟩,fun hz=>?_⟩
   rw [zuS hk hA]at hz ⊢
   by_cases he:stE x A=0
   · rw [if_pos he]at hz ⊢;exact (hrec he).2 hz
   · rw [if_neg he]at hz;exact absurd hz he
theorem zms {h:Hp}:∀ (rs:List Int) (x:Wk) (acc:List Int),Inv h x->(∀ r∈rs,0<=r/\r<18446744073709551616)->znG x rs/\((ziL x acc rs).2.2=0->Inv h (ziL x acc rs).1/\Later x (ziL x acc rs).1/\(ziL x acc rs).2.1.length=acc.length+rs.length)
 | [],x,acc,I,_=>⟨trivial,fun _=>⟨I,Later.refl x,rfl⟩⟩
 | r::rs,x,acc,I,hl=>by
  have hrec:∀ he:evE x r=0,_:=fun he=>zms rs (evW x r) (acc++[evA x r]) (I.forward he).1 (fun q hq=>hl q (List.mem_cons_of_mem _ hq))
  refine ⟨⟨I.fwok,hl r (List.mem_cons_self ..),fun he=>(hrec he).1⟩,fun hz=>?_⟩
  rw [ziL]at hz ⊢
  by_cases he:evE x r=0
  · rw [if_pos he]at hz ⊢
    obtain ⟨I2,L2,e2⟩:=(hrec he).2 hz
    refine ⟨I2,(I.forward he).2.trans L2,?_⟩
    rw [e2];simp only [List.length_append,List.length_cons,List.length_nil];omega
  · rw [if_neg he]at hz
    exact absurd hz he
theorem zgV {h:Hp} (h1:okH h=true):Inv h (zjT h):=by
 refine ⟨h1,rfl,rfl,rfl,rfl,rfl,by show (List.map _ _).length=_;rw [List.length_map],fun t ht=>(by cases ht),fun k g0 hg hn=>?_,Nat.zero_le _,fun a ha=>Or.inl rfl,fun q hq=>(by cases hq),fun q hq=>(by cases hq),?_⟩
 · refine ⟨if g0.kind=1/\0<g0.pins then ⟨g0.kind,1-h.space,g0.used,g0.pins⟩ else g0,?_,?_,?_⟩
   · show (List.map _ _)[k]?=_;rw [List.getElem?_map,hg];rfl
   · split <;> rfl
   · split <;> rfl
 · show 0+_<=_
   have:=List.length_filter_le (zjr (zjT h)) (zij h)
   omega
theorem zft (x:Wk) (a:Int):(zio x a).h.pw=x.h.pw/\(zio x a).h.np=x.h.np/\(zio x a).h.pages=x.h.pages/\(zio x a).h.space=x.h.space/\(zio x a).taken=x.taken/\(zio x a).queue=x.queue/\(zio x a).old=x.old/\(zio x a).h.bump=x.h.bump:=by
 unfold zio;split <;> exact ⟨rfl,rfl,rfl,rfl,rfl,rfl,rfl,rfl⟩
theorem zuD (x:Wk) (a b:Int):zoY (zio x a) b=zoY x b:=by
 obtain ⟨e1,e2,e3,e4,e5,e6,-,-⟩:=zft x a
 unfold zoY zj9
 rw [e1,e2,e3,e4,e5,e6]
theorem zm9 {h:Hp}:∀ (l:List Int) (x:Wk),l.Pairwise (fun a b=>a+osz h a<=b)->(∀ a∈l,a∈zij h)->x.h.words.length=h.words.length->(∀ a∈l,zoY x a=true->evWd x a=zit h.words a)->(l.foldl zio x).h.words.length=h.words.length
 | [],x,_,_,e,_=>e
 | a::l,x,hp,hm,e,hev=>by
  obtain ⟨p1,p2⟩:=List.pairwise_cons.1 hp
  rw [List.foldl_cons]
  by_cases hb:zoY x a=true
  · have h1:=hev a (List.mem_cons_self ..) hb
    have ha:=hm a (List.mem_cons_self ..)
    obtain ⟨e1,e2,e3,-⟩:=zld ha h1
    obtain ⟨i,j,g,b⟩:=zah ha
    have hpos:=b.pos
    have hwl:=b.wl
    have hln:((zl0 x a).length:Int)=osz h a:=by unfold zl0;rw [List.length_cons,List.length_replicate];omega
    have hok:okA x.h.words.length a (zl0 x a).length=true:=ziz.2 (by omega)
    have hW:(zio x a).h.words=ziw x.h.words a (zl0 x a):=by unfold zio;rw [if_pos hb]
    refine zm9 l _ p2 (fun c hc=>hm c (List.mem_cons_of_mem _ hc)) (by rw [hW,zb0 hok];exact e) (fun c hc hf=>?_)
    rw [zuD]at hf
    have h2:=hev c (List.mem_cons_of_mem _ hc) hf
    have h3:=p1 c hc
    rw [<-h2]
    unfold evWd
    rw [hW,zaH hok (by omega)]
  · have hW:zio x a=x:=by unfold zio;rw [if_neg hb]
    rw [hW]
    exact zm9 l x p2 (fun c hc=>hm c (List.mem_cons_of_mem _ hc)) e (fun c hc hf=>hev c (List.mem_cons_of_mem _ hc) hf)
theorem Inv.fill {h:Hp} {x:Wk} (I:Inv h x):(zjD x).h.words.length=h.words.length:=by
 unfold zjD
 rw [I.old]
 refine zm9 _ x (zdk h) (fun a ha=>ha) I.wl (fun a ha hf=>?_)
 unfold zoY at hf
 simp only [Bool.and_eq_true,Bool.not_eq_true',decide_eq_false_iff_not]at hf
 rcases I.un a ha with c | ⟨-,-,c3⟩
 · exact c
 · rw [I.pw,I.np]at hf
   rw [c3]at hf;exact absurd hf.1 (by decide)
structure Wd where
 h:Hp
 st:List Int
 wk:List Int
def bgB (h:Hp) (k:Nat):Bool:=decide ((h.pages.getD k Pg.zero).kind=1)&&decide (0<(h.pages.getD k Pg.zero).pins)
def bgPs (h:Hp):Nat->List Pg
 | 0=>h.pages
 | k+1=>if bgB h k then (bgPs h k).set k ⟨(h.pages.getD k Pg.zero).kind,1-h.space,(h.pages.getD k Pg.zero).used,(h.pages.getD k Pg.zero).pins⟩ else bgPs h k
theorem zf7 (h:Hp):∀ k,(bgPs h k).length=h.pages.length
 | 0=>rfl
 | k+1=>by rw [bgPs];split <;> simp [zf7 h k]
theorem zqA (h:Hp):∀ (k j:Nat) (g:Pg),h.pages[j]?=some g->(bgPs h k)[j]?=some (if j<k/\g.kind=1/\0<g.pins then ⟨g.kind,1-h.space,g.used,g.pins⟩ else g)
 | 0,j,g,hg=>by rw [if_neg (by omega)];exact hg
 | k+1,j,g,hg=>by
  have ih:=zqA h k j g hg
  have hj:=(List.getElem?_eq_some_iff.1 hg).1
  rw [bgPs]
  by_cases hb:bgB h k=true
  · rw [if_pos hb,List.getElem?_set,zf7]
    unfold bgB at hb
    simp only [Bool.and_eq_true,decide_eq_true_eq]at hb
    by_cases e:k=j
    · subst e
      rw [zin hg]at hb ⊢
      rw [if_pos rfl,if_pos hj,if_pos ⟨by omega,hb.1,hb.2⟩]
    · rw [if_neg e,ih]
      by_cases c:j<k/\g.kind=1/\0<g.pins
      · rw [if_pos c,if_pos ⟨by omega,c.2⟩]
      · rw [if_neg c,if_neg (fun c2=>c ⟨by omega,c2.2⟩)]
  · rw [if_neg hb,ih]
    by_cases c:j<k/\g.kind=1/\0<g.pins
    · rw [if_pos c,if_pos ⟨by omega,c.2⟩]
    · rw [if_neg c,if_neg]
      rintro ⟨c1,c2⟩
      by_cases e:j=k
      · subst e
        apply hb
        unfold bgB
        rw [zin hg];simp [c2]
      · exact c ⟨by omega,c2⟩
theorem zv8 (h:Hp):bgPs h h.pages.length=(zjT h).h.pages:=by
 apply List.ext_getElem?
 intro j
 show _=(List.map _ h.pages)[j]?
 rw [List.getElem?_map]
 cases hg:h.pages[j]? with
 | none=>
  have:(bgPs h h.pages.length)[j]?=none:=by
   rw [List.getElem?_eq_none_iff,zf7];exact List.getElem?_eq_none_iff.1 hg
  rw [this];rfl
 | some g=>
  rw [zqA h _ j g hg]
  have hj:=(List.getElem?_eq_some_iff.1 hg).1
  simp only [Option.map_some]
  by_cases c:g.kind=1/\0<g.pins
  · rw [if_pos ⟨hj,c⟩,if_pos c]
  · rw [if_neg (fun c2=>c c2.2),if_neg c]
def zlG (x:Wk) (k:Nat):Wk:=(x.old.take k).foldl zio x
theorem zqq {x:Wk} {k:Nat} {a:Int} (h:x.old[k]?=some a):zlG x (k+1)=zio (zlG x k) a:=by
 unfold zlG;rw [zaC h,List.foldl_append];rfl
theorem zgL:∀ (l:List Int) (x:Wk),(l.foldl zio x).h.pw=x.h.pw/\(l.foldl zio x).h.np=x.h.np/\(l.foldl zio x).h.pages=x.h.pages/\(l.foldl zio x).h.space=x.h.space/\(l.foldl zio x).taken=x.taken/\(l.foldl zio x).queue=x.queue/\(l.foldl zio x).old=x.old/\(l.foldl zio x).h.bump=x.h.bump
 | [],x=>⟨rfl,rfl,rfl,rfl,rfl,rfl,rfl,rfl⟩
 | a::l,x=>by
  obtain ⟨e1,e2,e3,e4,e5,e6,e7,e8⟩:=zgL l (zio x a)
  have h:(zio x a).h.pw=x.h.pw/\(zio x a).h.np=x.h.np/\(zio x a).h.pages=x.h.pages/\(zio x a).h.space=x.h.space/\(zio x a).taken=x.taken/\(zio x a).queue=x.queue/\(zio x a).old=x.old/\(zio x a).h.bump=x.h.bump:=by
   unfold zio;split <;> exact ⟨rfl,rfl,rfl,rfl,rfl,rfl,rfl,rfl⟩
  obtain ⟨f1,f2,f3,f4,f5,f6,f7,f8⟩:=h
  exact ⟨e1.trans f1,e2.trans f2,e3.trans f3,e4.trans f4,e5.trans f5,e6.trans f6,e7.trans f7,e8.trans f8⟩
theorem ztk (xs:List Int) (a:Int) (l:List Int):(ziw xs a l).length<=xs.length:=by
 unfold ziw
 split
 · rename_i hk
   have h1:=of_decide_eq_true hk
   rw [zbe (by omega)];exact Nat.le_refl _
 · exact Nat.zero_le _
theorem encV_wb (n:Int):0<=encV 0 n 0/\encV 0 n 0<18446744073709551616:=by
 unfold encV
 split
 · rename_i h
   have:=ztl h (Int.le_refl 0)
   omega
 · omega
def frB (x:Wk) (k:Nat):Bool:=!decide ((x.h.pages.getD k Pg.zero).kind=0)&&decide ((x.h.pages.getD k Pg.zero).space=x.h.space)
def frPs (x:Wk):Nat->List Pg
 | 0=>x.h.pages
 | k+1=>if frB x k then (frPs x k).set k Pg.zero else frPs x k
def frWs (x:Wk):Nat->List Int
 | 0=>x.h.words
 | k+1=>if frB x k then splice (frWs x k) (k*x.h.pw.toNat) (List.replicate x.h.pw.toNat 0) else frWs x k
def frR (x:Wk):Nat->Int
 | 0=>x.r3
 | k+1=>if frB x k then wrap64 (frR x k+1) else frR x k
def freeW (x:Wk):Wk:={ x with h:={ x.h with pages:=frPs x x.h.pages.length,words:=frWs x x.h.pages.length },r3:=frR x x.h.pages.length }
theorem zm3 (x:Wk):∀ k,(frPs x k).length=x.h.pages.length
 | 0=>rfl
 | k+1=>by rw [frPs];split <;> simp [zm3 x k]
theorem zqo (x:Wk):∀ (k j:Nat),k<=j->(frPs x k)[j]?=x.h.pages[j]?
 | 0,_,_=>rfl
 | k+1,j,h=>by
  rw [frPs];split
  · rw [List.getElem?_set_ne (by omega),zqo x k j (by omega)]
  · exact zqo x k j (by omega)
theorem zhR {k m n:Nat} {pw:Int} (h0:0<=pw) (hk:k<m) (hn:(n:Int)=m*pw):k*pw.toNat+pw.toNat<=n:=by
 obtain ⟨q,rfl⟩:∃ q:Nat,pw=q:=⟨pw.toNat,by omega⟩
 rw [Int.toNat_natCast]
 have h1:(k+1)*q<=m*q:=Nat.mul_le_mul_right _ (by omega)
 rw [Nat.add_mul,Nat.one_mul]at h1
 have h2:((m*q:Nat):Int)=n:=by rw [Int.natCast_mul];exact hn.symm
 omega
theorem zm2 (x:Wk) (h0:0<=x.h.pw) (hw:(x.h.words.length:Int)=x.h.pages.length*x.h.pw):∀ k,k<=x.h.pages.length->(frWs x k).length=x.h.words.length
 | 0,_=>rfl
 | k+1,hk=>by
  have ih:=zm2 x h0 hw k (by omega)
  rw [frWs];split
  · rw [zbe (by rw [List.length_replicate,ih];exact zhR h0 (by omega) hw)];exact ih
  · exact ih
def zmb (x:Wk) (a:Int):Int:=if a∈x.queue then a else tgtV (evWd x a).toNat
def zln (x:Wk) (a:Int):Int:=if a=0 then 0 else zmb x a
def zj6 (x:Wk) (r a:Int):Int:=if a=0 then r else if zmb x a=0 then wrap64 (r+1) else r
def znf (h:Hp) (st:List Int):Wk×List Int×Int:=ziL (zjT h) [] st
def zl1 (h:Hp) (st:List Int):Wk×Int:=allV ((zij h).length+1) (znf h st).1
def zjv (h:Hp) (st wk:List Int):Wk:={ (zl1 h st).1 with r4:=wk.foldl (zj6 (zl1 h st).1) (zl1 h st).1.r4 }
def zqu (h:Hp) (st wk:List Int):Wk:=freeW (zjD (zjv h st wk))
def zkv (h:Hp) (st wk:List Int):Int:=if okH h then (if zk0 h st&&zk0 h wk then (if (znf h st).2.2=0 then (zl1 h st).2 else (znf h st).2.2) else 19) else 1
def zqx (h:Hp) (st wk:List Int):Hp:={ (zqu h st wk).h with space:=1-(zqu h st wk).h.space,bump:=((zqu h st wk).taken.getLast?).getD (-1) }
def zqv (h:Hp) (st:List Int):List Int:=(znf h st).2.1
def zqw (h:Hp) (st wk:List Int):List Int:=wk.map (zln (zl1 h st).1)
def putV (x:Wd) (k n m:Int):Wd:=⟨zkT x.h k n m,x.st++[zli x.h k n m],x.wk⟩
inductive MStep:Wd->Wd->Prop
 | none (x:Wd):MStep x x
 | put (x:Wd) (k n m:Int):1<=k->k<=3->0<=n->n<=100->0<=m->m<4096->zjF x.h k n m=0->MStep x (putV x k n m)
 | link (x:Wd) (a i b:Int):a∈0::(x.st++x.wk)->getE x.h a=0->0<=i->i<(getH x.h a).n->0<=b->b<18446744073709551616->(ptrB (getH x.h a).k (getH x.h a).n (getH x.h a).m i=true->b∈0::(x.st++x.wk))->MStep x { x with h:=setV x.h a i b }
 | pin (x:Wd) (a:Int) (i:Nat) (g:Pg) (p:Int):a∈0::(x.st++x.wk)->ofE x.h.pw x.h.np a=0->ofI x.h.pw x.h.np a=i->x.h.pages[i]?=some g->((0<g.pins/\p=g.pins-1)\/(p=g.pins+1/\(0<g.pins\/g.kind=2\/(zja x.h.pages:Int)<x.h.np / 4)))->MStep x { x with h:={ x.h with pages:=x.h.pages.set i ⟨g.kind,g.space,g.used,p⟩ } }
 | drop (x:Wd) (i:Nat) (r:Int) (b:Bool):x.st[i]?=some r->MStep x ⟨x.h,x.st.take i++x.st.drop (i+1),if b then x.wk++[r] else x.wk⟩
 | collect (x:Wd):zkv x.h x.st x.wk=0->MStep x ⟨zqx x.h x.st x.wk,zqv x.h x.st,zqw x.h x.st x.wk⟩
 | dup (x:Wd) (a:Int):a∈0::(x.st++x.wk)->MStep x ⟨x.h,x.st++[a],x.wk⟩
inductive Made:Nat->Wd->Prop
 | empty (pw np:Int):(pw=16\/pw=20\/pw=32)->(np=8\/np=12\/np=16\/np=20\/np=24)->Made 0 ⟨zoC pw np,[],[]⟩
 | step (n:Nat) (x y:Wd):Made n x->MStep x y->Made (n+1) y
theorem mem_u64 {st wk:List Int} (h1:WB st) (h2:WB wk) {a:Int} (h:a∈0::(st++wk)):0<=a/\a<18446744073709551616:=by
 simp only [List.mem_cons,List.mem_append]at h
 rcases h with rfl | h | h
 · exact ⟨by omega,by omega⟩
 · exact h1 _ h
 · exact h2 _ h
theorem zvH {pw np a:Int} (h:ofE pw np a=0):confB pw np=true/\0<=ofI pw np a/\ofI pw np a<np:=by
 have h1:confB pw np=true:=by
  cases hv:confB pw np with
  | false=>have:=(zvG (a:=a) hv).2.2;omega
  | true=>rfl
 have h2:inAr pw np a=true:=by
  cases hi:inAr pw np a with
  | false=>have:=(zkz h1 hi).2.2;omega
  | true=>rfl
 have h3:=zai h1
 refine ⟨h1,zso h,?_⟩
 rw [(zlY h1 h2).1]
 unfold inAr at h2
 have h4:=of_decide_eq_true h2
 exact Int.ediv_lt_of_lt_mul (by omega) (by omega)
structure Lens (n:Nat) (x:Wd):Prop where
 conf:confB x.h.pw x.h.np=true
 words:(x.h.words.length:Int)=x.h.np*x.h.pw
 pages:(x.h.pages.length:Int)=x.h.np
 st:WB x.st
 wk:WB x.wk
 stn:x.st.length<=n
 wkn:x.wk.length<=n
 pins:∀ g∈x.h.pages,0<=g.pins/\g.pins<=n
theorem zsD {h:Hp} {a i:Int} (hg:getE h a=0) (h0:0<=i) (h1:i<(getH h a).n):zlf h a i=0/\okA h.words.length (a+1+i) 1=true:=by
 obtain ⟨g1,g2,g3,-,-,g6,-,-,-,-⟩:=zqm hg
 obtain ⟨k,j,g,b⟩:=zuL g2
 have h2:=b.wl
 have h3:osz h a=(atH h a).n+1:=rfl
 rw [g3]at h1
 have hk:okA h.words.length (a+1+i) 1=true:=ziz.2 ⟨by omega,by omega⟩
 refine ⟨?_,hk⟩
 unfold zlf
 rw [if_pos hg,if_neg (by rw [g3];omega)]
 unfold zlA
 rw [if_pos hk]
theorem Lens.up {n:Nat} {x:Wd} (h:Lens n x):Lens (n+1) x :=
 ⟨h.conf,h.words,h.pages,h.st,h.wk,by have:=h.stn;omega,by have:=h.wkn;omega,fun g hg=>by have:=h.pins g hg;omega⟩
theorem zsy {pw np:Int} (h1:pw=16\/pw=20\/pw=32) (h2:np=8\/np=12\/np=16\/np=20\/np=24):Lens 0 ⟨zoC pw np,[],[]⟩:=by
 have hc:confB pw np=true:=conf_mk (by omega)
 have hp:=conf_prod hc
 rw [(zqe hc).1]
 refine ⟨hc,?_,?_,WB.nil,WB.nil,Nat.le_refl _,Nat.le_refl _,fun g hg=>?_⟩
 · show ((List.replicate (np*pw).toNat (0:Int)).length:Int)=np*pw
   rw [List.length_replicate];omega
 · show ((List.replicate np.toNat Pg.zero).length:Int)=np
   rw [List.length_replicate];omega
 · obtain ⟨-,rfl⟩:=List.mem_replicate.1 hg
   exact ⟨by decide,by decide⟩
theorem zul {n:Nat} {x:Wd} (h:Lens n x) {a i b:Int} (hg:getE x.h a=0) (h0:0<=i) (h1:i<(getH x.h a).n) (b0:0<=b) (b1:b<18446744073709551616):Lens (n+1) { x with h:=setV x.h a i b }:=by
 obtain ⟨h2,h3⟩:=zsD hg h0 h1
 have e:setV x.h a i b={ x.h with words:=ziw x.h.words (a+1+i) [b] }:=by unfold setV;exact if_pos h2
 rw [e]
 have hl:(ziw x.h.words (a+1+i) [b]).length=x.h.words.length:=zb0 (l:=[b]) h3
 refine ⟨h.conf,?_,h.pages,h.st,h.wk,by have:=h.stn;show x.st.length<=_;omega,by have:=h.wkn;show x.wk.length<=_;omega,fun g hg=>by have:=h.pins g hg;omega⟩
 show ((ziw x.h.words (a+1+i) [b]).length:Int)=x.h.np*x.h.pw
 rw [hl];exact h.words
theorem zvP {n:Nat} {x:Wd} (h:Lens n x) {i:Nat} {g:Pg} {p:Int} (hg:x.h.pages[i]?=some g) (hp:(0<g.pins/\p=g.pins-1)\/p=g.pins+1):Lens (n+1) { x with h:={ x.h with pages:=x.h.pages.set i ⟨g.kind,g.space,g.used,p⟩ } }:=by
 have h1:=h.pins g (List.mem_of_getElem? hg)
 refine ⟨h.conf,h.words,?_,h.st,h.wk,by have:=h.stn;show x.st.length<=_;omega,by have:=h.wkn;show x.wk.length<=_;omega,fun f hf=>?_⟩
 · show ((x.h.pages.set i _).length:Int)=x.h.np
   rw [List.length_set];exact h.pages
 · rcases List.mem_or_eq_of_mem_set hf with h2 | rfl
   · have:=h.pins f h2;omega
   · show 0<=p/\p<=((n+1:Nat):Int);omega
theorem zum {n:Nat} {x:Wd} (h:Lens n x) {i:Nat} {r:Int} (b:Bool) (hr:x.st[i]?=some r):Lens (n+1) ⟨x.h,x.st.take i++x.st.drop (i+1),if b then x.wk++[r] else x.wk⟩:=by
 have hrb:=h.st r (List.mem_of_getElem? hr)
 refine ⟨h.conf,h.words,h.pages,fun y hy=>?_,fun y hy=>?_,?_,?_,fun g hg=>by have:=h.pins g hg;omega⟩
 · rcases List.mem_append.1 hy with h2 | h2
   · exact h.st y (List.mem_of_mem_take h2)
   · exact h.st y (List.mem_of_mem_drop h2)
 · cases b with
   | false=>exact h.wk y hy
   | true=>
    rcases List.mem_append.1 hy with h2 | h2
    · exact h.wk y h2
    · rw [List.mem_singleton.1 h2];exact hrb
 · have:=h.stn
   show (x.st.take i++x.st.drop (i+1)).length<=n+1
   rw [List.length_append,List.length_take,List.length_drop];omega
 · have:=h.wkn
   cases b with
   | false=>show x.wk.length<=_;omega
   | true=>show (x.wk++[r]).length<=_;rw [List.length_append];simp;omega
theorem zvQ {n:Nat} {x:Wd} (h:Lens n x) {a:Int} (ha:a∈0::(x.st++x.wk)):Lens (n+1) ⟨x.h,x.st++[a],x.wk⟩:=by
 have hab:=mem_u64 h.st h.wk ha
 refine ⟨h.conf,h.words,h.pages,fun y hy=>?_,h.wk,?_,by have:=h.wkn;show x.wk.length<=_;omega,fun g hg=>by have:=h.pins g hg;omega⟩
 · rcases List.mem_append.1 hy with h2 | h2
   · exact h.st y h2
   · rw [List.mem_singleton.1 h2];exact hab
 · have:=h.stn
   show (x.st++[a]).length<=_
   rw [List.length_append];simp;omega
def zr2:Prop:=∀ (n:Nat) (x:Wd) (k l m:Int),n<=400->Made n x->Lens n x->1<=k->k<=3->0<=l->l<=100->0<=m->m<4096->zjF x.h k l m=0->Lens (n+1) (putV x k l m)
def zlk:Prop:=∀ (n:Nat) (x:Wd),n<=400->Made n x->Lens n x->zkv x.h x.st x.wk=0->Lens (n+1) ⟨zqx x.h x.st x.wk,zqv x.h x.st,zqw x.h x.st x.wk⟩
theorem zvR (hP:zr2) (hC:zlk):∀ n x,Made n x->n<=400->Lens n x:=by
 intro n x hm
 induction hm with
 | empty pw np h1 h2=>exact fun _=>zsy h1 h2
 | step n x y hm hs ih=>
  intro hn
  have h:=ih (by omega)
  cases hs with
  | none=>exact h.up
  | put k l m h1 h2 h3 h4 h5 h6 h7=>exact hP n x k l m (by omega) hm h h1 h2 h3 h4 h5 h6 h7
  | link a i b h1 h2 h3 h4 h5 h6 h7=>exact zul h h2 h3 h4 h5 h6
  | pin a i g p h1 h2 h3 h4 h5=>exact zvP h h4 (by rcases h5 with h5 | h5;exact Or.inl h5;exact Or.inr h5.1)
  | drop i r b h1=>exact zum h b h1
  | collect h1=>exact hC n x (by omega) hm h h1
  | dup a h1=>exact zvQ h h1
def PinL (B:Int) (ps:List Pg):Prop:=∀ g∈ps,0<=g.pins/\g.pins<=B
theorem PinL.nil (B:Int):PinL B []:=fun g h=>by cases h
theorem PinL.set {B:Int} {ps:List Pg} (h:PinL B ps) {g:Pg} (hg:0<=g.pins/\g.pins<=B) (i:Nat):PinL B (ps.set i g):=fun f hf=>by
 rcases List.mem_or_eq_of_mem_set hf with h2 | rfl
 · exact h f h2
 · exact hg
theorem PinL.getD {B:Int} {ps:List Pg} (h:PinL B ps) (hB:0<=B) (i:Nat):0<=(ps.getD i Pg.zero).pins/\(ps.getD i Pg.zero).pins<=B:=by
 rw [List.getD_eq_getElem?_getD]
 cases e:ps[i]? with
 | none=>exact ⟨Int.le_refl _,hB⟩
 | some g=>exact h g (List.mem_of_getElem? e)
theorem PinL.use {B:Int} {ps:List Pg} (h:PinL B ps) (hB:0<=B) (j:Nat) (n:Int):PinL B (zkJ ps j n) :=
 h.set (g:=⟨(ps.getD j Pg.zero).kind,(ps.getD j Pg.zero).space,(ps.getD j Pg.zero).used+n,(ps.getD j Pg.zero).pins⟩) (h.getD hB j) j
theorem PinL.puts {B:Int} {b:Pg} (hb:0<=b.pins/\b.pins<=B) (k:Nat) (ps:List Pg) (i:Nat) (h:PinL B ps):PinL B (put ps i k b):=fun g hg=>by
 unfold put at hg
 rcases List.mem_append.1 hg with h1 | h1
 · rcases List.mem_append.1 h1 with h2 | h2
   · exact h g (List.mem_of_mem_take h2)
   · obtain ⟨-,rfl⟩:=List.mem_replicate.1 h2;exact hb
 · exact h g (List.mem_of_mem_drop h1)
theorem PinL.take {B:Int} {ps:List Pg} (h:PinL B ps) (hB:0<=B) (i k:Int) {a b:Pg} (ha:a.pins=0) (hb:b.pins=0):PinL B (zkB ps i k a b):=by
 unfold zkB
 split
 · split
   · exact (PinL.puts (by rw [hb];omega) _ _ _ h).set (by rw [ha];omega) _
   · exact PinL.nil B
 · exact PinL.nil B
theorem PinL.spc {B:Int} {ps:List Pg} (h:PinL B ps) (i k:Nat) (sp:Int):PinL B (spc ps i k sp):=fun g hg=>by
 obtain ⟨j,hj,rfl⟩:=List.mem_mapIdx.1 hg
 have:=h ps[j] (List.getElem_mem hj)
 split <;> exact this
theorem ztO {B:Int} (hB:0<=B) {x:Wk} (h:PinL B x.h.pages) (a:Int):PinL B (evW x a).h.pages:=by
 unfold evW
 split
 · exact h
 · exact h
 · exact h
 · exact h.spc _ _ _
 · show PinL B (zkJ (plPs x (evN x a)) _ _)
   refine PinL.use ?_ hB _ _
   unfold plPs
   split
   · exact h
   · unfold zjs
     split
     · exact h.take hB _ _ rfl rfl
     · exact PinL.nil B
 · exact PinL.nil B
theorem zsk {B:Int} (hB:0<=B) {x:Wk} (h:PinL B x.h.pages) (p:Int):PinL B (zjJ x p).h.pages:=ztO hB h _
theorem zrs {B:Int} (hB:0<=B):∀ (l:List Int) (x:Wk) (A:Int),PinL B x.h.pages->PinL B (stGo x A l).1.h.pages
 | [],_,_,h=>h
 | i::r,x,A,h=>by
  rw [stGo]
  split
  · exact zrs hB r _ A (zsk hB h _)
  · exact PinL.nil B
theorem zrt {B:Int} (hB:0<=B):∀ (f:Nat) (x:Wk),PinL B x.h.pages->PinL B (allV f x).1.h.pages
 | 0,_,h=>h
 | f+1,x,h=>by
  unfold allV
  split
  · exact h
  · split
    · exact zrt hB f _ (zrs hB _ x _ h)
    · exact PinL.nil B
theorem zn1 {B:Int} (hB:0<=B):∀ (rs:List Int) (x:Wk) (acc:List Int),PinL B x.h.pages->PinL B (ziL x acc rs).1.h.pages
 | [],_,_,h=>h
 | r::rs,x,acc,h=>by
  rw [ziL]
  split
  · exact zn1 hB rs _ _ (ztO hB h r)
  · exact PinL.nil B
theorem ztP {B:Int} {h:Hp} (hp:PinL B h.pages):PinL B (zjT h).h.pages:=fun g hg=>by
 obtain ⟨f,hf,rfl⟩:=List.mem_map.1 (show g∈List.map _ h.pages from hg)
 have:=hp f hf
 split <;> exact this
theorem zgO:∀ (l:List Int) (x:Wk),(l.foldl zio x).h.pages=x.h.pages/\(l.foldl zio x).h.pw=x.h.pw/\(l.foldl zio x).h.np=x.h.np
 | [],_=>⟨rfl,rfl,rfl⟩
 | a::l,x=>by
  obtain ⟨e1,e2,e3⟩:=zgO l (zio x a)
  obtain ⟨f1,f2,f3,-⟩:=zft x a
  exact ⟨e1.trans f3,e2.trans f1,e3.trans f2⟩
theorem zmy {B:Int} (hB:0<=B) {x:Wk} (h:PinL B x.h.pages):∀ k,PinL B (frPs x k)
 | 0=>h
 | k+1=>by
  rw [frPs]
  split
  · exact (zmy hB h k).set ⟨Int.le_refl _,hB⟩ k
  · exact zmy hB h k
theorem zwh (n:Nat):0<=tgtV n/\tgtV n<18446744073709551616:=by
 unfold tgtV
 split
 · rename_i h
   have:=zn8 h
   omega
 · omega
theorem evA_in {h:Hp} {x:Wk} (I:Inv h x) {a:Int} (ha:0<=a/\a<18446744073709551616) (he:evE x a=0):0<=evA x a/\evA x a<18446744073709551616:=by
 have I2:=(I.forward he).1
 unfold evA
 split
 · exact ha
 · exact zwh _
 · exact ha
 · exact ha
 · rename_i h7
   have hq:plA x (evN x a)∈(evW x a).queue:=by
    have e:evW x a=ziV x a:=by unfold evW;rw [h7];rfl
    rw [e];exact List.mem_append_right _ (List.mem_singleton.2 rfl)
   have:=I2.queue_bd hq
   omega
 · omega
theorem zrp {h:Hp}:∀ (rs:List Int) (x:Wk) (acc:List Int),Inv h x->WB rs->WB acc->WB (ziL x acc rs).2.1
 | [],_,_,_,_,h=>h
 | r::rs,x,acc,I,hl,ha=>by
  rw [ziL]
  by_cases he:evE x r=0
  · rw [if_pos he]
    refine zrp rs _ _ (I.forward he).1 (fun q hq=>hl q (List.mem_cons_of_mem _ hq)) (fun q hq=>?_)
    rcases List.mem_append.1 hq with h1 | h1
    · exact ha q h1
    · rw [List.mem_singleton.1 h1];exact evA_in I (hl r (List.mem_cons_self ..)) he
  · rw [if_neg he];exact WB.nil
theorem zne:zlk:=by
 intro n x hn hm L hc
 have hE:okH x.h=true/\(znf x.h x.st).2.2=0/\(zl1 x.h x.st).2=0:=by
  unfold zkv at hc
  split at hc
  · rename_i h1
    split at hc
    · split at hc
      · rename_i h3;exact ⟨h1,h3,hc⟩
      · rename_i h3;exact absurd hc h3
    · exact absurd hc (by decide)
  · exact absurd hc (by decide)
 obtain ⟨h1,h2,h3⟩:=hE
 obtain ⟨-,hr⟩:=zms x.st (zjT x.h) [] (zgV h1) L.st
 obtain ⟨I7,L7,e7⟩:=hr h2
 have hsc7:(ziL (zjT x.h) [] x.st).1.sc=((0:Nat):Int):=L7.sc
 obtain ⟨-,ha⟩:=zuR ((zij x.h).length+1) (ziL (zjT x.h) [] x.st).1 0 I7 hsc7 (Nat.zero_le _) (by omega)
 have I8:Inv x.h (zl1 x.h x.st).1:=ha h3
 have I9:Inv x.h (zjv x.h x.st x.wk):=I8.reports _ _ _ _ _ _ _
 have hB:(0:Int)<=n:=by omega
 have p8:PinL n (zl1 x.h x.st).1.h.pages:=zrt hB _ _ (zn1 hB _ _ _ (ztP L.pins))
 obtain ⟨f1,f2,f3⟩:=zgO (zjv x.h x.st x.wk).old (zjv x.h x.st x.wk)
 have hfl:=I9.fill
 have hpl:(zjD (zjv x.h x.st x.wk)).h.pages.length=x.h.pages.length:=by
  rw [show (zjD (zjv x.h x.st x.wk)).h.pages=(zjv x.h x.st x.wk).h.pages from f1];exact I9.pl
 have hpw:(zjD (zjv x.h x.st x.wk)).h.pw=x.h.pw:=(show (zjD (zjv x.h x.st x.wk)).h.pw=(zjv x.h x.st x.wk).h.pw from f2).trans I9.pw
 have hnp:(zjD (zjv x.h x.st x.wk)).h.np=x.h.np:=(show (zjD (zjv x.h x.st x.wk)).h.np=(zjv x.h x.st x.wk).h.np from f3).trans I9.np
 have hcf:=zai L.conf
 have hfw:=zm2 (zjD (zjv x.h x.st x.wk)) (by rw [hpw];omega) (by rw [hfl,hpl,hpw,L.pages];exact L.words) (zjD (zjv x.h x.st x.wk)).h.pages.length (Nat.le_refl _)
 refine ⟨?_,?_,?_,?_,fun a ha=>?_,?_,?_,?_⟩
 · show confB (zjD (zjv x.h x.st x.wk)).h.pw (zjD (zjv x.h x.st x.wk)).h.np=true
   rw [hpw,hnp];exact L.conf
 · show ((frWs (zjD (zjv x.h x.st x.wk)) (zjD (zjv x.h x.st x.wk)).h.pages.length).length:Int)=(zjD (zjv x.h x.st x.wk)).h.np*(zjD (zjv x.h x.st x.wk)).h.pw
   rw [hfw,hfl,hpw,hnp];exact L.words
 · show ((frPs (zjD (zjv x.h x.st x.wk)) (zjD (zjv x.h x.st x.wk)).h.pages.length).length:Int)=(zjD (zjv x.h x.st x.wk)).h.np
   rw [zm3,hpl,hnp];exact L.pages
 · exact zrp x.st (zjT x.h) [] (zgV h1) L.st WB.nil
 · obtain ⟨b,hb,rfl⟩:=List.mem_map.1 ha
   have hbb:=L.wk b hb
   unfold zln zmb
   split
   · omega
   · split
     · exact hbb
     · exact zwh _
 · have:=L.stn
   show (ziL (zjT x.h) [] x.st).2.1.length<=_
   rw [e7];simp;omega
 · have:=L.wkn
   show (List.map _ x.wk).length<=_
   rw [List.length_map];omega
 · intro g hg
   have:=zmy hB (x:=zjD (zjv x.h x.st x.wk)) (by rw [show (zjD (zjv x.h x.st x.wk)).h.pages=(zjv x.h x.st x.wk).h.pages from f1];exact p8) _ g hg
   omega
theorem zud {pw n:Int} (h1:16<=pw) (h2:pw<=64) (h3:pw / 4<n) (h4:n<=4*pw):zkc pw n=(n+pw-1) / pw:=by
 have hd:∀ k:Int,(k-1)*pw<n->n<=k*pw->(n+pw-1) / pw=k:=by
  intro k a b
  have e1:(k-1)*pw=k*pw-pw:=by rw [Int.sub_mul,Int.one_mul]
  have e2:(n+pw-1)=(n+pw-1-k*pw)+k*pw:=by omega
  rw [e2,Int.add_mul_ediv_right _ _ (by omega),Int.ediv_eq_zero_of_lt (by omega) (by omega)];omega
 unfold zkc
 rw [if_neg (by omega)]
 split
 · rw [hd 1 (by omega) (by omega)]
 · split
   · rw [hd 2 (by omega) (by omega)]
   · split
     · rw [hd 3 (by omega) (by omega)]
     · rw [hd 4 (by omega) (by omega)]
def zjx (n:Int):Bool:=decide (n=0\/n=1)
def zoT (x:Pg):Bool:=decide (x.space=0/\x.used=0/\x.pins=0)
def zjX (pw:Int) (x:Pg):Bool:=zjx x.space&&decide (0<=x.used/\x.used<=pw)&&zkr x.pins
def zji (pw np:Int) (ps:List Pg):Nat->Int->Bool
 | 0,_=>false
 | m+1,b=>if (ps.getD m Pg.zero).kind=2 then decide (b<ziq pw np (ps.getD m Pg.zero).used) else zji pw np ps m (b+1)
def zkK (pw np:Int) (ps:List Pg) (i:Nat):Bool:=zji pw np ps i 1
def zkh (pw np:Int) (ps:List Pg) (i:Nat) (x:Pg):Bool:=decide (x.used=0/\x.pins=0)&&zkK pw np ps i
def zjG (pw np:Int) (ps:List Pg) (i:Nat) (x:Pg):Bool :=
 zjx x.space&&decide (1<=ziq pw np x.used)&&zkr x.pins&&decide ((i:Int)+ziq pw np x.used<=ps.length)&&zi4 x.space ((ps.drop (i+1)).take ((ziq pw np x.used).toNat-1))
def zi9 (pw np:Int) (ps:List Pg) (i:Nat) (x:Pg):Bool :=
 if x.kind=0 then zoT x else if x.kind=1 then zjX pw x else if x.kind=2 then zjG pw np ps i x else if x.kind=3 then zkh pw np ps i x else false
def zix (pw np:Int) (ps:List Pg):Nat->List Pg->Bool
 | _,[]=>true
 | i,x::r=>zi9 pw np ps i x&&zix pw np ps (i+1) r
def ziY (pw np:Int) (ps:List Pg):Bool:=zix pw np ps 0 ps
theorem zr9 {pw np:Int} {ps:List Pg} {i:Nat} {x:Pg} (h:ps[i]?=some x):zix pw np ps i (ps.drop i)=(zi9 pw np ps i x&&zix pw np ps (i+1) (ps.drop (i+1))):=by
 obtain ⟨hi,rfl⟩:=List.getElem?_eq_some_iff.1 h
 rw [List.drop_eq_getElem_cons hi,zix]
theorem ztx {pw np:Int} {ps:List Pg} {i:Nat} (h:ps.length<=i):zix pw np ps i (ps.drop i)=true:=by
 rw [List.drop_eq_nil_of_le h,zix]
def zk1 (pw np:Int) (nw:Nat) (ps:List Pg) (sp b:Int):Bool :=
 confB pw np&&decide ((nw:Int)=np*pw)&&decide ((ps.length:Int)=np)&&zjx sp&&zkI ps b&&ziY pw np ps
theorem zrr {ps:List Pg} {i k:Nat} {x y:Pg} (h:i+k<=ps.length) (h1:1<=k):(put ps i k y).set i x=put (ps.set i x) (i+1) (k-1) y:=by
 have hl:(ps.set i x).length=ps.length:=List.length_set
 apply List.ext_getElem?
 intro j
 rw [List.getElem?_set]
 have hp:(put ps i k y).length=ps.length:=zj7 h
 by_cases hj:i=j
 · rw [if_pos hj,if_pos (by omega),zjP (by omega) (Or.inr (by omega)),List.getElem?_set,if_pos hj,if_pos (by omega)]
 · rw [if_neg hj]
   by_cases h2:i+1<=j/\j<i+k
   · rw [zl4 h (by omega) (by omega),zl4 (by omega) h2.1 (by omega)]
   · rw [zjP h (by omega),zjP (by omega) (by omega),List.getElem?_set,if_neg hj]
theorem zcZ {sp:Int}:zjx sp=true↔0<=sp/\sp<=1:=by
 unfold zjx;rw [decide_eq_true_eq];omega
theorem zdR (pw np:Int) (ps:List Pg):∀ (l:List Pg) (i:Nat),zix pw np ps i l=true↔∀ j x,l[j]?=some x->zi9 pw np ps (i+j) x=true
 | [],i=>by simp [zix]
 | y::r,i=>by
  rw [zix,Bool.and_eq_true,zdR pw np ps r (i+1)]
  constructor
  · rintro ⟨h1,h2⟩ j x hx
    cases j with
    | zero=>simp at hx;subst hx;exact h1
    | succ j=>rw [List.getElem?_cons_succ]at hx;have:=h2 j x hx;rwa [show i+1+j=i+(j+1) by omega]at this
  · intro h
    refine ⟨h 0 y rfl,fun j x hx=>?_⟩
    have:=h (j+1) x (by rw [List.getElem?_cons_succ];exact hx)
    rwa [show i+(j+1)=i+1+j by omega]at this
theorem zaJ {pw np:Int} {ps:List Pg}:ziY pw np ps=true↔∀ i x,ps[i]?=some x->zi9 pw np ps i x=true:=by
 unfold ziY
 rw [zdR]
 simp only [Nat.zero_add]
theorem zbm {sp:Int} {ps:List Pg} {i m:Nat}:zi4 sp ((ps.drop i).take m)=true↔∀ t,i<=t->t<i+m->∀ z,ps[t]?=some z->z.kind=3/\z.space=sp:=by
 unfold zi4
 rw [List.all_eq_true]
 constructor
 · intro h t h1 h2 z hz
   have hm:z∈(ps.drop i).take m:=by
    refine List.mem_of_getElem? (i:=t-i) ?_
    rw [List.getElem?_take,if_pos (by omega),List.getElem?_drop,show i+(t-i)=t by omega];exact hz
   exact of_decide_eq_true (h z hm)
 · intro h z hz
   obtain ⟨j,hj⟩:=List.getElem?_of_mem hz
   rw [List.getElem?_take]at hj
   split at hj
   · rename_i hjm
     rw [List.getElem?_drop]at hj
     exact decide_eq_true (h (i+j) (by omega) (by omega) z hj)
   · cases hj
theorem zbl (pw np:Int) (ps:List Pg):∀ (t:Nat) (b:Int),zji pw np ps t b=true↔∃ l,l<t/\(ps.getD l Pg.zero).kind=2/\(∀ m,l<m->m<t->¬(ps.getD m Pg.zero).kind=2)/\b+(t-1-l:Int)<ziq pw np (ps.getD l Pg.zero).used
 | 0,b=>by
  rw [zji]
  constructor
  · intro h;cases h
  · rintro ⟨l,h,-⟩;omega
 | t+1,b=>by
  rw [zji]
  by_cases h2:(ps.getD t Pg.zero).kind=2
  · rw [if_pos h2]
    constructor
    · intro h
      have:=of_decide_eq_true h
      exact ⟨t,by omega,h2,fun m a c=>by omega,by omega⟩
    · rintro ⟨l,h3,h4,h5,h6⟩
      by_cases hl:l=t
      · subst hl;exact decide_eq_true (by omega)
      · exact absurd h2 (h5 t (by omega) (by omega))
  · rw [if_neg h2,zbl pw np ps t (b+1)]
    constructor
    · rintro ⟨l,h3,h4,h5,h6⟩
      refine ⟨l,by omega,h4,fun m a c=>?_,by omega⟩
      by_cases hm:m=t
      · subst hm;exact h2
      · exact h5 m a (by omega)
    · rintro ⟨l,h3,h4,h5,h6⟩
      have hl:l≠t:=fun e=>h2 (e ▸ h4)
      exact ⟨l,by omega,h4,fun m a c=>h5 m a (by omega),by omega⟩
theorem zgc {pw np:Int} {ps:List Pg} {j:Nat} {x y:Pg} (h:ziY pw np ps=true) (hy:ps[j]?=some y) (hk:y.kind=0\/y.kind=1) (hx:x.kind=1) (hs:zjX pw x=true):ziY pw np (ps.set j x)=true:=by
 rw [zaJ]at h ⊢
 have hjl:=(List.getElem?_eq_some_iff.1 hy).1
 have hget:∀ t,(ps.set j x)[t]?=if j=t then some x else ps[t]?:=fun t=>by
  rw [List.getElem?_set]
  by_cases e:j=t
  · subst e;rw [if_pos rfl,if_pos rfl,if_pos hjl]
  · rw [if_neg e,if_neg e]
 have hD:∀ t,¬j=t->(ps.set j x).getD t Pg.zero=ps.getD t Pg.zero:=fun t ht=>by rw [List.getD_eq_getElem?_getD,List.getD_eq_getElem?_getD,hget,if_neg ht]
 have hDj:(ps.set j x).getD j Pg.zero=x:=zin (by rw [hget,if_pos rfl])
 have hDy:ps.getD j Pg.zero=y:=zin hy
 have hk2:∀ t,(((ps.set j x).getD t Pg.zero).kind=2↔(ps.getD t Pg.zero).kind=2):=fun t=>by
  by_cases ht:j=t
  · subst ht;rw [hDj,hDy];constructor <;> intro c <;> omega
  · rw [hD t ht]
 intro i z hz
 rw [hget]at hz
 split at hz
 · cases hz
   unfold zi9
   rw [if_neg (by omega),if_pos hx]
   exact hs
 · rename_i hji
   have hp:=h i z hz
   unfold zi9 at hp ⊢
   split
   · rename_i k0;rw [if_pos k0]at hp;exact hp
   · rename_i k0
     rw [if_neg k0]at hp
     split
     · rename_i k1;rw [if_pos k1]at hp;exact hp
     · rename_i k1
       rw [if_neg k1]at hp
       split
       · rename_i k2
         rw [if_pos k2]at hp
         unfold zjG at hp ⊢
         rw [List.length_set]
         rw [Bool.and_eq_true]at hp ⊢
         refine ⟨hp.1,?_⟩
         rw [zbm] at *
         intro t h1 h2 z' hz'
         rw [hget]at hz'
         split at hz'
         · rename_i e
           subst e
           have:=hp.2 j h1 h2 y hy
           omega
         · exact hp.2 t h1 h2 z' hz'
       · rename_i k2
         rw [if_neg k2]at hp
         split
         · rename_i k3
           rw [if_pos k3]at hp
           unfold zkh zkK at hp ⊢
           rw [Bool.and_eq_true]at hp ⊢
           refine ⟨hp.1,?_⟩
           obtain ⟨l,h1,h2,h3,h4⟩:=(zbl pw np ps i 1).1 hp.2
           have hlj:¬j=l:=fun e=>by subst e;rw [hDy]at h2;omega
           exact (zbl pw np _ i 1).2 ⟨l,h1,(hk2 l).2 h2,fun m a c hh=>h3 m a c ((hk2 m).1 hh),by rw [hD l hlj];exact h4⟩
         · rename_i k3
           rw [if_neg k3]at hp
           cases hp
theorem zpz {pw np:Int} {ps:List Pg} {i k:Nat} {sp n:Int} (h:ziY pw np ps=true) (hf:zju ps i k=true) (hl:i+k<=ps.length) (h1:1<=k) (hs:zjx sp=true) (hn:ziq pw np n=k) :
 ziY pw np (put (ps.set i ⟨2,sp,n,0⟩) (i+1) (k-1) ⟨3,sp,0,0⟩)=true:=by
 rw [zaJ]at h ⊢
 have hfree:∀ t,i<=t->t<i+k->∀ z,ps[t]?=some z->z.kind=0:=fun t a c z hz=>by
  have hz':z∈(ps.drop i).take k:=by
   refine List.mem_of_getElem? (i:=t-i) ?_
   rw [List.getElem?_take,if_pos (by omega),List.getElem?_drop,show i+(t-i)=t by omega];exact hz
  unfold zju at hf
  exact of_decide_eq_true (List.all_eq_true.1 hf z hz')
 obtain ⟨qs,hqs⟩:∃ qs,put (ps.set i ⟨2,sp,n,0⟩) (i+1) (k-1) ⟨3,sp,0,0⟩=qs:=⟨_,rfl⟩
 rw [hqs]
 have hql:qs.length=ps.length:=by rw [<-hqs,zj7 (by rw [List.length_set];omega),List.length_set]
 have hget:∀ t,qs[t]?=if t=i then some ⟨2,sp,n,0⟩ else if i<=t/\t<i+k then some ⟨3,sp,0,0⟩ else ps[t]?:=fun t=>by
  rw [<-hqs]
  split
  · rename_i e
    subst e
    rw [zjP (by rw [List.length_set];omega) (Or.inr (by omega)),List.getElem?_set,if_pos rfl,if_pos (by omega)]
  · rename_i e
    split
    · rename_i hr
      rw [zl4 (by rw [List.length_set];omega) (by omega) (by omega)]
    · rw [zjP (by rw [List.length_set];omega) (by omega),List.getElem?_set,if_neg (by omega)]
 have hin:∀ t,i<=t->t<i+k->∃ z,ps[t]?=some z:=fun t a c=>⟨_,List.getElem?_eq_getElem (show t<ps.length by omega)⟩
 have hD:∀ t,¬(i<=t/\t<i+k)->qs.getD t Pg.zero=ps.getD t Pg.zero:=fun t ht=>by rw [List.getD_eq_getElem?_getD,List.getD_eq_getElem?_getD,hget,if_neg (by omega),if_neg ht]
 have hDi:qs.getD i Pg.zero=⟨2,sp,n,0⟩:=zin (by rw [hget,if_pos rfl])
 have hDt:∀ t,i<t->t<i+k->qs.getD t Pg.zero=⟨3,sp,0,0⟩:=fun t a c=>zin (by rw [hget,if_neg (by omega),if_pos ⟨by omega,c⟩])
 have hD0:∀ t,i<=t->t<i+k->(ps.getD t Pg.zero).kind=0:=fun t a c=>by
  obtain ⟨z,hz⟩:=hin t a c
  rw [zin hz];exact hfree t a c z hz
 intro t z hz
 rw [hget]at hz
 split at hz
 · rename_i e
   subst e
   cases hz
   unfold zi9
   rw [if_neg (show ¬(2:Int)=0 by decide),if_neg (show ¬(2:Int)=1 by decide),if_pos rfl]
   unfold zjG
   simp only
   rw [hs,hn,hql,decide_eq_true (show (1:Int)<=k by omega),decide_eq_true (show (t:Int)+k<=ps.length by omega),show zkr 0=true from rfl,Bool.true_and,Bool.true_and,Bool.true_and,Bool.true_and,zbm]
   intro u a c z hz
   rw [hget,if_neg (by omega),if_pos (by omega)]at hz
   cases hz
   exact ⟨rfl,rfl⟩
 · rename_i e
   split at hz
   · rename_i hr
     cases hz
     unfold zi9
     rw [if_neg (show ¬(3:Int)=0 by decide),if_neg (show ¬(3:Int)=1 by decide),if_neg (show ¬(3:Int)=2 by decide),if_pos rfl]
     unfold zkh zkK
     rw [show decide ((0:Int)=0/\(0:Int)=0)=true from rfl,Bool.true_and,zbl]
     refine ⟨i,by omega,by rw [hDi],fun m a c=>?_,?_⟩
     · rw [hDt m a (by omega)];simp
     · rw [hDi];simp only;rw [hn];omega
   · rename_i hr
     have hp:=h t z hz
     unfold zi9 at hp ⊢
     split
     · rename_i k0;rw [if_pos k0]at hp;exact hp
     · rename_i k0
       rw [if_neg k0]at hp
       split
       · rename_i k1;rw [if_pos k1]at hp;exact hp
       · rename_i k1
         rw [if_neg k1]at hp
         split
         · rename_i k2
           rw [if_pos k2]at hp
           unfold zjG at hp ⊢
           rw [hql]
           rw [Bool.and_eq_true]at hp ⊢
           refine ⟨hp.1,?_⟩
           rw [zbm] at *
           intro u a c z' hz'
           by_cases hu:i<=u/\u<i+k
           · obtain ⟨y,hy⟩:=hin u hu.1 hu.2
             have h3:=(hp.2 u a c y hy).1
             have h0:=hfree u hu.1 hu.2 y hy
             omega
           · rw [hget,if_neg (by omega),if_neg hu]at hz'
             exact hp.2 u a c z' hz'
         · rename_i k2
           rw [if_neg k2]at hp
           split
           · rename_i k3
             rw [if_pos k3]at hp
             unfold zkh zkK at hp ⊢
             rw [Bool.and_eq_true]at hp ⊢
             refine ⟨hp.1,?_⟩
             obtain ⟨l,h2,h3,h4,h5⟩:=(zbl pw np ps t 1).1 hp.2
             have hlo:¬(i<=l/\l<i+k):=fun c=>by have:=hD0 l c.1 c.2;omega
             have htl:t<ps.length:=(List.getElem?_eq_some_iff.1 hz).1
             have hlz:ps[l]?=some (ps[l]'(by omega)):=List.getElem?_eq_getElem _
             have hpl:=h l _ hlz
             rw [zin hlz]at h3 h5
             unfold zi9 at hpl
             rw [if_neg (by omega),if_neg (by omega),if_pos h3]at hpl
             unfold zjG at hpl
             rw [Bool.and_eq_true,zbm]at hpl
             have hnot:∀ m,l<m->m<t->¬(i<=m/\m<i+k):=fun m a c hc=>by
              obtain ⟨y,hy⟩:=hin m hc.1 hc.2
              have q3:=(hpl.2 m (by omega) (by omega) y hy).1
              have q0:=hfree m hc.1 hc.2 y hy
              omega
             refine (zbl pw np qs t 1).2 ⟨l,h2,by rw [hD l hlo,zin hlz];exact h3,fun m a c=>by rw [hD m (hnot m a c)];exact h4 m a c,by rw [hD l hlo,zin hlz];exact h5⟩
           · rename_i k3
             rw [if_neg k3]at hp
             cases hp
theorem zdX (pw np:Int) (ps:List Pg):∀ (i:Nat) (b:Int),1<=b->(zji pw np ps i b=true↔b<=zkm pw np ps i)
 | 0,b,hb=>by
  rw [zji,zkm]
  constructor
  · intro h;cases h
  · intro h;omega
 | i+1,b,hb=>by
  rw [zji,zkm]
  by_cases h2:(ps.getD i Pg.zero).kind=2
  · rw [if_pos h2,if_pos h2,decide_eq_true_eq];omega
  · rw [if_neg h2,if_neg h2,zdX pw np ps i (b+1) (by omega)];omega
theorem zgd {pw np:Int} {ps:List Pg} (h:ziy pw np ps 0=true):ziY pw np ps=true:=by
 rw [zaJ]
 intro i x hx
 have hi:i<ps.length:=(List.getElem?_eq_some_iff.1 hx).1
 have hp:=zgl h i (by omega)
 obtain ⟨_,rfl⟩:=List.getElem?_eq_some_iff.1 hx
 rw [List.drop_eq_getElem_cons hi,ziy]at hp
 generalize hX:ps[i]=x at *
 cases hs:zjn pw np x (ps.drop (i+1)) (zkm pw np ps i) with
 | none=>rw [hs]at hp;cases hp
 | some d=>
  unfold zjn at hs
  split at hs
  · cases hs
  · rename_i hA
    have hsp:zjx x.space=true:=zcZ.2 ⟨by omega,by omega⟩
    have hpn:zkr x.pins=true:=by
     cases hp':zkr x.pins
     · exact absurd (Or.inr (Or.inr (Or.inr hp'))) hA
     · rfl
    unfold zi9
    split
    · rename_i k0
      rw [if_pos k0]at hs
      split at hs
      · rename_i e;rw [e];rfl
      · cases hs
    · rename_i k0
      rw [if_neg k0]at hs
      split
      · rename_i k1
        rw [if_pos k1]at hs
        split at hs
        · cases hs
        · unfold zjX
          rw [hsp,hpn,decide_eq_true (show 0<=x.used/\x.used<=pw by omega)];rfl
      · rename_i k1
        rw [if_neg k1]at hs
        split
        · rename_i k2
          rw [if_pos k2]at hs
          split at hs
          · cases hs
          · rename_i hB
            have hn1:1<=ziq pw np x.used:=by omega
            obtain ⟨t1,t2⟩:=(zfW x.space (ps.drop (i+1)) ((ziq pw np x.used).toNat-1)).1 (by omega)
            rw [List.length_drop]at t1
            unfold zjG
            rw [hsp,hpn,decide_eq_true hn1,decide_eq_true (show (i:Int)+ziq pw np x.used<=ps.length by omega),t2];rfl
        · rename_i k2
          rw [if_neg k2]at hs
          split
          · rename_i k3
            rw [if_pos k3]at hs
            split at hs
            · rename_i e
              unfold zkh
              rw [decide_eq_true e,Bool.true_and]
              unfold zkK
              rw [zdX pw np ps i 1 (by omega)]
              have:x.kind=3↔0<zkm pw np ps i:=Classical.not_not.1 fun c=>hA (Or.inl c)
              have:=this.1 k3
              omega
            · cases hs
          · rename_i k3
            rw [if_neg k3]at hs
            cases hs
theorem zcy {pw np:Int} {ps:List Pg} (h:ziY pw np ps=true):∀ (k i:Nat),i+k=ps.length->ziy pw np (ps.drop i) (zkm pw np ps i)=true
 | 0,i,hi=>by rw [List.drop_of_length_le (by omega)];rfl
 | k+1,i,hi=>by
  have ih:=zcy h k (i+1) (by omega)
  have hlt:i<ps.length:=by omega
  have hx:ps[i]?=some (ps[i]'hlt):=List.getElem?_eq_getElem _
  rw [zaJ]at h
  have hp:=h i _ hx
  rw [List.drop_eq_getElem_cons hlt,ziy]
  generalize ps[i]'hlt=x at *
  have hdue:0<zkm pw np ps i->x.kind=3/\0<=x.space/\x.space<=1:=fun hd=>by
   obtain ⟨l,h1,h2,-,h4⟩:=(zbl pw np ps i 1).1 ((zdX pw np ps i 1 (by omega)).2 (by omega))
   have hl:ps[l]?=some (ps[l]'(by omega)):=List.getElem?_eq_getElem _
   have hpl:=h l _ hl
   rw [zin hl]at h2 h4
   unfold zi9 at hpl
   rw [if_neg (by omega),if_neg (by omega),if_pos h2]at hpl
   unfold zjG at hpl
   simp only [Bool.and_eq_true]at hpl
   have ht:=(zbm.1 hpl.2) i (by omega) (by omega) x hx
   have hs:=zcZ.1 hpl.1.1.1.1
   exact ⟨ht.1,by omega,by omega⟩
  have key:zjn pw np x (ps.drop (i+1)) (zkm pw np ps i)≠none:=by
   have h3:x.kind=3->0<zkm pw np ps i/\x.used=0/\x.pins=0:=fun k3=>by
    unfold zi9 at hp
    rw [if_neg (by omega),if_neg (by omega),if_neg (by omega),if_pos k3]at hp
    unfold zkh at hp
    rw [Bool.and_eq_true,decide_eq_true_eq]at hp
    have:=(zdX pw np ps i 1 (by omega)).1 hp.2
    exact ⟨by omega,hp.1⟩
   have hiff:x.kind=3↔0<zkm pw np ps i:=⟨fun k=>(h3 k).1,fun d=>(hdue d).1⟩
   unfold zi9 at hp
   unfold zjn
   split at hp
   · rename_i k0
     obtain ⟨a1,a2,a3⟩:=of_decide_eq_true hp
     have ex:x=Pg.zero:=by cases x;simp only at k0 a1 a2 a3;subst k0 a1 a2 a3;rfl
     rw [if_neg (by rw [a1,a3];rintro (c | c | c | c);exact c hiff;omega;omega;cases c),if_pos k0,if_pos ex]
     exact fun c=>by cases c
   · rename_i k0
     split at hp
     · rename_i k1
       unfold zjX at hp
       simp only [Bool.and_eq_true,decide_eq_true_eq]at hp
       have hs:=zcZ.1 hp.1.1
       rw [if_neg (by rintro (c | c | c | c);exact c hiff;omega;omega;rw [hp.2]at c;cases c),if_neg k0,if_pos k1,if_neg (by omega)]
       exact fun c=>by cases c
     · rename_i k1
       split at hp
       · rename_i k2
         unfold zjG at hp
         simp only [Bool.and_eq_true,decide_eq_true_eq]at hp
         obtain ⟨⟨⟨⟨a1,a2⟩,a3⟩,a4⟩,a5⟩:=hp
         have hs:=zcZ.1 a1
         have ht:=(zfW x.space (ps.drop (i+1)) ((ziq pw np x.used).toNat-1)).2 ⟨by rw [List.length_drop];omega,a5⟩
         rw [if_neg (by rintro (c | c | c | c);exact c hiff;omega;omega;rw [a3]at c;cases c),if_neg k0,if_neg k1,if_pos k2,if_neg (by omega)]
         exact fun c=>by cases c
       · rename_i k2
         split at hp
         · rename_i k3
           obtain ⟨b1,b2,b3⟩:=h3 k3
           obtain ⟨-,c1,c2⟩:=hdue b1
           rw [if_neg (by rw [b3];rintro (c | c | c | c);exact c hiff;omega;omega;cases c),if_neg k0,if_neg k1,if_neg k2,if_pos k3,if_pos ⟨b2,b3⟩]
           exact fun c=>by cases c
         · cases hp
  cases hs:zjn pw np x (ps.drop (i+1)) (zkm pw np ps i) with
  | none=>exact absurd hs key
  | some d=>
   simp only
   rw [zrU hx hs]
   exact ih
theorem zfn (pw np:Int) (ps:List Pg):ziy pw np ps 0=ziY pw np ps:=by
 cases h:ziY pw np ps
 · cases h2:ziy pw np ps 0
   · rfl
   · rw [zgd h2]at h;cases h
 · have:=zcy h ps.length 0 (by omega)
   rwa [List.drop_zero]at this
theorem zdU (pw np:Int) (nw:Nat) (ps:List Pg) (sp b:Int):zk1 pw np nw ps sp b=zj8 pw np nw ps sp b:=by
 unfold zk1 zj8
 rw [zfn]
 have:zjx sp=decide (0<=sp/\sp<=1):=by
  unfold zjx
  by_cases h:0<=sp/\sp<=1
  · rw [decide_eq_true h];exact decide_eq_true (by omega)
  · rw [decide_eq_false h];exact decide_eq_false (by omega)
 rw [this]
theorem zuN {pw np k n m:Int} (h:k=0):zlq pw np k n m=false:=by
 unfold zlq;simp [h]
theorem zuO {pw np k n m:Int} (h:¬k=0):zlq pw np k n m=(ziq pw np (ziC k n m) != -1):=by
 unfold zlq
 cases hv:zir k n m
 · rw [zpC hv,zkF (Or.inr (by omega))];rfl
 · by_cases hz:ziq pw np (ziC k n m) = -1 <;> simp [h,hz]
structure PlOK7 (h:Hp):Prop where
 conf:confB h.pw h.np=true
 len:(h.pages.length:Int)=h.np
 sp:0<=h.space/\h.space<=1
 bp:h.bump = -1\/∃ K:Nat,∃ x:Pg,h.bump=K/\h.pages[K]?=some x/\x.kind=1/\0<=x.used/\x.used<=h.pw
theorem PlOK7.bump {h:Hp} (hp:PlOK7 h):(h.bump = -1\/0<=h.bump/\h.bump<h.pages.length)/\(¬h.bump = -1->0<=(h.pages.getD h.bump.toNat Pg.zero).used/\(h.pages.getD h.bump.toNat Pg.zero).used<=100000):=by
 obtain ⟨_,k2,_⟩:=zai hp.conf
 rcases hp.bp with h1 | ⟨K,x,h1,h2,-,h3,h4⟩
 · exact ⟨Or.inl h1,fun c=>absurd h1 c⟩
 · have:=(List.getElem?_eq_some_iff.1 h2).1
   rw [h1,Int.toNat_natCast,zin h2]
   exact ⟨Or.inr ⟨by omega,by omega⟩,fun _=>⟨h3,by omega⟩⟩
theorem zkw {pw np:Int} {K:Nat} {o:Int} (hc:confB pw np=true) (hk:(K:Int)<np) (h0:0<=o) (h1:o<pw):zlR pw np K o=0/\ziR pw np K o=4096+K*pw+o:=by
 obtain ⟨a,b⟩:=zlb hc (p:=(K:Int)) (o:=o) (decide_eq_true ⟨by omega,hk,h0,h1⟩)
 exact ⟨b,a⟩
theorem zhQ {h:Hp} {nn:Int} (hp:PlOK7 h) (h1:1<=nn) (hn:newB h nn=false) :
 ∃ (K:Nat) (x:Pg),h.bump=K/\h.pages[K]?=some x/\(0<=x.used/\x.used<=100000)/\zjf h nn=true/\zlu h nn=⟨h.pw,h.np,h.words,h.pages.set K ⟨x.kind,x.space,x.used+nn,x.pins⟩,h.space,K⟩/\zlR h.pw h.np K x.used=0/\zlv h nn=ziR h.pw h.np K x.used:=by
 have hd:=of_decide_eq_false hn
 obtain ⟨_,k2,_⟩:=zai hp.conf
 rcases hp.bp with h2 | ⟨K,x,h2,h3,-,h4,h5⟩
 · exact absurd (Or.inl (by omega)) hd
 · have hK:=(List.getElem?_eq_some_iff.1 h3).1
   have hbp:zlh h=x:=by unfold zlh;rw [h2,Int.toNat_natCast,zin h3]
   have hl:=hp.len
   rw [hbp]at hd
   obtain ⟨a,b⟩:=zkw (K:=K) (o:=x.used) hp.conf (by omega) h4 (by omega)
   have hJ:zko h nn=K:=by unfold zko;rw [hn];exact h2
   have hP:zi6 h nn=h.pages:=by unfold zi6;rw [hn];rfl
   refine ⟨K,x,h2,h3,⟨h4,by omega⟩,by unfold zjf;rw [hn];rfl,?_,a,?_⟩
   · unfold zlu zkJ;rw [hJ,hP,Int.toNat_natCast,zin h3]
   · unfold zlv;rw [hJ,hP,Int.toNat_natCast,zin h3,b]
theorem znX {h:Hp} {nn:Int} (hp:PlOK7 h) (hn:newB h nn=true) (hf:zjL h=false) :
 ∃ (K:Nat),zis h.pages 1=K/\K<h.pages.length/\zkZ h.pages K h.space=0/\zjs h.pages K h.space=h.pages.set K ⟨1,h.space,0,0⟩/\(∃ y,h.pages[K]?=some y/\y.kind=0)/\zjf h nn=true/\zlu h nn=⟨h.pw,h.np,h.words,(h.pages.set K ⟨1,h.space,0,0⟩).set K ⟨1,h.space,0+nn,0⟩,h.space,K⟩/\zlR h.pw h.np K 0=0/\zlv h nn=ziR h.pw h.np K 0:=by
 have hd:=of_decide_eq_false hf
 have hF:0<=zis h.pages 1:=by omega
 obtain ⟨-,f1,f2⟩:=zbz hF
 obtain ⟨K,hK⟩:=Int.eq_ofNat_of_zero_le hF
 rw [hK]at f1 f2
 obtain ⟨y,hy,hy0⟩:=f2 K (by omega) (by omega)
 have hlt:K<h.pages.length:=(List.getElem?_eq_some_iff.1 hy).1
 have hfree:zju h.pages K 1=true:=by
  have:=za3 (ps:=h.pages) (i:=K) (k:=0) (x:=y) (by rw [Nat.add_zero];exact hy)
  rw [zbg,hy0]at this;simpa using this
 obtain ⟨t1,t2⟩:=zls (x:=⟨1,h.space,0,0⟩) (y:=Pg.zero) hlt (show K+1<=h.pages.length by omega) hfree
 rw [zrr (by omega) (by omega),zmx]at t1
 have hps:zjs h.pages K h.space=h.pages.set K ⟨1,h.space,0,0⟩:=by
  unfold zjs;rw [if_pos hp.sp];exact t1
 have hpe:zkZ h.pages K h.space=0:=by unfold zkZ;rw [if_pos hp.sp];exact t2
 have hl:=hp.len
 obtain ⟨k1,k2,_⟩:=zai hp.conf
 obtain ⟨a,b⟩:=zkw (K:=K) (o:=0) hp.conf (by omega) (by omega) (by omega)
 have hJ:zko h nn=K:=by unfold zko;rw [hn];exact hK
 have hP:zi6 h nn=h.pages.set K ⟨1,h.space,0,0⟩:=by unfold zi6;rw [hn,if_pos rfl,hK,hps]
 have hg:(h.pages.set K ⟨1,h.space,0,0⟩)[K]?=some ⟨1,h.space,0,0⟩:=by rw [List.getElem?_set,if_pos rfl,if_pos hlt]
 refine ⟨K,hK,hlt,hpe,hps,⟨y,hy,hy0⟩,by unfold zjf;rw [hn,hf];rfl,?_,a,?_⟩
 · unfold zlu zkJ;rw [hJ,hP,Int.toNat_natCast,zin hg]
 · unfold zlv;rw [hJ,hP,Int.toNat_natCast,zin hg,b]
theorem zsj {h:Hp} {nn:Int} (hn:newB h nn=true) (hf:zjL h=true):zjf h nn=false:=by
 unfold zjf;rw [hn,hf];rfl
theorem zpK {h:Hp} {n k:Int} (hp:PlOK7 h) (hk:ziq h.pw h.np n=k) (h1:1<=k) (hF:0<=zis h.pages k) :
 ∃ (K kk:Nat),k=kk/\zis h.pages k=K/\K+kk<=h.pages.length/\zju h.pages K kk=true/\zlC h.pw h.np h.pages K h.space n=0/\zkt h.pw h.np h.pages K h.space n=put (h.pages.set K ⟨2,h.space,n,0⟩) (K+1) (kk-1) ⟨3,h.space,0,0⟩/\zlR h.pw h.np K 0=0/\zl8 h k=ziR h.pw h.np K 0:=by
 obtain ⟨-,f1,f2⟩:=zbz hF
 obtain ⟨K,hK⟩:=Int.eq_ofNat_of_zero_le hF
 obtain ⟨kk,hkk⟩:=Int.eq_ofNat_of_zero_le (show 0<=k by omega)
 rw [hK]at f1 f2
 have hfree:∀ j:Nat,j<=kk->zju h.pages K j=true:=by
  intro j
  induction j with
  | zero=>intro _;exact zbg _ _
  | succ j ih=>
   intro hj
   obtain ⟨y,hy,hy0⟩:=f2 (K+j) (by omega) (by omega)
   rw [za3 hy,ih (by omega),hy0];rfl
 have hl:=hp.len
 obtain ⟨k1,k2,_⟩:=zai hp.conf
 obtain ⟨a,b⟩:=zkw (K:=K) (o:=0) hp.conf (by omega) (by omega) (by omega)
 obtain ⟨t1,t2⟩:=zls (x:=⟨2,h.space,n,0⟩) (y:=⟨3,h.space,0,0⟩) (show K<h.pages.length by omega) (show K+kk<=h.pages.length by omega) (hfree kk (Nat.le_refl _))
 rw [zrr (by omega) (by omega)]at t1
 obtain ⟨e1,e2⟩:=zun (ps:=h.pages) (i:=(K:Int)) (show 1<=ziq h.pw h.np n/\0<=h.space/\h.space<=1 from ⟨by omega,hp.sp⟩)
 refine ⟨K,kk,hkk,hK,by omega,hfree kk (Nat.le_refl _),?_,?_,a,?_⟩
 · rw [e2,hk,hkk];exact t2
 · rw [e1,hk,hkk];exact t1
 · unfold zl8;rw [hK,b];omega
def zka (h:Hp) (n:Int):Bool:=if 0<ziq h.pw h.np n then zkN h (ziq h.pw h.np n) else zjf h n
def zjR (h:Hp) (n:Int):Hp:=if 0<ziq h.pw h.np n then zl7 h n (ziq h.pw h.np n) else zlu h n
def zjV (h:Hp) (n:Int):Int:=if 0<ziq h.pw h.np n then zl8 h (ziq h.pw h.np n) else zlv h n
def okP (h:Hp):Bool:=zk1 h.pw h.np h.words.length h.pages h.space h.bump
theorem zax {h:Hp} (hp:okP h=true):confB h.pw h.np=true/\(h.words.length:Int)=h.np*h.pw/\(h.pages.length:Int)=h.np/\zjx h.space=true/\zkI h.pages h.bump=true/\ziY h.pw h.np h.pages=true:=by
 unfold okP zk1 at hp
 simp only [Bool.and_eq_true,decide_eq_true_eq]at hp
 obtain ⟨⟨⟨⟨⟨h1,h2⟩,h3⟩,h4⟩,h5⟩,h6⟩:=hp
 exact ⟨h1,h2,h3,h4,h5,h6⟩
theorem zt0 {h:Hp} (h1:confB h.pw h.np=true) (h2:(h.words.length:Int)=h.np*h.pw) (h3:(h.pages.length:Int)=h.np) (h4:zjx h.space=true) (h5:zkI h.pages h.bump=true) (h6:ziY h.pw h.np h.pages=true):okP h=true:=by
 unfold okP zk1
 rw [h1,decide_eq_true h2,decide_eq_true h3,h4,h5,h6];rfl
theorem zfX {pw np:Int} {ps:List Pg} {K:Nat} {x:Pg} (h:ziY pw np ps=true) (hx:ps[K]?=some x) (h1:x.kind=1):zjx x.space=true/\(0<=x.used/\x.used<=pw)/\zkr x.pins=true:=by
 have:=zaJ.1 h K x hx
 unfold zi9 at this
 rw [if_neg (by omega),if_pos h1]at this
 unfold zjX at this
 rw [Bool.and_eq_true,Bool.and_eq_true,decide_eq_true_eq]at this
 exact ⟨this.1.1,this.1.2,this.2⟩
theorem PlOK7.of {h:Hp} (hp:okP h=true):PlOK7 h:=by
 obtain ⟨h1,h2,h3,h4,h5,h6⟩:=zax hp
 refine ⟨h1,h3,zcZ.1 h4,?_⟩
 rcases of_decide_eq_true h5 with e | ⟨e1,e2,e3⟩
 · exact Or.inl e
 · have hx:h.pages[h.bump.toNat]?=some (h.pages[h.bump.toNat]'(by omega)):=List.getElem?_eq_getElem _
   rw [zin hx]at e3
   obtain ⟨-,hu,-⟩:=zfX h6 hx e3
   exact Or.inr ⟨h.bump.toNat,_,by omega,hx,e3,hu.1,hu.2⟩
theorem zrD {pw n:Int} (hn:0<zkc pw n):n<=zkc pw n*pw:=by
 unfold zkc at *
 split at hn
 · omega
 · rename_i h0
   rw [if_neg h0]
   split at hn
   · rename_i h1;rw [if_pos h1];omega
   · rename_i h1
     rw [if_neg h1]
     split at hn
     · rename_i h2;rw [if_pos h2];omega
     · rename_i h2
       rw [if_neg h2]
       split at hn
       · rename_i h3;rw [if_pos h3];omega
       · rename_i h3
         rw [if_neg h3]
         split at hn
         · rename_i h4;rw [if_pos h4];omega
         · omega
theorem zqf {pw np n:Int} (hc:confB pw np=true) (h0:¬0<ziq pw np n) (h1:¬ziq pw np n = -1):1<=n/\n<=pw / 4:=by
 have hz:ziq pw np n=0:=by have:=zmU pw np n;omega
 by_cases hn:1<=n
 · rw [zkE hc hn]at hz
   refine ⟨hn,?_⟩
   unfold zkc at hz
   split at hz
   · assumption
   · split at hz
     · omega
     · split at hz
       · omega
       · split at hz
         · omega
         · split at hz <;> omega
 · rw [zkF (Or.inr (by omega))]at hz;omega
theorem zni {ps:List Pg} {K:Nat} {x:Pg} (h:ps[K]?=some x) (h1:x.kind=1):zkI ps K=true:=by
 have:=(List.getElem?_eq_some_iff.1 h).1
 refine decide_eq_true (Or.inr ⟨by omega,by omega,?_⟩)
 rw [Int.toNat_natCast,zin h];exact h1
theorem zfo {h:Hp} {s:Int} (hp:okP h=true) (h1:1<=s) (hn:¬ziq h.pw h.np s = -1) (hok:zka h s=true) :
 okP (zjR h s)=true/\(zjR h s).words=h.words/\(0<=zjV h s/\zjV h s<18446744073709551616)/\okA h.words.length (zjV h s) s.toNat=true:=by
 obtain ⟨p1,p2,p3,p4,p5,p6⟩:=zax hp
 have hpl:=PlOK7.of hp
 obtain ⟨g1,g2⟩:=conf_prod p1
 obtain ⟨k1,k2,-,k4,k5⟩:=zai p1
 unfold zka at hok
 unfold zjR zjV
 by_cases hk:0<ziq h.pw h.np s
 · rw [if_pos hk]at hok
   rw [if_pos hk,if_pos hk]
   have hd:=of_decide_eq_true hok
   obtain ⟨K,kk,e1,e2,e3,e4,-,e6,-,e8⟩:=zpK (n:=s) hpl rfl (by omega) (show 0<=zis h.pages (ziq h.pw h.np s) by omega)
   have hH:zl7 h s (ziq h.pw h.np s)={ h with pages:=put (h.pages.set K ⟨2,h.space,s,0⟩) (K+1) (kk-1) ⟨3,h.space,0,0⟩ }:=by unfold zl7;rw [e2,e6]
   have hlen:(put (h.pages.set K ⟨2,h.space,s,0⟩) (K+1) (kk-1) ⟨3,h.space,0,0⟩).length=h.pages.length:=by rw [zj7 (by rw [List.length_set];omega),List.length_set]
   obtain ⟨a1,a2⟩:=zkw (K:=K) (o:=0) p1 (by omega) (by omega) (by omega)
   have hsz:s<=ziq h.pw h.np s*h.pw:=by
    have h3:=zkE p1 h1
    rw [h3]at hk ⊢
    exact zrD hk
   have hmul:(K:Int)*h.pw+ziq h.pw h.np s*h.pw<=h.np*h.pw:=by
    rw [<-Int.add_mul]
    exact Int.mul_le_mul_of_nonneg_right (by omega) (by omega)
   have hK0:0<=(K:Int)*h.pw:=Int.mul_nonneg (by omega) (by omega)
   rw [hH,e8,a2]
   refine ⟨zt0 p1 p2 (by simp only;rw [hlen];exact p3) p4 ?_ (zpz p6 e4 e3 (by omega) p4 e1),rfl,⟨by omega,by omega⟩,decide_eq_true ⟨by omega,by omega⟩⟩
   simp only
   rcases of_decide_eq_true p5 with e | ⟨c1,c2,c3⟩
   · exact decide_eq_true (Or.inl e)
   · have hx:h.pages[h.bump.toNat]?=some (h.pages[h.bump.toNat]'(by omega)):=List.getElem?_eq_getElem _
     rw [zin hx]at c3
     have hnf:¬(K<=h.bump.toNat/\h.bump.toNat<K+kk):=fun c=>by
      have hz':h.pages[h.bump.toNat]'(by omega)∈(h.pages.drop K).take kk:=by
       refine List.mem_of_getElem? (i:=h.bump.toNat-K) ?_
       rw [List.getElem?_take,if_pos (by omega),List.getElem?_drop,show K+(h.bump.toNat-K)=h.bump.toNat by omega];exact hx
      unfold zju at e4
      have:=of_decide_eq_true (List.all_eq_true.1 e4 _ hz')
      omega
     have hy:(put (h.pages.set K ⟨2,h.space,s,0⟩) (K+1) (kk-1) ⟨3,h.space,0,0⟩)[h.bump.toNat]?=some (h.pages[h.bump.toNat]'(by omega)):=by
      rw [zjP (by rw [List.length_set];omega) (by omega),List.getElem?_set,if_neg (by omega)];exact hx
     have:=zni hy c3
     rwa [show ((h.bump.toNat:Nat):Int)=h.bump by omega]at this
 · rw [if_neg hk]at hok
   rw [if_neg hk,if_neg hk]
   obtain ⟨s1,s4⟩:=zqf p1 hk hn
   cases hnb:newB h s
   · obtain ⟨K,x,b1,b2,b3,-,b5,-,b7⟩:=zhQ hpl h1 hnb
     have hKl:=(List.getElem?_eq_some_iff.1 b2).1
     have hx1:x.kind=1:=by
      rcases hpl.bp with e | ⟨K',x',e1,e2,e3,-⟩
      · omega
      · obtain rfl:K=K':=by omega
        rw [b2]at e2;cases e2;exact e3
     obtain ⟨u1,u2,u3⟩:=zfX p6 b2 hx1
     have hfit:x.used+s<=h.pw:=by
      have hd:=of_decide_eq_false hnb
      unfold zlh at hd
      rw [b1,Int.toNat_natCast,zin b2]at hd
      omega
     obtain ⟨a1,a2⟩:=zkw (K:=K) (o:=x.used) p1 (by omega) (by omega) (by omega)
     have hmul:(K:Int)*h.pw+h.pw<=h.np*h.pw:=(zaw p1 (by omega) (by omega)).2
     have hK0:0<=(K:Int)*h.pw:=Int.mul_nonneg (by omega) (by omega)
     rw [b5,b7,a2]
     refine ⟨zt0 p1 p2 (by simp only;rw [List.length_set];exact p3) p4 ?_ ?_,rfl,⟨by omega,by omega⟩,decide_eq_true ⟨by omega,by omega⟩⟩
     · exact zni (x:=⟨x.kind,x.space,x.used+s,x.pins⟩) (by simp only;rw [List.getElem?_set,if_pos rfl,if_pos hKl]) hx1
     · refine zgc p6 b2 (Or.inr hx1) hx1 ?_
       unfold zjX
       simp only
       rw [u1,u3,decide_eq_true (show 0<=x.used+s/\x.used+s<=h.pw by omega)];rfl
   · have hf:zjL h=false:=by
      unfold zjf at hok
      rw [hnb,Bool.true_and]at hok
      simpa using hok
     obtain ⟨K,-,b2,-,-,⟨y,hy,hy0⟩,-,b5,-,b7⟩:=znX hpl hnb hf
     obtain ⟨a1,a2⟩:=zkw (K:=K) (o:=0) p1 (by omega) (by omega) (by omega)
     have hmul:(K:Int)*h.pw+h.pw<=h.np*h.pw:=(zaw p1 (by omega) (by omega)).2
     have hK0:0<=(K:Int)*h.pw:=Int.mul_nonneg (by omega) (by omega)
     rw [List.set_set]at b5
     rw [b5,b7,a2]
     refine ⟨zt0 p1 p2 (by simp only;rw [List.length_set];exact p3) p4 ?_ ?_,rfl,⟨by omega,by omega⟩,decide_eq_true ⟨by omega,by omega⟩⟩
     · exact zni (x:=⟨1,h.space,0+s,0⟩) (by simp only;rw [List.getElem?_set,if_pos rfl,if_pos b2]) rfl
     · refine zgc p6 hy (Or.inl hy0) rfl ?_
       unfold zjX
       simp only
       rw [p4,show zkr 0=true from rfl,decide_eq_true (show 0<=0+s/\0+s<=h.pw by omega)];rfl
theorem znY (h:Hp) (k n m:Int):zmS h k n m=zka h (ziC k n m)/\zlz h k n m=zjR h (ziC k n m)/\zmT h k n m=zjV h (ziC k n m):=by
 unfold zmS zlz zmT zrC zka zjR zjV
 by_cases hb:0<ziq h.pw h.np (ziC k n m)
 · simp [hb]
 · simp [hb]
theorem ztN {B:Int} (hB:0<=B) {h:Hp} (hp:PinL B h.pages) (s:Int):PinL B (zjR h s).pages:=by
 unfold zjR
 split
 · show PinL B (zkt _ _ _ _ _ _)
   unfold zkt
   split
   · exact hp.take hB _ _ rfl rfl
   · exact PinL.nil B
 · show PinL B (zkJ (zi6 h s) _ _)
   refine PinL.use ?_ hB _ _
   unfold zi6
   split
   · unfold zjs
     split
     · exact hp.take hB _ _ rfl rfl
     · exact PinL.nil B
   · exact hp
theorem ztI:zr2:=by
 intro n x k l m hn hm L k1 k3 l0 l1 m0 m1 he
 obtain ⟨ha,hr⟩:zle x.h k l m=true/\zmS x.h k l m=true:=by
  unfold zjF at he
  split at he
  · rename_i h1
    split at he
    · rename_i h2;exact ⟨h1,h2⟩
    · exact absurd he (by decide)
  · exact absurd he (by decide)
 obtain ⟨e1,e2,e3⟩:=znY x.h k l m
 rw [e1]at hr
 unfold zle zlq at ha
 simp only [Bool.and_eq_true,decide_eq_true_eq]at ha
 obtain ⟨ho,⟨hv,hk0⟩,hnd⟩:=ha
 have hs:=zjA hv
 have hop:okP x.h=true:=by unfold okP;rw [zdU];exact ho
 obtain ⟨q1,q2,q3,q4⟩:=zfo hop (show 1<=ziC k l m by rw [hs];omega) hnd hr
 have hoh:okH (zjR x.h (ziC k l m))=true:=by unfold okP at q1;rw [zdU]at q1;exact q1
 have hil:(zkH k l m).length=(ziC k l m).toNat:=by rw [zgF,hs];omega
 have hka:okA (zjR x.h (ziC k l m)).words.length (zjV x.h (ziC k l m)) (zkH k l m).length=true:=by rw [q2,hil];exact q4
 have hie:zj5 (zjR x.h (ziC k l m)) (zjV x.h (ziC k l m)) k l m=0:=by
  unfold zj5
  rw [if_pos ⟨hv,hoh⟩]
  unfold zjo
  rw [if_pos hka]
 have hH:zkT x.h k l m={ zjR x.h (ziC k l m) with words:=ziw (zjR x.h (ziC k l m)).words (zjV x.h (ziC k l m)) (zkH k l m) }:=by
  unfold zkT
  rw [if_pos he,e2,e3]
  unfold zk6
  rw [if_pos hie]
 have hA:zli x.h k l m=zjV x.h (ziC k l m):=by unfold zli;rw [if_pos he,e3]
 obtain ⟨p1,p2,p3,-⟩:=zan hoh
 unfold putV
 rw [hH,hA]
 refine ⟨p1,?_,p3,fun y hy=>?_,L.wk,?_,by have:=L.wkn;show x.wk.length<=_;omega,fun g hg=>?_⟩
 · show ((ziw _ _ _).length:Int)=_
   rw [zb0 hka];exact p2
 · rcases List.mem_append.1 hy with h2 | h2
   · exact L.st y h2
   · rw [List.mem_singleton.1 h2];exact q3
 · have:=L.stn
   show (x.st++[zjV x.h (ziC k l m)]).length<=_
   rw [List.length_append];simp;omega
 · have:=ztN (B:=n) (by omega) L.pins (ziC k l m) g hg
   omega
theorem zuk:∀ n x,Made n x->n<=400->Lens n x:=zvR ztI zne
theorem ztT {fs:List (Int×Nat)} (h1:fitL 64 (fs.map (·.1))=true) (h:okF fs=false):zmB fs=(0,2):=by
 unfold zmB;rw [if_pos h1,if_neg (by simp [h])]
theorem zry {fs:List (Int×Nat)} (h1:fitL 64 (fs.map (·.1))=true) (h:okF fs=true):zmB fs=(((zkD fs:Nat):Int),0):=by
 unfold zmB;rw [if_pos h1,if_pos h]
theorem zvw {fs:List (Int×Nat)} (h1:¬fitL 64 (fs.map (·.1))=true):zmB fs=(0,1):=by
 unfold zmB;rw [if_neg h1]
theorem zty (l:List Int) (x:Int):sumW (l++[x])=sumW l+x.toNat:=by
 induction l with
 | nil=>simp [sumW]
 | cons g l ih=>rw [List.cons_append,sumW,ih,sumW];omega
def zlU:Nat->List Int->List Int
 | _,[]=>[]
 | x,a::r=>((x &&& zkL a:Nat):Int)::zlU (x >>> a.toNat) r
theorem zto (ws:List Int):∀ x,(zlU x ws).length=ws.length:=by
 induction ws with
 | nil=>intro x;rfl
 | cons b r ih=>intro x;rw [zlU,List.length_cons,ih,List.length_cons]
def unpE (x:Nat) (ws:List Int):Int:=if fitL 64 ws=true then (if x >>> sumW ws=0 then 0 else 2) else 1
def unpV (x:Nat) (ws:List Int):List Int:=if fitL 64 ws=true then (if x >>> sumW ws=0 then zlU x ws else []) else []
theorem ztz {ws:List Int} {k:Nat} {a:Int} (h:ws[k]?=some a):sumW (ws.take (k+1))=sumW (ws.take k)+a.toNat:=by
 rw [zaC h,zty]
theorem zrz {n m:Int} (h1:0<=n) (h2:n<=32):m<=zky n↔m<2 ^ n.toNat:=by
 unfold zky
 rw [show min n.toNat 64=n.toNat from by omega]
 omega
theorem map_no {n m:Int} (h1:0<=n) (h2:n<=32) (h3:zky n<m):zir 1 n m=false :=
 za6 fun h=>by have:=(zrz h1 h2).2 (h.2.2.2.2.1 rfl).2;omega
theorem zpy {k n m:Int} (hk:k=0\/k=2\/k=3) (h:0<=n) (h2:n<=255) (h3:m=0):zir k n m=true :=
 zfV ⟨by omega,by omega,h,h2,fun c=>by omega,fun _=>h3⟩
theorem zc4 {f:Int×Nat} {r:List (Int×Nat)} (h:f.2<2 ^ f.1.toNat):zkD (f::r)=zkD r*2 ^ f.1.toNat+f.2:=by
 rw [zkD,<-Nat.shiftLeft_add_eq_or_of_lt h,Nat.shiftLeft_eq]
theorem ztS {k n m:Nat} (h1:k<=3) (h2:n<=255) (h3:m<4294967296):zmB [(2,1),(2,k),(12,n),(32,m)]=(zjK k n m,0):=by
 rw [zry (by simp [fitL]) (by simp [okF,zky];omega)]
 rw [zc4 (by simp),zc4 (by simp;omega),zc4 (by simp;omega),zc4 (by simp;omega)]
 simp only [zkD,zjK]
 simp
 omega
end Go.VI.P
