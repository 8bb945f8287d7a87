import Derived.Calls
import Derived.Laws.CopyOwn
import Derived.Laws.Entries
import Derived.RowKit
import Derived.IntWalk
set_option linter.unusedSimpArgs false
set_option linter.unusedVariables false
set_option maxRecDepth 100000
set_option maxHeartbeats 4000000
namespace Go.VI.P
open Go
open Go.RowKit
theorem take_snoc' {α:Type} {l:List α} {k:Nat} {x:α} (h:l[k]?=some x):l.take (k+1)=l.take k ++ [x]:=by
 rw [List.take_add_one,h];rfl
def confB (pw np:Int):Bool:=decide (16<=pw/\pw<=64/\pw % 4=0/\8<=np/\np<=64)
theorem conf_parts {pw np:Int} (h:confB pw np=true):16<=pw/\pw<=64/\pw % 4=0/\8<=np/\np<=64:=by
 unfold confB at h;exact of_decide_eq_true h
theorem conf_mk {pw np:Int} (h:16<=pw/\pw<=64/\pw % 4=0/\8<=np/\np<=64):confB pw np=true:=by
 unfold confB;exact decide_eq_true h
def limitV (pw np:Int):Int:=if confB pw np then np / 4 else 0
def smallV (pw np:Int):Int:=if confB pw np then pw / 4 else 0
def needP (pw n:Int):Int:=if n<=pw / 4 then 0 else if n<=pw then 1 else if n<=2*pw then 2 else if n<=3*pw then 3 else if n<=4*pw then 4 else -1
def needV (pw np n:Int):Int:=if confB pw np=true/\1<=n then needP pw n else -1
theorem need_ok {pw np n:Int} (h:confB pw np=true) (h1:1<=n):needV pw np n=needP pw n:=by unfold needV;rw [if_pos ⟨h,h1⟩]
theorem need_no {pw np n:Int} (h:confB pw np=false\/n < 1):needV pw np n = -1:=by
 unfold needV
 rw [if_neg]
 rintro ⟨a,b⟩
 rcases h with h | h
 · rw [a] at h;cases h
 · omega
def inPg (pw np p o:Int):Bool:=decide (0<=p/\p < np/\0<=o/\o < pw)
def addrV (pw np p o:Int):Int:=if confB pw np then (if inPg pw np p o then 4096+p*pw+o else 0) else 0
def addrE (pw np p o:Int):Int:=if confB pw np then (if inPg pw np p o then 0 else 2) else 1
def inAr (pw np a:Int):Bool:=decide (4096<=a/\a < 4096+np*pw)
def ofI (pw np a:Int):Int:=if confB pw np then (if inAr pw np a then (a - 4096) / pw else 0) else 0
def ofK (pw np a:Int):Int:=if confB pw np then (if inAr pw np a then (a - 4096) % pw else 0) else 0
def ofE (pw np a:Int):Int:=if confB pw np then (if inAr pw np a then 0 else 2) else 1
theorem addr_ok {pw np p o:Int} (h:confB pw np=true) (h1:inPg pw np p o=true):addrV pw np p o=4096+p*pw+o/\addrE pw np p o=0:=by
 unfold addrV addrE;rw [if_pos h,if_pos h,if_pos h1,if_pos h1];exact ⟨rfl,rfl⟩
theorem addr_out {pw np p o:Int} (h:confB pw np=true) (h1:inPg pw np p o=false):addrV pw np p o=0/\addrE pw np p o=2:=by
 unfold addrV addrE;rw [if_pos h,if_pos h,if_neg (by simp [h1]),if_neg (by simp [h1])];exact ⟨rfl,rfl⟩
theorem of_ok {pw np a:Int} (h:confB pw np=true) (h1:inAr pw np a=true):ofI pw np a=(a - 4096) / pw/\ofK pw np a=(a - 4096) % pw/\ofE pw np a=0:=by
 unfold ofI ofK ofE;rw [if_pos h,if_pos h,if_pos h,if_pos h1,if_pos h1,if_pos h1];exact ⟨rfl,rfl,rfl⟩
theorem of_out {pw np a:Int} (h:confB pw np=true) (h1:inAr pw np a=false):ofI pw np a=0/\ofK pw np a=0/\ofE pw np a=2:=by
 unfold ofI ofK ofE;rw [if_pos h,if_pos h,if_pos h,if_neg (by simp [h1]),if_neg (by simp [h1]),if_neg (by simp [h1])];exact ⟨rfl,rfl,rfl⟩
theorem conf_prod {pw np:Int} (h:confB pw np=true):128<=np*pw/\np*pw<=4096:=by
 obtain ⟨h1,h2,_,h4,h5⟩:=conf_parts h
 exact ⟨Int.le_trans (show (128:Int)<=8*16 from by decide) (Int.mul_le_mul h4 h1 (by decide) (by omega)),Int.le_trans (Int.mul_le_mul h5 h2 (by omega) (by omega)) (by decide)⟩
theorem page_prod {pw np p:Int} (h:confB pw np=true) (h0:0<=p) (h1:p < np):0<=p*pw/\p*pw+pw<=np*pw:=by
 obtain ⟨h2,_⟩:=conf_parts h
 have e:p*pw+pw=(p+1)*pw:=by rw [Int.add_mul,Int.one_mul]
 exact ⟨Int.mul_nonneg h0 (by omega),by rw [e];exact Int.mul_le_mul_of_nonneg_right (by omega) (by omega)⟩
theorem of_addr {pw np p o:Int} (h:confB pw np=true) (h1:inPg pw np p o=true):inAr pw np (4096+p*pw+o)=true/\(4096+p*pw+o - 4096) / pw=p/\(4096+p*pw+o - 4096) % pw=o:=by
 unfold inPg at h1
 obtain ⟨a,b,c,d⟩:=of_decide_eq_true h1
 obtain ⟨e,f⟩:=page_prod h a b
 have g:=conf_parts h
 have e1:4096+p*pw+o - 4096=o+p*pw:=by omega
 refine ⟨decide_eq_true (by omega),?_,?_⟩
 · rw [e1,Int.add_mul_ediv_right _ _ (by omega),Int.ediv_eq_zero_of_lt c d];omega
 · rw [e1,Int.add_mul_emod_self_right,Int.emod_eq_of_lt c d]
structure Pg where
 kind:Int
 space:Int
 used:Int
 pins:Int
 deriving DecidableEq
def Pg.zero:Pg:=⟨0,0,0,0⟩
theorem getD_at {ps:List Pg} {i:Nat} {x:Pg} (h:ps[i]?=some x):ps.getD i Pg.zero=x:=by rw [List.getD_eq_getElem?_getD,h];rfl
def tails (sp:Int):List Pg->Nat
 | []=>0
 | x :: r=>if x.kind=3/\x.space=sp then tails sp r+1 else 0
def inUse:List Pg->Nat
 | []=>0
 | x :: r=>(if x.kind=0 then 0 else 1)+inUse r
theorem inUse_le:∀ ps:List Pg,inUse ps<=ps.length
 | []=>Nat.le_refl _
 | x :: r=>by have:=inUse_le r;unfold inUse;rw [List.length_cons];split <;> omega
def runStep (out:List (Int × Int)) (k:Int) (x:Pg):List (Int × Int) :=
 if x.kind=0 then (match out.getLast? with | some r=>if r.1+r.2=k then out.dropLast ++ [(r.1,r.2+1)] else out ++ [(k,1)] | none=>[(k,1)]) else out
def runsTo (ps:List Pg):Nat->List (Int × Int)
 | 0=>[]
 | k+1=>match ps[k]? with | some x=>runStep (runsTo ps k) k x | none=>runsTo ps k
def runsV (ps:List Pg):List (Int × Int):=runsTo ps ps.length
def firstV (ps:List Pg) (k:Int):Int:=match (runsV ps).find? (fun r=>decide (1<=k) && decide (k<=r.2)) with | some r=>r.1 | none=>-1
def put (ps:List Pg) (i k:Nat) (x:Pg):List Pg:=ps.take i ++ List.replicate k x ++ ps.drop (i+k)
theorem put_zero (ps:List Pg) (i:Nat) (x:Pg):put ps i 0 x=ps:=by simp [put]
theorem put_len {ps:List Pg} {i k:Nat} {x:Pg} (h:i+k<=ps.length):(put ps i k x).length=ps.length:=by
 unfold put;rw [List.length_append,List.length_append,List.length_take,List.length_replicate,List.length_drop];omega
theorem put_get {ps:List Pg} {i k:Nat} {x:Pg} (h:i+k<=ps.length) {j:Nat} (hj:i+k<=j\/j < i):(put ps i k x)[j]?=ps[j]?:=by
 unfold put
 rcases hj with hj | hj
 · rw [List.getElem?_append_right (by rw [List.length_append,List.length_take,List.length_replicate];omega),List.getElem?_drop]
   congr 1
   rw [List.length_append,List.length_take,List.length_replicate];omega
 · rw [List.append_assoc,List.getElem?_append_left (by rw [List.length_take];omega),List.getElem?_take,if_pos hj]
theorem put_in {ps:List Pg} {i k:Nat} {x:Pg} (h:i+k<=ps.length) {j:Nat} (h1:i<=j) (h2:j < i+k):(put ps i k x)[j]?=some x:=by
 unfold put
 rw [List.append_assoc,List.getElem?_append_right (by rw [List.length_take];omega),List.getElem?_append_left (by rw [List.length_take,List.length_replicate];omega),List.getElem?_replicate,if_pos (by rw [List.length_take];omega)]
def freeB (ps:List Pg) (i k:Nat):Bool:=((ps.drop i).take k).all fun x=>decide (x.kind=0)
theorem freeB_zero (ps:List Pg) (i:Nat):freeB ps i 0=true:=by simp [freeB]
theorem freeB_succ {ps:List Pg} {i k:Nat} {x:Pg} (h:ps[i+k]?=some x):freeB ps i (k+1)=(freeB ps i k && decide (x.kind=0)):=by
 unfold freeB
 rw [take_snoc' (l:=ps.drop i) (k:=k) (x:=x) (by rw [List.getElem?_drop];exact h),List.all_append]
 simp
def takeV (ps:List Pg) (i k:Int) (x y:Pg):List Pg:=if 0<=i/\i < ps.length/\k<=ps.length - i then (if freeB ps i.toNat k.toNat then (put ps i.toNat k.toNat y).set i.toNat x else []) else []
def takeE (ps:List Pg) (i k:Int):Int:=if 0<=i/\i < ps.length/\k<=ps.length - i then (if freeB ps i.toNat k.toNat then 0 else 20) else 2
def smallPV (ps:List Pg) (i sp:Int):List Pg:=if 0<=sp/\sp<=1 then takeV ps i 1 ⟨1,sp,0,0⟩ Pg.zero else []
def smallPE (ps:List Pg) (i sp:Int):Int:=if 0<=sp/\sp<=1 then takeE ps i 1 else 1
def largePV (pw np:Int) (ps:List Pg) (i sp n:Int):List Pg:=if 1<=needV pw np n/\0<=sp/\sp<=1 then takeV ps i (needV pw np n) ⟨2,sp,n,0⟩ ⟨3,sp,0,0⟩ else []
def largePE (pw np:Int) (ps:List Pg) (i sp n:Int):Int:=if 1<=needV pw np n/\0<=sp/\sp<=1 then takeE ps i (needV pw np n) else 1
def pinsB (n:Int):Bool:=decide (0<=n/\n<=2147483647)
def stepP (pw np:Int) (x:Pg) (r:List Pg) (due:Int):Option Int :=
 if ¬(x.kind=3↔0 < due)\/x.space < 0\/1 < x.space\/pinsB x.pins=false then none
 else if x.kind=0 then (if x=Pg.zero then some (max 0 (due - 1)) else none)
 else if x.kind=1 then (if x.used < 0\/pw < x.used then none else some (max 0 (due - 1)))
 else if x.kind=2 then (if needV pw np x.used < 1\/(tails x.space r:Int) < needV pw np x.used - 1 then none else some (max 0 (needV pw np x.used - 1)))
 else if x.kind=3 then (if x.used=0/\x.pins=0 then some (max 0 (due - 1)) else none)
 else none
def properL (pw np:Int):List Pg->Int->Bool
 | [],_=>true
 | x :: r,due=>match stepP pw np x r due with | some d=>properL pw np r d | none=>false
def bumpB (ps:List Pg) (b:Int):Bool:=decide (b = -1\/(0<=b/\b < ps.length/\(ps.getD b.toNat Pg.zero).kind=1))
def properB (pw np:Int) (nw:Nat) (ps:List Pg) (sp b:Int):Bool :=
 confB pw np && decide ((nw:Int)=np*pw) && decide ((ps.length:Int)=np) && decide (0<=sp/\sp<=1) && bumpB ps b && properL pw np ps 0
theorem runStep_no {out:List (Int × Int)} {k:Int} {x:Pg} (h:¬x.kind=0):runStep out k x=out:=by unfold runStep;rw [if_neg h]
theorem runStep_nil {k:Int} {x:Pg} (h:x.kind=0):runStep [] k x=[(k,1)]:=by unfold runStep;rw [if_pos h];rfl
theorem runStep_bump {pre:List (Int × Int)} {r:Int × Int} {k:Int} {x:Pg} (h:x.kind=0) (he:r.1+r.2=k):runStep (pre ++ [r]) k x=pre ++ [(r.1,r.2+1)]:=by
 unfold runStep;rw [if_pos h];simp [he]
theorem runStep_new {pre:List (Int × Int)} {r:Int × Int} {k:Int} {x:Pg} (h:x.kind=0) (he:¬r.1+r.2=k):runStep (pre ++ [r]) k x=pre ++ [r] ++ [(k,1)]:=by
 unfold runStep;rw [if_pos h];simp [he]
theorem runsTo_step {ps:List Pg} {k:Nat} {x:Pg} (h:ps[k]?=some x):runsTo ps (k+1)=runStep (runsTo ps k) k x:=by
 rw [runsTo,h]
theorem runs_cases (out:List (Int × Int)):out=[]\/∃ pre r,out=pre ++ [r]:=by
 rcases List.eq_nil_or_concat out with h | ⟨pre,r,h⟩
 · exact Or.inl h
 · exact Or.inr ⟨pre,r,by rw [h,List.concat_eq_append]⟩
theorem runs_bd (ps:List Pg):∀ (k:Nat) (r:Int × Int),r∈runsTo ps k->0<=r.1/\1<=r.2/\r.1+r.2<=k
 | 0,r,h=>by simp [runsTo] at h
 | k+1,r,h=>by
  have ih:=runs_bd ps k
  cases hx:ps[k]? with
  | none =>
   rw [runsTo,hx] at h
   have:=ih r h;omega
  | some x =>
   rw [runsTo_step hx] at h
   by_cases h0:x.kind=0
   · rcases runs_cases (runsTo ps k) with e | ⟨pre,q,e⟩
     · rw [e,runStep_nil h0] at h
       simp at h;subst h;simp
     · rw [e] at h ih
       have hq:=ih q (by simp)
       by_cases he:q.1+q.2=k
       · rw [runStep_bump h0 he] at h
         rcases List.mem_append.1 h with h | h
         · have:=ih r (List.mem_append_left _ h);omega
         · simp at h;subst h;simp;omega
       · rw [runStep_new h0 he] at h
         rcases List.mem_append.1 h with h | h
         · have:=ih r h;omega
         · simp at h;subst h;simp
   · rw [runStep_no h0] at h
     have:=ih r h;omega
def firstFrom (k:Int):List (Int × Int)->Int
 | []=>-1
 | r :: t=>if 1<=k/\k<=r.2 then r.1 else firstFrom k t
theorem firstV_from (ps:List Pg) (k:Int):firstV ps k=firstFrom k (runsV ps):=by
 unfold firstV
 generalize runsV ps=l
 induction l with
 | nil=>rfl
 | cons r t ih =>
  rw [List.find?_cons,firstFrom]
  by_cases h:1<=k/\k<=r.2
  · rw [if_pos h];simp [h]
  · rw [if_neg h]
    have:(decide (1<=k) && decide (k<=r.2))=false:=by simp;omega
    rw [this];exact ih
theorem take_ok {ps:List Pg} {i k:Nat} {x y:Pg} (h:i < ps.length) (hk:i+k<=ps.length) (hf:freeB ps i k=true):takeV ps i k x y=(put ps i k y).set i x/\takeE ps i k=0:=by
 have hc:0<=(i:Int)/\(i:Int) < ps.length/\(k:Int)<=ps.length - i:=⟨by omega,by omega,by omega⟩
 unfold takeV takeE;rw [if_pos hc,if_pos hc,Int.toNat_natCast,Int.toNat_natCast,if_pos hf,if_pos hf];exact ⟨rfl,rfl⟩
structure Hp where
 pw:Int
 np:Int
 words:List Int
 pages:List Pg
 space:Int
 bump:Int
def Hp.zero:Hp:=⟨0,0,[],[],0,0⟩
def WB (xs:List Int):Prop:=∀ x∈xs,0<=x/\x < 18446744073709551616
theorem WB.nil:WB []:=fun x h=>by cases h
def newHV (pw np:Int):Hp:=if confB pw np then ⟨pw,np,List.replicate (np*pw).toNat 0,List.replicate np.toNat Pg.zero,0,-1⟩ else Hp.zero
def newHE (pw np:Int):Int:=if confB pw np then 0 else 1
theorem newH_ok {pw np:Int} (h:confB pw np=true):newHV pw np=⟨pw,np,List.replicate (np*pw).toNat 0,List.replicate np.toNat Pg.zero,0,-1⟩/\newHE pw np=0:=by
 unfold newHV newHE;rw [if_pos h,if_pos h];exact ⟨rfl,rfl⟩
def onesV (n:Int):Int:=2 ^ min n.toNat 64 - 1
def onesN (n:Int):Nat:=2 ^ min n.toNat 64 - 1
theorem pow_le64 (k:Nat) (h:k<=64):(2:Nat) ^ k<=18446744073709551616:=by
 have:(2:Nat) ^ k<=2 ^ 64:=Nat.pow_le_pow_right (by decide) h
 simpa using this
theorem pow_lt64 (k:Nat) (h:k < 64):(2:Nat) ^ k<=9223372036854775808:=by
 have:(2:Nat) ^ k<=2 ^ 63:=Nat.pow_le_pow_right (by decide) (by omega)
 simpa using this
theorem pow_pos2 (k:Nat):1<=(2:Nat) ^ k:=Nat.one_le_two_pow
theorem ipow_cast (k:Nat):((2 ^ k:Nat):Int)=(2:Int) ^ k:=by rw [Int.natCast_pow];rfl
theorem ipow_lt64 (k:Nat) (h:k < 64):(2:Int) ^ k<=9223372036854775808:=by
 have:=pow_lt64 k h;rw [<-ipow_cast];omega
theorem ipow_pos2 (k:Nat):1<=(2:Int) ^ k:=by
 have:=pow_pos2 k;rw [<-ipow_cast];omega
theorem onesV_cast (n:Int):onesV n=((onesN n:Nat):Int):=by
 unfold onesV onesN
 have:=pow_pos2 (min n.toNat 64)
 rw [Int.natCast_sub this]
 simp
theorem onesV_neg (n:Int) (h:n < 0):onesV n=0:=by
 unfold onesV
 have:n.toNat=0:=by omega
 simp [this]
theorem onesN_lt (n:Int):onesN n < 18446744073709551616:=by
 unfold onesN;have:=pow_le64 (min n.toNat 64) (by omega);have:=pow_pos2 (min n.toNat 64);omega
theorem shr_lt (x k:Nat) (hx:x < 18446744073709551616):x >>> k < 18446744073709551616:=by
 rw [Nat.shiftRight_eq_div_pow];exact Nat.lt_of_le_of_lt (Nat.div_le_self _ _) hx
def fitL:Int->List Int->Bool
 | _,[]=>true
 | left,x :: r=>if x < 1\/left < x then false else fitL (left - x) r
theorem fitL_no {left x:Int} {ws:List Int} {k:Nat} (hx:ws[k]?=some x) (h:x < 1\/left < x):fitL left (ws.drop k)=false:=by
 obtain ⟨hk,rfl⟩:=List.getElem?_eq_some_iff.1 hx
 rw [List.drop_eq_getElem_cons hk,fitL,if_pos h]
theorem fitL_yes {left x:Int} {ws:List Int} {k:Nat} (hx:ws[k]?=some x) (h1:¬x < 1) (h2:¬left < x):fitL left (ws.drop k)=fitL (left - x) (ws.drop (k+1)):=by
 obtain ⟨hk,rfl⟩:=List.getElem?_eq_some_iff.1 hx
 rw [List.drop_eq_getElem_cons hk,fitL,if_neg (by omega)]
theorem fitL_end {left:Int} {ws:List Int} {k:Nat} (hk:ws.length<=k):fitL left (ws.drop k)=true:=by
 rw [List.drop_eq_nil_of_le hk,fitL]
theorem fitL_cons {left x:Int} {r:List Int} (h:fitL left (x :: r)=true):1<=x/\x<=left/\fitL (left - x) r=true:=by
 rw [fitL] at h
 by_cases c:x < 1\/left < x
 · rw [if_pos c] at h;cases h
 · rw [if_neg c] at h;exact ⟨by omega,by omega,h⟩
def sumW:List Int->Nat
 | []=>0
 | x :: r=>x.toNat+sumW r
theorem fitL_sum:∀ (ws:List Int) (left:Int),0<=left->fitL left ws=true->(sumW ws:Int)<=left
 | [],_,h,_=>by simp [sumW];exact h
 | x :: r,left,h,hf=>by
  obtain ⟨h1,h2,h3⟩:=fitL_cons hf
  have:=fitL_sum r (left - x) (by omega) h3
  rw [sumW];omega
theorem fitL_mem:∀ (ws:List Int) (left:Int),0<=left->fitL left ws=true->∀ x∈ws,1<=x/\x<=left
 | [],_,_,_,x,hx=>by cases hx
 | y :: r,left,h,hf,x,hx=>by
  obtain ⟨h1,h2,h3⟩:=fitL_cons hf
  rcases List.mem_cons.1 hx with rfl | hx
  · exact ⟨h1,h2⟩
  · have:=fitL_mem r (left - y) (by omega) h3 x hx
    omega
theorem sumW_drop:∀ (k:Nat) (ws:List Int),sumW (ws.drop k)<=sumW ws
 | 0,ws=>by simp
 | _+1,[]=>by simp
 | k+1,x :: r=>by
  have:=sumW_drop k r
  rw [List.drop_succ_cons,sumW];omega
def okF (fs:List (Int × Nat)):Bool:=fs.all fun f=>decide ((f.2:Int)<=onesV f.1)
def packR:List (Int × Nat)->Nat
 | []=>0
 | f :: r=>packR r <<< f.1.toNat ||| f.2
def packB (fs:List (Int × Nat)):Int × Int:=if fitL 64 (fs.map (·.1))=true then (if okF fs=true then ((packR fs:Nat),0) else (0,2)) else (0,1)
theorem lt_pow_of_ones {v:Nat} {x:Int} (h1:x<=64) (h:(v:Int)<=onesV x):v < 2 ^ x.toNat:=by
 have e:min x.toNat 64=x.toNat:=by omega
 have hp:=pow_pos2 x.toNat
 rw [onesV_cast] at h;unfold onesN at h;rw [e] at h;omega
theorem join_lt {a b s t:Nat} (ha:a < 2 ^ s) (hb:b < 2 ^ t):a <<< t ||| b < 2 ^ (s+t):=by
 rw [<-Nat.shiftLeft_add_eq_or_of_lt hb,Nat.shiftLeft_eq,Nat.pow_add]
 calc a*2 ^ t+b < a*2 ^ t+2 ^ t:=by omega
  _=(a+1)*2 ^ t:=by rw [Nat.add_mul];omega
  _<=2 ^ s*2 ^ t:=Nat.mul_le_mul_right _ ha
theorem packR_lt:∀ (fs:List (Int × Nat)),okF fs=true->(∀ x∈fs.map (·.1),1<=x/\x<=64)->packR fs < 2 ^ sumW (fs.map (·.1))
 | [],_,_=>by simp [packR,sumW]
 | f :: r,hok,hw=>by
  simp only [okF,List.all_cons,Bool.and_eq_true,decide_eq_true_eq] at hok
  have h1:=packR_lt r hok.2 (fun x hx=>hw x (List.mem_cons_of_mem _ hx))
  have h2:=lt_pow_of_ones (hw f.1 (by simp)).2 hok.1
  have:=join_lt h1 h2
  rw [packR,List.map_cons,sumW,Nat.add_comm]
  exact this
theorem fits_all {fs:List (Int × Nat)} (hf:fitL 64 (fs.map (·.1))=true) (k:Nat):(∀ x∈(fs.drop k).map (·.1),1<=x/\x<=64)/\sumW ((fs.drop k).map (·.1))<=64:=by
 refine ⟨fun x hx=>fitL_mem _ _ (by omega) hf x ?_,?_⟩
 · rw [List.map_drop] at hx;exact List.mem_of_mem_drop hx
 · rw [List.map_drop]
   have h1:=sumW_drop k (fs.map (·.1))
   have h2:=fitL_sum _ _ (by omega) hf
   omega
theorem pack_bad {fs:List (Int × Nat)} {i:Nat} {x:Int × Nat} (hx:fs[i]?=some x) (hv:¬(x.2:Int)<=onesV x.1):okF fs=false:=by
 rw [<-Bool.not_eq_true]
 intro h
 have:=List.all_eq_true.1 h x (List.mem_of_getElem? hx)
 simp at this;exact hv this
def validB (k n m:Int):Bool:=decide (0<=k/\k<=3/\0<=n/\n<=255/\(k=1->n<=32/\m < 2 ^ n.toNat)/\(¬k=1->m=0))
theorem valid_parts {k n m:Int} (h:validB k n m=true):0<=k/\k<=3/\0<=n/\n<=255/\(k=1->n<=32/\m < 2 ^ n.toNat)/\(¬k=1->m=0):=by
 unfold validB at h;exact of_decide_eq_true h
theorem pow_le32 (n:Int) (h:n<=32):(2:Int) ^ n.toNat<=4294967296:=by
 have:(2:Nat) ^ n.toNat<=2 ^ 32:=Nat.pow_le_pow_right (by decide) (by omega)
 rw [<-ipow_cast];omega
theorem valid_map {k n m:Int} (h:validB k n m=true):m < 4294967296:=by
 obtain ⟨h1,h2,h3,h4,h5,h6⟩:=valid_parts h
 by_cases c:k=1
 · obtain ⟨h7,h8⟩:=h5 c;have:=pow_le32 n h7;omega
 · have:=h6 c;omega
def wordV (k n m:Int):Int:=1+4*k+16*n+65536*m
def encV (k n m:Int):Int:=if validB k n m then wordV k n m else 0
def dK (x:Nat):Nat:=x / 4 % 4
def dN (x:Nat):Nat:=x / 16 % 4096
def dM (x:Nat):Nat:=x / 65536 % 4294967296
def okD (x:Nat):Bool:=decide (x % 4=1) && decide (x < 281474976710656) && validB (dK x) (dN x) (dM x)
def decK (x:Nat):Int:=if okD x then dK x else 0
def decN (x:Nat):Int:=if okD x then dN x else 0
def decM (x:Nat):Int:=if okD x then dM x else 0
theorem dec_ok {x:Nat} (h:okD x=true):decK x=dK x/\decN x=dN x/\decM x=dM x:=by
 unfold decK decN decM;rw [if_pos h,if_pos h,if_pos h];exact ⟨rfl,rfl,rfl⟩
theorem okD_parts {x:Nat} (h:okD x=true):x % 4=1/\x < 281474976710656/\validB (dK x) (dN x) (dM x)=true:=by
 unfold okD at h;simp only [Bool.and_eq_true,decide_eq_true_eq] at h;exact ⟨h.1.1,h.1.2,h.2⟩
def fwdV (a:Int):Int:=if a < 4294967296 then 4*a+2 else 0
def fwdE (a:Int):Int:=if a < 4294967296 then 0 else 1
theorem fwd_ok {a:Int} (h:a < 4294967296):fwdV a=4*a+2/\fwdE a=0:=by
 unfold fwdV fwdE;rw [if_pos h,if_pos h];exact ⟨rfl,rfl⟩
def okT (x:Nat):Bool:=decide (x % 4=2) && decide (x < 17179869184)
def tgtV (x:Nat):Int:=if okT x then ((x / 4:Nat):Int) else 0
theorem okT_parts {x:Nat} (h:okT x=true):x % 4=2/\x < 17179869184:=by
 unfold okT at h;simp only [Bool.and_eq_true,decide_eq_true_eq] at h;exact h
theorem okT_mk {x:Nat} (h1:x % 4=2) (h2:x < 17179869184):okT x=true:=by
 unfold okT;simp only [Bool.and_eq_true,decide_eq_true_eq];exact ⟨h1,h2⟩
theorem apart (x:Nat):¬(okD x=true/\okT x=true):=by
 rintro ⟨h,k⟩;have:=(okD_parts h).1;have:=(okT_parts k).1;omega
def sizeV (k n m:Int):Int:=if validB k n m then n+1 else 0
theorem size_ok {k n m:Int} (h:validB k n m=true):sizeV k n m=n+1:=by unfold sizeV;rw [if_pos h]
def ptrB (k n m i:Int):Bool:=validB k n m && decide (0<=i) && decide (i < n) && (decide (k=2) || (decide (k=1) && m.toNat.testBit i.toNat))
def ptrsTo (k n m:Int) (j:Nat):List Int:=((List.range j).map Int.ofNat).filter (fun i=>ptrB k n m i)
def ptrsV (k n m:Int):List Int:=if validB k n m then ptrsTo k n m n.toNat else []
theorem ptrsTo_mem {k n m:Int} {j:Nat} {x:Int} (h:x∈ptrsTo k n m j):ptrB k n m x=true:=(List.mem_filter.1 h).2
theorem ptrsV_mem {k n m:Int} {x:Int} (h:x∈ptrsV k n m):ptrB k n m x=true:=by
 unfold ptrsV at h
 by_cases c:validB k n m=true
 · rw [if_pos c] at h;exact ptrsTo_mem h
 · rw [if_neg c] at h;cases h
def okA (len:Nat) (a:Int) (n:Nat):Bool:=decide (4096<=a/\a - 4096+n<=len)
theorem okA_off (i:Nat):((4096+(i:Int)) - 4096).toNat=i:=by omega
def indexV (len:Nat) (a:Int):Int:=if okA len a 1 then a - 4096 else 0
def indexE (len:Nat) (a:Int):Int:=if okA len a 1 then 0 else 2
def loadV (xs:List Int) (a:Int):Int:=if okA xs.length a 1 then xs.getD (a - 4096).toNat 0 else 0
def loadE (xs:List Int) (a:Int):Int:=if okA xs.length a 1 then 0 else 2
def readV (xs:List Int) (a n:Int):List Int:=if n < 0 then [] else if okA xs.length a n.toNat then (xs.drop (a - 4096).toNat).take n.toNat else []
def readE (xs:List Int) (a n:Int):Int:=if n < 0 then 1 else if okA xs.length a n.toNat then 0 else 2
def writeV (xs:List Int) (a:Int) (l:List Int):List Int:=if okA xs.length a l.length then splice xs (a - 4096).toNat l else []
def writeE (xs:List Int) (a:Int) (l:List Int):Int:=if okA xs.length a l.length then 0 else 2
def moveV (xs:List Int) (t f n:Int):List Int:=if n < 0 then [] else if okA xs.length t n.toNat/\okA xs.length f n.toNat then splice xs (t - 4096).toNat ((xs.drop (f - 4096).toNat).take n.toNat) else []
theorem nneg (n:Nat):¬((n:Int) < 0):=by omega
theorem index_ok {len i:Nat} (h:okA len (4096+(i:Int)) 1=true):indexV len (4096+(i:Int))=i/\indexE len (4096+(i:Int))=0:=by
 unfold indexV indexE;rw [if_pos h,if_pos h];exact ⟨by omega,rfl⟩
theorem read_ok {xs:List Int} {i n:Nat} (h:okA xs.length (4096+(i:Int)) n=true):readV xs (4096+(i:Int)) n=(xs.drop i).take n/\readE xs (4096+(i:Int)) n=0:=by
 unfold readV readE;rw [if_neg (nneg n),if_neg (nneg n),Int.toNat_natCast,if_pos h,if_pos h,okA_off];exact ⟨rfl,rfl⟩
theorem splice_len {xs l:List Int} {i:Nat} (h:i+l.length<=xs.length):(splice xs i l).length=xs.length:=length_splice xs i l h
theorem splice_in {xs l:List Int} {i j:Nat} (h:i+l.length<=xs.length) (h1:i<=j) (h2:j < i+l.length):(splice xs i l)[j]?=l[j - i]?:=by
 unfold splice
 have e:(xs.take i).length=i:=by rw [List.length_take];omega
 rw [List.getElem?_append_right (by omega),e,List.getElem?_append_left (by omega)]
theorem splice_out {xs l:List Int} {i j:Nat} (h:i+l.length<=xs.length) (h1:j < i\/i+l.length<=j):(splice xs i l)[j]?=xs[j]?:=by
 unfold splice
 have e:(xs.take i).length=i:=by rw [List.length_take];omega
 rcases h1 with h1 | h1
 · rw [List.getElem?_append_left (by omega),List.getElem?_take,if_pos h1]
 · rw [List.getElem?_append_right (by omega),e,List.getElem?_append_right (by omega),List.getElem?_drop]
   congr 1;omega
structure Hd where
 k:Int
 n:Int
 m:Int
 deriving DecidableEq
def Hd.zero:Hd:=⟨0,0,0⟩
def okH (h:Hp):Bool:=properB h.pw h.np h.words.length h.pages h.space h.bump
def pageOf (h:Hp) (a:Int):Pg:=h.pages.getD (ofI h.pw h.np a).toNat Pg.zero
def wordAt (h:Hp) (a:Int):Nat:=(h.words.getD (a - 4096).toNat 0).toNat
def hdOf (x:Nat):Hd:=⟨dK x,dN x,dM x⟩
def atB (h:Hp) (a:Int):Bool :=
 decide ((pageOf h a).kind=1\/(pageOf h a).kind=2) && decide (ofK h.pw h.np a < (pageOf h a).used) && okD (wordAt h a) &&
 (if (pageOf h a).kind=1 then decide (ofK h.pw h.np a+(dN (wordAt h a)+1)<=(pageOf h a).used) else decide (ofK h.pw h.np a=0/\(dN (wordAt h a):Int)+1=(pageOf h a).used))
def atE (h:Hp) (a:Int):Int:=if okH h then (if ofE h.pw h.np a=0 then (if atB h a then 0 else 19) else 2) else 1
def atH (h:Hp) (a:Int):Hd:=if atE h a=0 then hdOf (wordAt h a) else Hd.zero
def getE (h:Hp) (a:Int):Int:=if okH h then (if a=0 then 5 else if atE h a=0/\(atH h a).k=0 then 4 else atE h a) else 1
def getH (h:Hp) (a:Int):Hd:=if getE h a=0 then atH h a else Hd.zero
def fieldE (h:Hp) (a i:Int):Int:=if getE h a=0 then (if i < 0\/(getH h a).n<=i then 2 else loadE h.words (a+1+i)) else getE h a
def setV (h:Hp) (a i v:Int):Hp:=if fieldE h a i=0 then { h with words:=writeV h.words (a+1+i) [v] } else Hp.zero
theorem okH_parts {h:Hp} (hp:okH h=true):confB h.pw h.np=true/\(h.words.length:Int)=h.np*h.pw/\(h.pages.length:Int)=h.np/\0<=h.space/\h.space<=1/\bumpB h.pages h.bump=true/\properL h.pw h.np h.pages 0=true:=by
 unfold okH properB at hp
 simp only [Bool.and_eq_true,decide_eq_true_eq] at hp
 obtain ⟨⟨⟨⟨⟨h1,h2⟩,h3⟩,h4⟩,h5⟩,h6⟩:=hp
 exact ⟨h1,h2,h3,h4.1,h4.2,h5,h6⟩
theorem properL_mem (pw np:Int):∀ (ps:List Pg) (due:Int),properL pw np ps due=true->∀ x∈ps,0<=x.space/\x.space<=1/\0<=x.pins/\x.pins<=2147483647/\(x.kind=0->x=Pg.zero)/\(x.kind=1->0<=x.used/\x.used<=pw)/\(x.kind=2->1<=needV pw np x.used)/\(x.kind=3->x.used=0/\x.pins=0)/\(x.kind=0\/x.kind=1\/x.kind=2\/x.kind=3)
 | [],_,_,x,hx=>by cases hx
 | y :: r,due,h,x,hx=>by
  rw [properL] at h
  cases hs:stepP pw np y r due with
  | none=>rw [hs] at h;cases h
  | some d =>
   rw [hs] at h
   rcases List.mem_cons.1 hx with rfl | hx
   · unfold stepP at hs
     split at hs
     · cases hs
     · rename_i hA
       have h1:0<=x.space:=by omega
       have h2:x.space<=1:=by omega
       have h3:pinsB x.pins=true:=by
        cases hp:pinsB x.pins
        · exact absurd (Or.inr (Or.inr (Or.inr hp))) hA
        · rfl
       have h4:=of_decide_eq_true h3
       refine ⟨h1,h2,h4.1,h4.2,?_⟩
       split at hs
       · rename_i k
         refine ⟨fun _=>?_,fun c=>by omega,fun c=>by omega,fun c=>by omega,Or.inl k⟩
         split at hs
         · assumption
         · cases hs
       · split at hs
         · rename_i k
           refine ⟨fun c=>by omega,fun _=>?_,fun c=>by omega,fun c=>by omega,Or.inr (Or.inl k)⟩
           split at hs
           · cases hs
           · omega
         · split at hs
           · rename_i k
             refine ⟨fun c=>by omega,fun c=>by omega,fun _=>?_,fun c=>by omega,Or.inr (Or.inr (Or.inl k))⟩
             split at hs
             · cases hs
             · omega
           · split at hs
             · rename_i k
               refine ⟨fun c=>by omega,fun c=>by omega,fun c=>by omega,fun _=>?_,Or.inr (Or.inr (Or.inr k))⟩
               split at hs
               · assumption
               · cases hs
             · cases hs
   · exact properL_mem pw np r d h x hx
theorem of_in {h:Hp} {a:Int} (hp:okH h=true) (he:ofE h.pw h.np a=0):inAr h.pw h.np a=true/\(∃ i j:Nat,ofI h.pw h.np a=i/\ofK h.pw h.np a=j/\i < h.pages.length/\(j:Int) < h.pw/\a=4096+i*h.pw+j)/\(∃ t:Nat,a=4096+t/\t < h.words.length):=by
 obtain ⟨h1,h2,h3,_⟩:=okH_parts hp
 have hc:=conf_parts h1
 have hin:inAr h.pw h.np a=true:=by
  cases hi:inAr h.pw h.np a
  · rw [(of_out h1 hi).2.2] at he;cases he
  · rfl
 obtain ⟨e1,e2,_⟩:=of_ok h1 hin
 obtain ⟨b1,b2⟩:=of_decide_eq_true hin
 have m1:=Int.emod_nonneg (a - 4096) (show h.pw≠0 by omega)
 have m2:=Int.emod_lt_of_pos (a - 4096) (show 0 < h.pw by omega)
 have d1:0<=(a - 4096) / h.pw:=Int.ediv_nonneg (by omega) (by omega)
 have d2:(a - 4096) / h.pw < h.np:=Int.ediv_lt_of_lt_mul (by omega) (by omega)
 have de:=Int.mul_ediv_add_emod (a - 4096) h.pw
 refine ⟨hin,⟨((a - 4096) / h.pw).toNat,((a - 4096) % h.pw).toNat,by rw [e1];omega,by rw [e2];omega,by omega,by omega,?_⟩,⟨(a - 4096).toNat,by omega,by omega⟩⟩
 rw [Int.toNat_of_nonneg d1,Int.toNat_of_nonneg m1,Int.mul_comm]
 omega
theorem atE_out {h:Hp} {a:Int} (h1:okH h=true) (h2:¬ofE h.pw h.np a=0):atE h a=2/\atH h a=Hd.zero:=by
 have e:atE h a=2:=by unfold atE;rw [if_pos h1,if_neg h2]
 exact ⟨e,by unfold atH;rw [if_neg (by rw [e];decide)]⟩
theorem atE_no {h:Hp} {a:Int} (h1:okH h=true) (h2:ofE h.pw h.np a=0) (h3:atB h a=false):atE h a=19/\atH h a=Hd.zero:=by
 have e:atE h a=19:=by unfold atE;rw [if_pos h1,if_pos h2,if_neg (by simp [h3])]
 exact ⟨e,by unfold atH;rw [if_neg (by rw [e];decide)]⟩
theorem atE_ok {h:Hp} {a:Int} (h1:okH h=true) (h2:ofE h.pw h.np a=0) (h3:atB h a=true):atE h a=0/\atH h a=hdOf (wordAt h a):=by
 have e:atE h a=0:=by unfold atE;rw [if_pos h1,if_pos h2,if_pos h3]
 exact ⟨e,by unfold atH;rw [if_pos e]⟩
theorem getE_zero {h:Hp} {a:Int} (e:¬getE h a=0):getH h a=Hd.zero:=by unfold getH;rw [if_neg e]
theorem getE_bad {h:Hp} {a:Int} (h1:okH h=false):getE h a=1/\getH h a=Hd.zero:=by
 have e:getE h a=1:=by unfold getE;rw [if_neg (by simp [h1])]
 exact ⟨e,getE_zero (by rw [e];decide)⟩
theorem getE_null {h:Hp} (h1:okH h=true):getE h 0=5/\getH h 0=Hd.zero:=by
 have e:getE h 0=5:=by unfold getE;rw [if_pos h1,if_pos rfl]
 exact ⟨e,getE_zero (by rw [e];decide)⟩
theorem getE_kind {h:Hp} {a:Int} (h1:okH h=true) (h2:¬a=0) (h3:atE h a=0) (h4:(atH h a).k=0):getE h a=4/\getH h a=Hd.zero:=by
 have e:getE h a=4:=by unfold getE;rw [if_pos h1,if_neg h2,if_pos ⟨h3,h4⟩]
 exact ⟨e,getE_zero (by rw [e];decide)⟩
theorem getE_at {h:Hp} {a:Int} (h1:okH h=true) (h2:¬a=0) (h3:¬(atE h a=0/\(atH h a).k=0)):getE h a=atE h a/\getH h a=atH h a:=by
 have e:getE h a=atE h a:=by unfold getE;rw [if_pos h1,if_neg h2,if_neg h3]
 refine ⟨e,?_⟩
 unfold getH
 by_cases h4:getE h a=0
 · rw [if_pos h4]
 · rw [if_neg h4];rw [e] at h4;unfold atH;rw [if_neg h4]
theorem getE_in {h:Hp} {a:Int} (e:getE h a=0):okH h=true/\atE h a=0/\getH h a=atH h a/\ofE h.pw h.np a=0/\atB h a=true/\4096<=a/\a < 8192/\0<=(getH h a).n/\(getH h a).n<=255/\¬(getH h a).k=0:=by
 have h1:okH h=true:=by
  cases h1:okH h
  · rw [(getE_bad (a:=a) h1).1] at e;cases e
  · rfl
 have h2:¬a=0:=by intro h2;subst h2;rw [(getE_null h1).1] at e;cases e
 have h3:¬(atE h a=0/\(atH h a).k=0):=by rintro ⟨h3,h4⟩;rw [(getE_kind h1 h2 h3 h4).1] at e;cases e
 obtain ⟨e1,e2⟩:=getE_at h1 h2 h3
 have h4:atE h a=0:=by rw [<-e1];exact e
 have h5:ofE h.pw h.np a=0:=by
  by_cases h5:ofE h.pw h.np a=0
  · exact h5
  · rw [(atE_out h1 h5).1] at h4;cases h4
 have h6:atB h a=true:=by
  cases h6:atB h a
  · rw [(atE_no h1 h5 h6).1] at h4;cases h4
  · rfl
 obtain ⟨hin,_,t,ht,htl⟩:=of_in h1 h5
 obtain ⟨g1,g2,_⟩:=okH_parts h1
 have:=(conf_prod g1).2
 have hok:okD (wordAt h a)=true:=by
  unfold atB at h6
  simp only [Bool.and_eq_true] at h6
  exact h6.1.2
 have hv:=valid_parts (okD_parts hok).2.2
 have hH:getH h a=hdOf (wordAt h a):=by rw [e2,(atE_ok h1 h5 h6).2]
 refine ⟨h1,h4,e2,h5,h6,by omega,by omega,?_,?_,?_⟩
 · rw [hH];exact hv.2.2.1
 · rw [hH];exact hv.2.2.2.1
 · rw [e2];intro c;exact h3 ⟨h4,c⟩
def initL (k n m:Int):List Int:=wordV k n m :: List.replicate n.toNat 0
def initE (h:Hp) (a k n m:Int):Int:=if validB k n m=true/\okH h=true then writeE h.words a (initL k n m) else 1
def initV (h:Hp) (a k n m:Int):Hp:=if initE h a k n m=0 then { h with words:=writeV h.words a (initL k n m) } else Hp.zero
theorem initL_len {k n m:Int}:(initL k n m).length=n.toNat+1:=by unfold initL;rw [List.length_cons,List.length_replicate]
def fieldsV (h:Hp) (a:Int):List Int:=if getE h a=0 then readV h.words (a+1) (getH h a).n else []
theorem at_in {h:Hp} {a:Int} (e:atE h a=0):okH h=true/\validB (atH h a).k (atH h a).n (atH h a).m=true/\0<=(atH h a).m/\(atH h a).m < 4294967296/\0<=(atH h a).n/\(atH h a).n<=255:=by
 have h1:okH h=true:=by
  cases h1:okH h
  · unfold atE at e;rw [h1] at e;simp at e
  · rfl
 have h5:ofE h.pw h.np a=0:=by
  by_cases h5:ofE h.pw h.np a=0
  · exact h5
  · rw [(atE_out h1 h5).1] at e;cases e
 have h6:atB h a=true:=by
  cases h6:atB h a
  · rw [(atE_no h1 h5 h6).1] at e;cases e
  · rfl
 have hok:okD (wordAt h a)=true:=by
  unfold atB at h6
  simp only [Bool.and_eq_true] at h6
  exact h6.1.2
 have hv:=(okD_parts hok).2.2
 have hp:=valid_parts hv
 have hm:=valid_map hv
 rw [(atE_ok h1 h5 h6).2]
 exact ⟨h1,hv,Int.natCast_nonneg _,hm,hp.2.2.1,hp.2.2.2.1⟩
def walkP (h:Hp) (i:Int) (big:Bool) (u o:Nat):Option (List Int) :=
 if _hlt:o < u then
  if atE h (addrV h.pw h.np i o)=0 then
   if big then some [addrV h.pw h.np i o]
   else (walkP h i big u (o+((atH h (addrV h.pw h.np i o)).n.toNat+1))).map (addrV h.pw h.np i o :: ·)
  else none
 else some []
 termination_by u - o
theorem walk_end {h:Hp} {i:Int} {big:Bool} {u o:Nat} (hlt:¬o < u):walkP h i big u o=some []:=by
 rw [walkP,dif_neg hlt]
theorem walk_bad {h:Hp} {i:Int} {big:Bool} {u o:Nat} (hlt:o < u) (e:¬atE h (addrV h.pw h.np i o)=0):walkP h i big u o=none:=by
 rw [walkP,dif_pos hlt,if_neg e]
theorem walk_big {h:Hp} {i:Int} {u o:Nat} (hlt:o < u) (e:atE h (addrV h.pw h.np i o)=0):walkP h i true u o=some [addrV h.pw h.np i o]:=by
 rw [walkP,dif_pos hlt,if_pos e,if_pos rfl]
theorem walk_step {h:Hp} {i:Int} {u o:Nat} (hlt:o < u) (e:atE h (addrV h.pw h.np i o)=0):walkP h i false u o=(walkP h i false u (o+((atH h (addrV h.pw h.np i o)).n.toNat+1))).map (addrV h.pw h.np i o :: ·):=by
 rw [walkP,dif_pos hlt,if_pos e,if_neg (by decide)]
def Walked (h:Hp) (i:Int) (big:Bool) (u o:Nat) (acc:List Int):Prop:=walkP h i big u 0=(walkP h i big u o).map (acc ++ ·)
theorem Walked.start (h:Hp) (i:Int) (big:Bool) (u:Nat):Walked h i big u 0 []:=by
 unfold Walked;cases walkP h i big u 0 <;> simp
theorem Walked.fin {h:Hp} {i:Int} {big:Bool} {u o:Nat} {acc:List Int} (hw:Walked h i big u o acc) (hlt:¬o < u):walkP h i big u 0=some acc:=by
 unfold Walked at hw;rw [hw,walk_end hlt];simp
theorem Walked.bad {h:Hp} {i:Int} {big:Bool} {u o:Nat} {acc:List Int} (hw:Walked h i big u o acc) (hlt:o < u) (e:¬atE h (addrV h.pw h.np i o)=0):walkP h i big u 0=none:=by
 unfold Walked at hw;rw [hw,walk_bad hlt e];rfl
theorem Walked.big {h:Hp} {i:Int} {u o:Nat} {acc:List Int} (hw:Walked h i true u o acc) (hlt:o < u) (e:atE h (addrV h.pw h.np i o)=0):walkP h i true u 0=some (acc ++ [addrV h.pw h.np i o]):=by
 unfold Walked at hw;rw [hw,walk_big hlt e];rfl
theorem Walked.step {h:Hp} {i:Int} {u o:Nat} {acc:List Int} (hw:Walked h i false u o acc) (hlt:o < u) (e:atE h (addrV h.pw h.np i o)=0):Walked h i false u (o+((atH h (addrV h.pw h.np i o)).n.toNat+1)) (acc ++ [addrV h.pw h.np i o]):=by
 unfold Walked at hw ⊢;rw [hw,walk_step hlt e]
 cases walkP h i false u (o+((atH h (addrV h.pw h.np i o)).n.toNat+1)) <;> simp
def pgAt (h:Hp) (i:Int):Pg:=h.pages.getD i.toNat Pg.zero
def pageW (h:Hp) (i:Int):Option (List Int):=walkP h i (decide ((pgAt h i).kind=2)) (pgAt h i).used.toNat 0
def pageE (h:Hp) (i:Int):Int:=if okH h then (if i < 0\/h.pages.length<=i then 2 else if (pgAt h i).kind=0\/(pgAt h i).kind=3 then 0 else if (pageW h i).isSome then 0 else 19) else 1
def pageV (h:Hp) (i:Int):List Int:=if okH h then (if i < 0\/h.pages.length<=i then [] else if (pgAt h i).kind=0\/(pgAt h i).kind=3 then [] else (pageW h i).getD []) else []
theorem page_out {h:Hp} {i:Int} (h1:okH h=true) (h2:i < 0\/h.pages.length<=i):pageE h i=2/\pageV h i=[]:=by
 unfold pageE pageV;rw [if_pos h1,if_pos h1,if_pos h2,if_pos h2];exact ⟨rfl,rfl⟩
theorem page_none {h:Hp} {i:Int} (h1:okH h=true) (h2:¬(i < 0\/h.pages.length<=i)) (h3:(pgAt h i).kind=0\/(pgAt h i).kind=3):pageE h i=0/\pageV h i=[]:=by
 unfold pageE pageV;rw [if_pos h1,if_pos h1,if_neg h2,if_neg h2,if_pos h3,if_pos h3];exact ⟨rfl,rfl⟩
theorem page_walk {h:Hp} {i:Int} (h1:okH h=true) (h2:¬(i < 0\/h.pages.length<=i)) (h3:¬((pgAt h i).kind=0\/(pgAt h i).kind=3)):pageE h i=(if (pageW h i).isSome then 0 else 19)/\pageV h i=(pageW h i).getD []:=by
 unfold pageE pageV;rw [if_pos h1,if_pos h1,if_neg h2,if_neg h2,if_neg h3,if_neg h3];exact ⟨rfl,rfl⟩
def pageX (h:Hp) (i o:Int):Int:=loadV h.words (addrV h.pw h.np i o)
theorem walk_len (h:Hp) (i:Int) (u:Nat):∀ (f o:Nat) (l:List Int),u - o<=f->walkP h i false u o=some l->l.length<=u - o
 | 0,o,l,hf,hl=>by
  rw [walk_end (by omega)] at hl;cases hl;simp
 | f+1,o,l,hf,hl=>by
  by_cases hlt:o < u
  · by_cases e:atE h (addrV h.pw h.np i o)=0
    · rw [walk_step hlt e] at hl
      cases hr:walkP h i false u (o+((atH h (addrV h.pw h.np i o)).n.toNat+1)) with
      | none=>rw [hr] at hl;cases hl
      | some r =>
       rw [hr] at hl;cases hl
       have:=walk_len h i u f _ r (by omega) hr
       rw [List.length_cons];omega
    · rw [walk_bad hlt e] at hl;cases hl
  · rw [walk_end hlt] at hl;cases hl;simp
theorem pageV_len {h:Hp} {i:Int} (h1:okH h=true):(pageV h i).length<=64:=by
 by_cases h2:i < 0\/h.pages.length<=i
 · rw [(page_out h1 h2).2];simp
 · by_cases h3:(pgAt h i).kind=0\/(pgAt h i).kind=3
   · rw [(page_none h1 h2 h3).2];simp
   · rw [(page_walk h1 h2 h3).2]
     cases hw:pageW h i with
     | none=>simp
     | some l =>
      rw [Option.getD_some]
      unfold pageW at hw
      by_cases h4:(pgAt h i).kind=2
      · rw [decide_eq_true h4] at hw
        by_cases hlt:0 < (pgAt h i).used.toNat
        · by_cases e:atE h (addrV h.pw h.np i ((0:Nat):Int))=0
          · rw [walk_big hlt e] at hw;cases hw;simp
          · rw [walk_bad hlt e] at hw;cases hw
        · rw [walk_end hlt] at hw;cases hw;simp
      · rw [decide_eq_false h4] at hw
        have hlen:=walk_len h i _ _ _ _ (Nat.le_refl _) hw
        obtain ⟨g1,-,-,-,-,-,hL⟩:=okH_parts h1
        have hpw:=(conf_parts g1).2.1
        have hil:i.toNat < h.pages.length:=by omega
        have hmem:pgAt h i∈h.pages:=by
         unfold pgAt;rw [getD_at (List.getElem?_eq_getElem hil)];exact List.getElem_mem hil
        obtain ⟨-,-,-,-,-,k1,-,-,hk⟩:=properL_mem _ _ _ _ hL _ hmem
        have:=k1 (by omega)
        omega
def startsTo (h:Hp) (k:Nat):List Int:=(List.range k).flatMap (fun (j:Nat)=>pageV h j)
def startsB (h:Hp):Bool:=(List.range h.pages.length).all (fun (j:Nat)=>decide (pageE h j=0))
def startsV (h:Hp):List Int:=if okH h then (if startsB h then startsTo h h.pages.length else []) else []
theorem startsTo_succ (h:Hp) (k:Nat):startsTo h (k+1)=startsTo h k ++ pageV h k:=by
 unfold startsTo;rw [List.range_succ,List.flatMap_append];simp
theorem startsTo_len {h:Hp} (h1:okH h=true):∀ k,(startsTo h k).length<=64*k
 | 0=>by simp [startsTo]
 | k+1=>by
  rw [startsTo_succ,List.length_append]
  have:=startsTo_len h1 k
  have:=pageV_len (i:=k) h1
  omega
theorem startsV_len (h:Hp):(startsV h).length<=4096:=by
 unfold startsV
 split
 · rename_i h1
   split
   · have:=startsTo_len h1 h.pages.length
     obtain ⟨g1,_,g3,_⟩:=okH_parts h1
     have:=(conf_parts g1).2.2.2.2
     omega
   · simp
 · simp
def objsOf (h:Hp) (l:List Int):List Int:=l.filter (fun a=>decide (¬(atH h a).k=0))
def objectsV (h:Hp):List Int:=objsOf h (startsV h)
def findD (P:Int->Bool):List Int->Int
 | []=>0
 | x :: r=>if P x then x else findD P r
def clsB (h:Hp) (i:Nat) (x:Int):Bool :=
 (decide ((pgAt h i).kind=1) && !decide (sizeV (atH h x).k (atH h x).n (atH h x).m<=smallV h.pw h.np)) || (decide ((pgAt h i).kind=2) && decide ((atH h x).k=0))
def clsV (h:Hp) (i:Nat) (l:List Int):Int:=findD (clsB h i) l
def headAt (ps:List Pg):Nat->Nat
 | 0=>0
 | j+1=>if (ps.getD (j+1) Pg.zero).kind=3 then headAt ps j else j+1
def usedZ (h:Hp) (x:Int):Int:=if (atH h x).k=0 then 1 else sizeV (atH h x).k (atH h x).n (atH h x).m
def usedB (h:Hp) (i:Nat) (l:List Int) (t:Nat):Bool:=l.any fun x=>decide (x - 4096 - (i:Int)*h.pw<=t/\(t:Int) < x - 4096 - (i:Int)*h.pw+usedZ h x)
def usedV (h:Hp) (i:Nat) (l:List Int):List Bool:=(List.range h.pw.toNat).map (usedB h i l)
theorem walk_at (h:Hp) (i:Int) (big:Bool) (u:Nat):∀ (f o:Nat) (l:List Int),u - o<=f->walkP h i big u o=some l->∀ x∈l,atE h x=0/\∃ o':Nat,o<=o'/\o' < u/\x=addrV h.pw h.np i o'
 | 0,o,l,hf,hl,x,hx=>by
  rw [walk_end (by omega)] at hl;cases hl;cases hx
 | f+1,o,l,hf,hl,x,hx=>by
  by_cases hlt:o < u
  · by_cases e:atE h (addrV h.pw h.np i o)=0
    · cases big
      · rw [walk_step hlt e] at hl
        cases hr:walkP h i false u (o+((atH h (addrV h.pw h.np i o)).n.toNat+1)) with
        | none=>rw [hr] at hl;cases hl
        | some r =>
         rw [hr] at hl;cases hl
         rcases List.mem_cons.1 hx with rfl | hx
         · exact ⟨e,o,Nat.le_refl _,hlt,rfl⟩
         · obtain ⟨a,o',b1,b2,b3⟩:=walk_at h i false u f _ r (by omega) hr x hx
           exact ⟨a,o',by omega,b2,b3⟩
      · rw [walk_big hlt e] at hl;cases hl
        rw [List.mem_singleton.1 hx];exact ⟨e,o,Nat.le_refl _,hlt,rfl⟩
    · rw [walk_bad hlt e] at hl;cases hl
  · rw [walk_end hlt] at hl;cases hl;cases hx
theorem pageV_at {h:Hp} {i:Int} {x:Int} (hx:x∈pageV h i):atE h x=0:=by
 unfold pageV at hx
 split at hx
 · split at hx
   · cases hx
   · split at hx
     · cases hx
     · cases hw:pageW h i with
       | none=>rw [hw] at hx;cases hx
       | some l =>
        rw [hw] at hx
        exact (walk_at h i _ _ _ _ l (Nat.le_refl _) hw x hx).1
 · cases hx
theorem at_bd {h:Hp} {x:Int} (e:atE h x=0):4096<=x/\x < 8192:=by
 have h1:=(at_in e).1
 have h5:ofE h.pw h.np x=0:=by
  by_cases h5:ofE h.pw h.np x=0
  · exact h5
  · rw [(atE_out h1 h5).1] at e;cases e
 obtain ⟨-,-,t,ht,htl⟩:=of_in h1 h5
 obtain ⟨k1,k2,-⟩:=okH_parts h1
 have:=(conf_prod k1).2
 omega
theorem startsV_at {h:Hp} {x:Int} (hx:x∈startsV h):atE h x=0:=by
 unfold startsV at hx
 split at hx
 · split at hx
   · unfold startsTo at hx
     obtain ⟨j,-,hj⟩:=List.mem_flatMap.1 hx
     exact pageV_at hj
   · cases hx
 · cases hx
theorem objectsV_at {h:Hp} {x:Int} (hx:x∈objectsV h):atE h x=0/\¬(atH h x).k=0:=by
 unfold objectsV objsOf at hx
 obtain ⟨h1,h2⟩:=List.mem_filter.1 hx
 exact ⟨startsV_at h1,of_decide_eq_true h2⟩
def dirtGo (h:Hp) (i:Nat):Nat->List Bool->Int
 | _,[]=>0
 | k,b :: r=>if b=false/\¬pageX h i k=0 then 4096+(i:Int)*h.pw+k else dirtGo h i (k+1) r
def dirtV (h:Hp) (i:Nat):Int:=dirtGo h i 0 (usedV h i (pageV h (headAt h.pages i)))
structure Fd where
 fault:Int
 page:Int
 addr:Int
 deriving DecidableEq
def Fd.none:Fd:=⟨0,0,0⟩
def pageF (h:Hp) (i:Nat):Fd :=
 if ¬(pgAt h i).kind=0/\¬(pgAt h i).space=h.space then ⟨2,i,0⟩
 else if ¬pageE h i=0 then ⟨3,i,0⟩
 else if ¬clsV h i (pageV h i)=0 then ⟨5,i,clsV h i (pageV h i)⟩
 else if ¬dirtV h i=0 then ⟨4,i,dirtV h i⟩ else Fd.none
def badFrom (all:List Int) (x:Hd):Nat->List Int->Option Nat
 | _,[]=>none
 | k,f :: r=>if ptrB x.k x.n x.m k=true/\¬f=0/\¬f∈all then some k else badFrom all x (k+1) r
def ptrFd (h:Hp) (a:Int):Fd:=⟨6,ofI h.pw h.np a,a⟩
def ptrsGo (h:Hp) (all:List Int):List Int->Fd
 | []=>Fd.none
 | x :: r=>match badFrom all (getH h x) 0 (fieldsV h x) with | some k=>ptrFd h (x+1+k) | none=>ptrsGo h all r
def pointersF (h:Hp):Fd:=ptrsGo h (objectsV h) (objectsV h)
def pagesFrom (h:Hp):Nat->Nat->Fd
 | _,0=>Fd.none
 | i,n+1=>if ¬(pageF h i).fault=0 then pageF h i else pagesFrom h (i+1) n
def crowdN:List Pg->Nat
 | []=>0
 | x :: r=>(if x.kind=1/\0 < x.pins then 1 else 0)+crowdN r
def checkF (h:Hp):Fd :=
 if okH h then
  (if ¬(pagesFrom h 0 h.pages.length).fault=0 then pagesFrom h 0 h.pages.length
   else if ¬(pointersF h).fault=0 then pointersF h
   else if h.np / 4 < crowdN h.pages then ⟨7,0,0⟩ else Fd.none)
 else ⟨1,0,0⟩
def goodB (h:Hp):Bool:=decide ((checkF h).fault=0)
def refersB (h:Hp) (l:List Int):Bool:=goodB h && l.all fun x=>decide (x=0\/x∈objectsV h)
def asksB (pw np k n m:Int):Bool:=validB k n m && decide (¬k=0) && decide (¬needV pw np (sizeV k n m) = -1)
theorem runs_free (ps:List Pg):∀ (k:Nat) (r:Int × Int),r∈runsTo ps k->∀ t:Nat,r.1<=t->(t:Int) < r.1+r.2->∃ x,ps[t]?=some x/\x.kind=0
 | 0,r,h=>by simp [runsTo] at h
 | k+1,r,h=>by
  have ih:=runs_free ps k
  cases hx:ps[k]? with
  | none=>rw [runsTo,hx] at h;exact ih r h
  | some x =>
   rw [runsTo_step hx] at h
   by_cases h0:x.kind=0
   · rcases runs_cases (runsTo ps k) with e | ⟨pre,q,e⟩
     · rw [e,runStep_nil h0] at h
       simp at h;subst h
       intro t h1 h2
       obtain rfl:t=k:=by simp only at h1 h2;omega
       exact ⟨x,hx,h0⟩
     · by_cases he:q.1+q.2=k
       · rw [e,runStep_bump h0 he] at h
         rcases List.mem_append.1 h with h | h
         · exact ih r (by rw [e];exact List.mem_append_left _ h)
         · simp at h;subst h
           intro t h1 h2
           by_cases ht:t=k
           · subst ht;exact ⟨x,hx,h0⟩
           · exact ih q (by rw [e];simp) t h1 (by simp only at h2;omega)
       · rw [e,runStep_new h0 he] at h
         rcases List.mem_append.1 h with h | h
         · exact ih r (by rw [e];exact h)
         · simp at h;subst h
           intro t h1 h2
           obtain rfl:t=k:=by simp only at h1 h2;omega
           exact ⟨x,hx,h0⟩
   · rw [runStep_no h0] at h;exact ih r h
theorem firstFrom_mem {k:Int}:∀ l:List (Int × Int),firstFrom k l = -1\/∃ r∈l,firstFrom k l=r.1/\1<=k/\k<=r.2
 | []=>Or.inl rfl
 | r :: t=>by
  unfold firstFrom
  split
  · rename_i h;exact Or.inr ⟨r,by simp,rfl,h⟩
  · rcases firstFrom_mem t with h | ⟨q,hq,h⟩
    · exact Or.inl h
    · exact Or.inr ⟨q,by simp [hq],h⟩
theorem first_spec {ps:List Pg} {k:Int} (h:0<=firstV ps k):1<=k/\firstV ps k+k<=ps.length/\∀ t:Nat,firstV ps k<=t->(t:Int) < firstV ps k+k->∃ x,ps[t]?=some x/\x.kind=0:=by
 rw [firstV_from] at h ⊢
 rcases firstFrom_mem (k:=k) (runsV ps) with e | ⟨r,hr,e,h1,h2⟩
 · omega
 · rw [e]
   have hb:=runs_bd ps ps.length r hr
   exact ⟨h1,by omega,fun t a b=>runs_free ps ps.length r hr t a (by omega)⟩
def bumpPg (h:Hp):Pg:=h.pages.getD h.bump.toNat Pg.zero
def newB (h:Hp) (n:Int):Bool:=decide (h.bump < 0\/¬(bumpPg h).space=h.space\/h.pw < (bumpPg h).used+n\/limitV h.pw h.np < inUse h.pages)
def smallFull (h:Hp):Bool:=decide (firstV h.pages 1 < 0\/limitV h.pw h.np<=inUse h.pages)
def smallOKB (h:Hp) (n:Int):Bool:=!(newB h n && smallFull h)
def smallJ (h:Hp) (n:Int):Int:=if newB h n then firstV h.pages 1 else h.bump
def smallPs (h:Hp) (n:Int):List Pg:=if newB h n then smallPV h.pages (firstV h.pages 1) h.space else h.pages
def useAt (ps:List Pg) (j:Nat) (n:Int):List Pg:=ps.set j ⟨(ps.getD j Pg.zero).kind,(ps.getD j Pg.zero).space,(ps.getD j Pg.zero).used+n,(ps.getD j Pg.zero).pins⟩
def smallH (h:Hp) (n:Int):Hp:={ h with pages:=useAt (smallPs h n) (smallJ h n).toNat n,bump:=smallJ h n }
def smallA (h:Hp) (n:Int):Int:=4096+smallJ h n*h.pw+((smallPs h n).getD (smallJ h n).toNat Pg.zero).used
def largeOKB (h:Hp) (k:Int):Bool:=decide (¬(firstV h.pages k < 0\/limitV h.pw h.np < inUse h.pages+k))
def largeH (h:Hp) (n k:Int):Hp:={ h with pages:=largePV h.pw h.np h.pages (firstV h.pages k) h.space n }
def largeA (h:Hp) (k:Int):Int:=4096+firstV h.pages k*h.pw
theorem largeP_ok {pw np:Int} {ps:List Pg} {i sp n:Int} (h:1<=needV pw np n/\0<=sp/\sp<=1):largePV pw np ps i sp n=takeV ps i (needV pw np n) ⟨2,sp,n,0⟩ ⟨3,sp,0,0⟩/\largePE pw np ps i sp n=takeE ps i (needV pw np n):=by
 unfold largePV largePE;rw [if_pos h,if_pos h];exact ⟨rfl,rfl⟩
theorem small_spec {h:Hp} {n:Int} (h1:okH h=true) (hok:smallOKB h n=true) :
 ∃ j:Nat,∃ x:Pg,smallJ h n=j/\j < h.pages.length/\(smallPs h n).length=h.pages.length/\(smallPs h n)[j]?=some x/\x.kind=1/\0<=x.used/\x.used<=h.pw/\x.space=h.space /\
  ((newB h n=true/\smallPs h n=h.pages.set j ⟨1,h.space,0,0⟩/\x=⟨1,h.space,0,0⟩/\smallPE h.pages (firstV h.pages 1) h.space=0/\∃ y,h.pages[j]?=some y/\y.kind=0)\/(newB h n=false/\smallPs h n=h.pages/\x.used+n<=h.pw)):=by
 obtain ⟨g1,g2,g3,g4,g5,g6,g7⟩:=okH_parts h1
 obtain ⟨k1,k2,-,k4,k5⟩:=conf_parts g1
 unfold smallOKB at hok
 cases hn:newB h n
 · have hd:=of_decide_eq_false hn
   have hb0:0<=h.bump:=by omega
   have hbb:=of_decide_eq_true g6
   have hbs:h.bump < h.pages.length/\(h.pages.getD h.bump.toNat Pg.zero).kind=1:=by
    rcases hbb with h | h
    · omega
    · exact ⟨h.2.1,h.2.2⟩
   have hx:h.pages[h.bump.toNat]?=some (h.pages[h.bump.toNat]'(by omega)):=List.getElem?_eq_getElem _
   have hgd:=getD_at hx
   have hmem:=properL_mem _ _ _ _ g7 _ (List.mem_of_getElem? hx)
   rw [hgd] at hbs
   have hbp:bumpPg h=h.pages[h.bump.toNat]'(by omega):=hgd
   rw [hbp] at hd
   refine ⟨h.bump.toNat,h.pages[h.bump.toNat]'(by omega),by unfold smallJ;rw [hn];simp;omega,by omega,by unfold smallPs;rw [hn];rfl,by unfold smallPs;rw [hn];exact hx,hbs.2,(hmem.2.2.2.2.2.1 hbs.2).1,(hmem.2.2.2.2.2.1 hbs.2).2,?_,Or.inr ⟨rfl,by unfold smallPs;rw [hn];rfl,by omega⟩⟩
   have:¬¬(h.pages[h.bump.toNat]'(by omega)).space=h.space:=fun c=>hd (Or.inr (Or.inl c))
   exact Classical.not_not.1 this
 · rw [hn,Bool.true_and] at hok
   have hf:smallFull h=false:=by simpa using hok
   have hd:=of_decide_eq_false hf
   have hF:0<=firstV h.pages 1:=by omega
   obtain ⟨-,f1,f2⟩:=first_spec hF
   obtain ⟨y,hy,hy0⟩:=f2 (firstV h.pages 1).toNat (by omega) (by omega)
   have hlt:(firstV h.pages 1).toNat < h.pages.length:=(List.getElem?_eq_some_iff.1 hy).1
   have hfree:freeB h.pages (firstV h.pages 1).toNat 1=true:=by
    have:=freeB_succ (ps:=h.pages) (i:=(firstV h.pages 1).toNat) (k:=0) (x:=y) (by rw [Nat.add_zero];exact hy)
    rw [freeB_zero,hy0] at this;simpa using this
   obtain ⟨t1,t2⟩:=take_ok (x:=⟨1,h.space,0,0⟩) (y:=Pg.zero) hlt (show (firstV h.pages 1).toNat+1<=h.pages.length by omega) hfree
   have eF:(((firstV h.pages 1).toNat:Nat):Int)=firstV h.pages 1:=by omega
   rw [eF] at t1 t2
   have hps:smallPs h n=h.pages.set (firstV h.pages 1).toNat ⟨1,h.space,0,0⟩:=by
    unfold smallPs smallPV
    rw [hn,if_pos rfl,if_pos ⟨g4,g5⟩]
    rw [show ((1:Nat):Int)=1 from rfl] at t1
    rw [t1]
    apply List.ext_getElem?
    intro i
    have hl:(put h.pages (firstV h.pages 1).toNat 1 Pg.zero).length=h.pages.length:=put_len (by omega)
    rw [List.getElem?_set,List.getElem?_set,hl]
    split
    · rfl
    · rw [put_get (by omega) (by omega)]
   have hpe:smallPE h.pages (firstV h.pages 1) h.space=0:=by
    unfold smallPE;rw [if_pos ⟨g4,g5⟩];exact t2
   refine ⟨(firstV h.pages 1).toNat,⟨1,h.space,0,0⟩,by unfold smallJ;rw [hn];exact eF.symm,hlt,by rw [hps,List.length_set],by rw [hps,List.getElem?_set];simp [hlt],rfl,by simp,by simp only;omega,rfl,Or.inl ⟨rfl,hps,rfl,hpe,y,hy,hy0⟩⟩
theorem needV_ge (pw np n:Int) : -1<=needV pw np n:=by
 unfold needV needP
 repeat' split
 all_goals omega
def newAsk (h:Hp) (k n m:Int):Bool:=okH h && asksB h.pw h.np k n m
def newBig (h:Hp) (k n m:Int):Bool:=decide (0 < needV h.pw h.np (sizeV k n m))
def newRoom (h:Hp) (k n m:Int):Bool:=if newBig h k n m then largeOKB h (needV h.pw h.np (sizeV k n m)) else smallOKB h (sizeV k n m)
def newOutH (h:Hp) (k n m:Int):Hp:=if newBig h k n m then largeH h (sizeV k n m) (needV h.pw h.np (sizeV k n m)) else smallH h (sizeV k n m)
def newOutA (h:Hp) (k n m:Int):Int:=if newBig h k n m then largeA h (needV h.pw h.np (sizeV k n m)) else smallA h (sizeV k n m)
def allocE (h:Hp) (k n m:Int):Int:=if newAsk h k n m then (if newRoom h k n m then 0 else 3) else 1
def allocH (h:Hp) (k n m:Int):Hp:=if allocE h k n m=0 then initV (newOutH h k n m) (newOutA h k n m) k n m else Hp.zero
def allocA (h:Hp) (k n m:Int):Int:=if allocE h k n m=0 then newOutA h k n m else 0
structure Wk where
 h:Hp
 old:List Int
 taken:List Int
 queue:List Int
 sc:Int
 r0:Int
 r1:Int
 r2:Int
 r3:Int
 r4:Int
 r5:Int
def Wk.zero:Wk:=⟨Hp.zero,[],[],[],0,0,0,0,0,0,0⟩
def promB (x:Wk) (i:Int):Bool:=match x.h.pages[i.toNat]? with
 | some g=>decide (0<=i) && (decide (g.kind=1) && !decide (g.space=x.h.space) && !decide (i∈x.taken))
 | none=>false
def keepW (x:Wk) (a:Int):Wk:={ x with queue:=x.queue ++ [a],r1:=wrap64 (x.r1+1) }
theorem smallPV_first {ps:List Pg} {sp:Int} (h0:0<=sp) (h1:sp<=1) (hF:0<=firstV ps 1) :
 (firstV ps 1).toNat < ps.length/\smallPV ps (firstV ps 1) sp=ps.set (firstV ps 1).toNat ⟨1,sp,0,0⟩/\∃ y,ps[(firstV ps 1).toNat]?=some y/\y.kind=0:=by
 obtain ⟨-,f1,f2⟩:=first_spec hF
 obtain ⟨y,hy,hy0⟩:=f2 (firstV ps 1).toNat (by omega) (by omega)
 have hlt:(firstV ps 1).toNat < ps.length:=(List.getElem?_eq_some_iff.1 hy).1
 have hfree:freeB ps (firstV ps 1).toNat 1=true:=by
  have:=freeB_succ (ps:=ps) (i:=(firstV ps 1).toNat) (k:=0) (x:=y) (by rw [Nat.add_zero];exact hy)
  rw [freeB_zero,hy0] at this;simpa using this
 obtain ⟨t1,t2⟩:=take_ok (x:=⟨1,sp,0,0⟩) (y:=Pg.zero) hlt (show (firstV ps 1).toNat+1<=ps.length by omega) hfree
 have eF:(((firstV ps 1).toNat:Nat):Int)=firstV ps 1:=by omega
 rw [eF] at t1 t2
 refine ⟨hlt,?_,y,hy,hy0⟩
 unfold smallPV
 rw [if_pos ⟨h0,h1⟩]
 rw [show ((1:Nat):Int)=1 from rfl] at t1
 rw [t1]
 apply List.ext_getElem?
 intro i
 have hl:(put ps (firstV ps 1).toNat 1 Pg.zero).length=ps.length:=put_len (by omega)
 rw [List.getElem?_set,List.getElem?_set,hl]
 split
 · rfl
 · rw [put_get (by omega) (by omega)]
def reuseB (x:Wk) (n:Int):Bool:=match x.taken.getLast? with | some l=>decide ((x.h.pages.getD l.toNat Pg.zero).used+n<=x.h.pw) | none=>false
def plJ (x:Wk) (n:Int):Int:=if reuseB x n then x.taken.getLast?.getD (-1) else firstV x.h.pages 1
def plB (x:Wk) (n:Int):Bool:=reuseB x n || decide (0<=firstV x.h.pages 1)
def plPs (x:Wk) (n:Int):List Pg:=if reuseB x n then x.h.pages else smallPV x.h.pages (firstV x.h.pages 1) (1 - x.h.space)
def plT (x:Wk) (n:Int):List Int:=if reuseB x n then x.taken else x.taken ++ [firstV x.h.pages 1]
def plW (x:Wk) (n:Int):Wk:={ x with h:={ x.h with pages:=useAt (plPs x n) (plJ x n).toNat n },taken:=plT x n }
def plA (x:Wk) (n:Int):Int:=4096+plJ x n*x.h.pw+((plPs x n).getD (plJ x n).toNat Pg.zero).used
structure PlOK (x:Wk):Prop where
 pw0:16<=x.h.pw
 pw1:x.h.pw<=64
 np0:1<=x.h.pages.length
 np1:x.h.pages.length<=64
 sp0:0<=x.h.space
 sp1:x.h.space<=1
 tk:x.taken.length<=1000
 last:∀ l,x.taken.getLast?=some l->∃ k:Nat,l=k/\∃ g,x.h.pages[k]?=some g/\0<=g.used/\g.used<=x.h.pw
theorem place_spec {x:Wk} {n:Int} (hx:PlOK x) (hb:plB x n=true) :
 ∃ j:Nat,∃ y:Pg,plJ x n=j/\j < x.h.pages.length/\(plPs x n).length=x.h.pages.length/\(plPs x n)[j]?=some y/\0<=y.used/\y.used<=x.h.pw /\
  ((reuseB x n=true/\plPs x n=x.h.pages/\x.taken.getLast?=some (j:Int)/\y.used+n<=x.h.pw)\/(reuseB x n=false/\firstV x.h.pages 1=j/\plPs x n=x.h.pages.set j ⟨1,1 - x.h.space,0,0⟩/\y=⟨1,1 - x.h.space,0,0⟩/\∃ z,x.h.pages[j]?=some z/\z.kind=0)):=by
 cases hr:reuseB x n
 · unfold plB at hb
   rw [hr,Bool.false_or] at hb
   have hF:=of_decide_eq_true hb
   have s0:=hx.sp0
   have s1:=hx.sp1
   have p0:=hx.pw0
   obtain ⟨f1,f2,z,f3,f4⟩:=smallPV_first (ps:=x.h.pages) (sp:=1 - x.h.space) (by omega) (by omega) hF
   have e1:plPs x n=x.h.pages.set (firstV x.h.pages 1).toNat ⟨1,1 - x.h.space,0,0⟩:=by unfold plPs;rw [hr];exact f2
   refine ⟨(firstV x.h.pages 1).toNat,⟨1,1 - x.h.space,0,0⟩,by unfold plJ;rw [hr];simp;omega,f1,by rw [e1,List.length_set],by rw [e1,List.getElem?_set,if_pos rfl,if_pos f1],by simp,by simp only;omega,Or.inr ⟨rfl,by omega,e1,rfl,z,f3,f4⟩⟩
 · have h1:=hr
   unfold reuseB at h1
   cases hl:x.taken.getLast? with
   | none=>rw [hl] at h1;cases h1
   | some l =>
    rw [hl] at h1
    obtain ⟨k,rfl,g,g1,g2,g3⟩:=hx.last l hl
    have hk:=(List.getElem?_eq_some_iff.1 g1).1
    have h2:=of_decide_eq_true h1
    rw [Int.toNat_natCast,getD_at g1] at h2
    have e1:plPs x n=x.h.pages:=by unfold plPs;rw [hr];rfl
    exact ⟨k,g,by unfold plJ;rw [hr,hl];rfl,hk,by rw [e1],by rw [e1];exact g1,g2,g3,Or.inl ⟨rfl,e1,rfl,h2⟩⟩
def evWd (x:Wk) (a:Int):Int:=loadV x.h.words a
def evI (x:Wk) (a:Int):Int:=ofI x.h.pw x.h.np a
def evN (x:Wk) (a:Int):Int:=sizeV (decK (evWd x a).toNat) (decN (evWd x a).toNat) (decM (evWd x a).toNat)
def evBig (x:Wk) (a:Int):Bool:=decide ((x.h.pages.getD (evI x a).toNat Pg.zero).kind=2)
def spc (ps:List Pg) (i k:Nat) (sp:Int):List Pg:=ps.mapIdx fun j y=>if i<=j/\j < k then ⟨y.kind,sp,y.used,y.pins⟩ else y
def tailEnd (ps:List Pg) (i:Nat):Nat:=i+1+((ps.drop (i+1)).takeWhile fun y=>decide (y.kind=3)).length
def largeW (x:Wk) (i:Nat):Wk:={ x with h:={ x.h with pages:=spc x.h.pages i (tailEnd x.h.pages i) (1 - x.h.space) } }
def copyWd (x:Wk) (a:Int):List Int:=writeV (moveV x.h.words (plA x (evN x a)) a (evN x a)) a [fwdV (plA x (evN x a))]
def copyW (x:Wk) (a:Int):Wk:={ plW x (evN x a) with h:={ (plW x (evN x a)).h with words:=copyWd x a },queue:=x.queue ++ [plA x (evN x a)],r0:=wrap64 (x.r0+1) }
def evC (x:Wk) (a:Int):Nat :=
 if a=0\/a∈x.queue then 0 else if ¬a∈x.old then 1 else if okT (evWd x a).toNat then 2
 else if ¬ofE x.h.pw x.h.np a=0\/(x.h.pages.length:Int)<=evI x a then 3
 else if promB x (evI x a) then 4 else if evBig x a then 5 else if plB x (evN x a) then 7 else 6
def evE (x:Wk) (a:Int):Int:=match evC x a with | 1=>19 | 3=>19 | 6=>3 | _=>0
def evA (x:Wk) (a:Int):Int:=match evC x a with | 0=>a | 2=>tgtV (evWd x a).toNat | 4=>a | 5=>a | 7=>plA x (evN x a) | _=>0
def evW (x:Wk) (a:Int):Wk:=match evC x a with | 0=>x | 2=>x | 4=>keepW x a | 5=>keepW (largeW x (evI x a).toNat) a | 7=>copyW x a | _=>Wk.zero
def evH (x:Wk) (a:Int):Hd:=⟨decK (evWd x a).toNat,decN (evWd x a).toNat,decM (evWd x a).toNat⟩
structure FwOK (x:Wk):Prop where
 pl:PlOK x
 wl:x.h.words.length<=100000
 ql:x.queue.length<=1000000
def stNext (x:Wk) (A:Int):Wk:={ evW x (loadV x.h.words A) with h:={ (evW x (loadV x.h.words A)).h with words:=writeV (evW x (loadV x.h.words A)).h.words A [evA x (loadV x.h.words A)] } }
def stGo:Wk->Int->List Int->Wk × Int
 | x,_,[]=>(x,0)
 | x,A,i :: r=>if evE x (loadV x.h.words (A+1+i))=0 then stGo (stNext x (A+1+i)) A r else (Wk.zero,evE x (loadV x.h.words (A+1+i)))
def StOK:Wk->Int->List Int->Prop
 | _,_,[]=>True
 | x,A,i :: r=>FwOK x/\(evE x (loadV x.h.words (A+1+i))=0->StOK (stNext x (A+1+i)) A r)
def stL (x:Wk) (A:Int):List Int:=ptrsV (evH x A).k (evH x A).n (evH x A).m
def stW (x:Wk) (A:Int):Wk:={ (stGo x A (stL x A)).1 with sc:=wrap64 ((stGo x A (stL x A)).1.sc+1),r5:=wrap64 (wrap64 ((stGo x A (stL x A)).1.r5+1)+(stL x A).length) }
def stE (x:Wk) (A:Int):Int:=(stGo x A (stL x A)).2
def allV:Nat->Wk->Wk × Int
 | 0,x=>(x,0)
 | f+1,x=>match x.queue[x.sc.toNat]? with
  | none=>(x,0)
  | some A=>if stE x A=0 then allV f (stW x A) else (Wk.zero,stE x A)
def AllOK:Nat->Wk->Prop
 | 0,_=>False
 | f+1,x=>∃ k:Nat,x.sc=k/\k<=1000000/\(x.queue[k]?=none\/∃ A,x.queue[k]?=some A/\0<=A/\A<=1000000/\x.h.words.length<=100000/\StOK x A (stL x A)/\(stE x A=0->(stW x A).sc=((k+1:Nat):Int)/\AllOK f (stW x A)))
theorem allV_end {f:Nat} {x:Wk} {k:Nat} (hk:x.sc=k) (h:x.queue[k]?=none):allV (f+1) x=(x,0):=by
 unfold allV;rw [hk,Int.toNat_natCast,h]
theorem allV_go {f:Nat} {x:Wk} {k:Nat} {A:Int} (hk:x.sc=k) (h:x.queue[k]?=some A):allV (f+1) x=if stE x A=0 then allV f (stW x A) else (Wk.zero,stE x A):=by
 rw [allV,hk,Int.toNat_natCast,h]
def allTails (sp:Int) (l:List Pg):Bool:=l.all fun t=>decide (t.kind=3/\t.space=sp)
def dueAt (pw np:Int) (ps:List Pg):Nat->Int
 | 0=>0
 | i+1=>if (ps.getD i Pg.zero).kind=2 then max 0 (needV pw np (ps.getD i Pg.zero).used - 1) else max 0 (dueAt pw np ps i - 1)
theorem tails_ge (sp:Int):∀ (l:List Pg) (m:Nat),m<=tails sp l↔(m<=l.length/\allTails sp (l.take m)=true)
 | [],m=>by
  rw [tails]
  constructor
  · intro h;obtain rfl:m=0:=by omega
    exact ⟨Nat.le_refl _,rfl⟩
  · rintro ⟨h,-⟩;exact h
 | x :: r,0=>by simp [allTails]
 | x :: r,m+1=>by
  rw [tails,List.take_succ_cons,List.length_cons]
  have ih:=tails_ge sp r m
  have e:allTails sp (x :: r.take m)=(decide (x.kind=3/\x.space=sp) && allTails sp (r.take m)):=rfl
  rw [e,Bool.and_eq_true,decide_eq_true_eq]
  by_cases h:x.kind=3/\x.space=sp
  · rw [if_pos h]
    constructor
    · intro a
      obtain ⟨a1,a2⟩:=ih.1 (by omega)
      exact ⟨by omega,h,a2⟩
    · rintro ⟨a1,-,a2⟩
      have:=ih.2 ⟨by omega,a2⟩
      omega
  · rw [if_neg h]
    constructor
    · intro a;omega
    · rintro ⟨-,a,-⟩;exact absurd a h
theorem due_step {pw np:Int} {ps:List Pg} {i:Nat} {x:Pg} (hx:ps[i]?=some x) {r:List Pg} {d:Int} (h:stepP pw np x r (dueAt pw np ps i)=some d):d=dueAt pw np ps (i+1):=by
 rw [dueAt,getD_at hx]
 unfold stepP at h
 split at h
 · cases h
 · split at h
   · rename_i k0
     rw [if_neg (by omega)]
     split at h
     · exact (Option.some.inj h).symm
     · cases h
   · split at h
     · rename_i k1
       rw [if_neg (by omega)]
       split at h
       · cases h
       · exact (Option.some.inj h).symm
     · split at h
       · rename_i k2
         rw [if_pos k2]
         split at h
         · cases h
         · exact (Option.some.inj h).symm
       · rename_i k2
         rw [if_neg k2]
         split at h
         · split at h
           · exact (Option.some.inj h).symm
           · cases h
         · cases h
theorem proper_at {pw np:Int} {ps:List Pg} (h:properL pw np ps 0=true):∀ i,i<=ps.length->properL pw np (ps.drop i) (dueAt pw np ps i)=true
 | 0,_=>by rw [List.drop_zero];exact h
 | i+1,hi=>by
  have ih:=proper_at h i (by omega)
  have hx:ps[i]?=some (ps[i]'(by omega)):=List.getElem?_eq_getElem _
  rw [List.drop_eq_getElem_cons (by omega),properL] at ih
  cases hs:stepP pw np (ps[i]'(by omega)) (ps.drop (i+1)) (dueAt pw np ps i) with
  | none=>rw [hs] at ih;cases ih
  | some d=>rw [hs] at ih;rw [<-due_step hx hs];exact ih
def osz (h:Hp) (a:Int):Int:=(atH h a).n+1
def pspan (h:Hp) (g:Pg):Int:=if g.kind=2 then needV h.pw h.np g.used else 1
theorem need_fits {pw np n:Int} (h:1<=needV pw np n):n<=needV pw np n*pw/\needV pw np n<=4/\confB pw np=true/\1<=n:=by
 by_cases hc:confB pw np=true/\1<=n
 · rw [need_ok hc.1 hc.2] at h ⊢
   refine ⟨?_,?_,hc.1,hc.2⟩
   · unfold needP at h ⊢
     repeat' split
     all_goals first | omega | (exfalso;simp_all)
   · unfold needP at h ⊢
     repeat' split
     all_goals omega
 · rw [need_no (by
    by_cases h1:confB pw np=true
    · right;have:¬1<=n:=fun h2=>hc ⟨h1,h2⟩;omega
    · left;simpa using h1)] at h
   omega
theorem large_tails {pw np:Int} {ps:List Pg} (h:properL pw np ps 0=true) {i:Nat} {g:Pg} (hg:ps[i]?=some g) (hk:g.kind=2) :
 1<=needV pw np g.used/\(i:Int)+needV pw np g.used<=ps.length/\∀ t:Nat,i < t->(t:Int) < i+needV pw np g.used->∃ y,ps[t]?=some y/\y.kind=3/\y.space=g.space:=by
 have hi:i < ps.length:=(List.getElem?_eq_some_iff.1 hg).1
 have h1:=proper_at h i (by omega)
 have e:ps.drop i=g :: ps.drop (i+1):=by
  obtain ⟨hlt,rfl⟩:=List.getElem?_eq_some_iff.1 hg
  exact List.drop_eq_getElem_cons hlt
 rw [e,properL] at h1
 have h2:¬(needV pw np g.used < 1\/(tails g.space (ps.drop (i+1)):Int) < needV pw np g.used - 1):=by
  intro hb
  have:stepP pw np g (ps.drop (i+1)) (dueAt pw np ps i)=none:=by
   unfold stepP
   split
   · rfl
   · rw [if_neg (by omega:¬g.kind=0),if_neg (by omega:¬g.kind=1)]
  rw [this] at h1;cases h1
 have h3:(needV pw np g.used - 1).toNat<=tails g.space (ps.drop (i+1)):=by omega
 obtain ⟨h4,h5⟩:=(tails_ge _ _ _).1 h3
 rw [List.length_drop] at h4
 refine ⟨by omega,by omega,fun t ht ht2=>?_⟩
 have h6:t < ps.length:=by omega
 refine ⟨ps[t],List.getElem?_eq_getElem h6,?_⟩
 unfold allTails at h5
 rw [List.all_eq_true] at h5
 have h7:=h5 ps[t] (by
  rw [List.mem_iff_getElem?]
  refine ⟨t - (i+1),?_⟩
  rw [List.getElem?_take,if_pos (by omega),List.getElem?_drop]
  rw [show i+1+(t - (i+1))=t from by omega,List.getElem?_eq_getElem h6])
 exact of_decide_eq_true h7
structure Begins (h:Hp) (a:Int) (i j:Nat) (g:Pg):Prop where
 ok:okH h=true
 oi:ofI h.pw h.np a=i
 il:i < h.pages.length
 jl:(j:Int) < h.pw
 ad:a=4096+i*h.pw+j
 pg:h.pages[i]?=some g
 od:okD (wordAt h a)=true
 hd:atH h a=hdOf (wordAt h a)
 sz:osz h a=dN (wordAt h a)+1
 kd:(g.kind=1/\j+osz h a<=g.used/\g.used<=h.pw)\/(g.kind=2/\j=0/\osz h a=g.used/\1<=needV h.pw h.np g.used)
 wl:a+osz h a<=4096+h.words.length
theorem begins {h:Hp} {a:Int} (e:atE h a=0):∃ i j g,Begins h a i j g:=by
 have h1:okH h=true:=by
  cases h1:okH h
  · unfold atE at e;rw [h1] at e;simp at e
  · rfl
 have h5:ofE h.pw h.np a=0:=by
  by_cases h5:ofE h.pw h.np a=0
  · exact h5
  · unfold atE at e;rw [if_pos h1,if_neg h5] at e;cases e
 have h6:atB h a=true:=by
  cases h6:atB h a
  · unfold atE at e;rw [if_pos h1,if_pos h5,h6] at e;simp at e
  · rfl
 obtain ⟨hin,⟨i,j,e1,e2,hi,hj,ha⟩,t,ht,htl⟩:=of_in h1 h5
 have hg:h.pages[i]?=some h.pages[i]:=List.getElem?_eq_getElem hi
 have hp:pageOf h a=h.pages[i]:=by unfold pageOf;rw [e1,Int.toNat_natCast];exact getD_at hg
 have hh:atH h a=hdOf (wordAt h a):=by unfold atH;rw [if_pos e]
 have hz:osz h a=dN (wordAt h a)+1:=by unfold osz;rw [hh];rfl
 unfold atB at h6
 rw [hp,e2] at h6
 simp only [Bool.and_eq_true,decide_eq_true_eq] at h6
 obtain ⟨⟨⟨k1,k2⟩,k3⟩,k4⟩:=h6
 obtain ⟨c1,c2,c3,c4,c5,c6,c7⟩:=okH_parts h1
 obtain ⟨p1,p2,p3,p4,p5⟩:=conf_parts c1
 have hm:=properL_mem _ _ _ _ c7 _ (List.mem_of_getElem? hg)
 have pp:=page_prod (p:=i) c1 (by omega) (by omega)
 have kd:(h.pages[i].kind=1/\j+osz h a<=h.pages[i].used/\h.pages[i].used<=h.pw)\/(h.pages[i].kind=2/\j=0/\osz h a=h.pages[i].used/\1<=needV h.pw h.np h.pages[i].used):=by
  rcases k1 with k1 | k1
  · left
    rw [if_pos k1] at k4
    have:=of_decide_eq_true k4
    have h9:=hm.2.2.2.2.2.1 k1
    refine ⟨k1,by rw [hz];omega,h9.2⟩
  · right
    rw [if_neg (by omega)] at k4
    obtain ⟨m1,m2⟩:=of_decide_eq_true k4
    refine ⟨k1,by omega,by rw [hz];exact m2,hm.2.2.2.2.2.2.1 k1⟩
 refine ⟨i,j,h.pages[i],h1,e1,hi,hj,ha,hg,k3,hh,hz,kd,?_⟩
 rcases kd with ⟨k,l,m⟩ | ⟨k,l,m,n⟩
 · omega
 · obtain ⟨t1,t2,t3⟩:=large_tails c7 hg k
   obtain ⟨f1,f2,-⟩:=need_fits n
   have:(i:Int)*h.pw+needV h.pw h.np h.pages[i].used*h.pw<=h.np*h.pw:=by
    rw [<-Int.add_mul];exact Int.mul_le_mul_of_nonneg_right (by omega) (by omega)
   omega
theorem Begins.pos {h:Hp} {a:Int} {i j:Nat} {g:Pg} (b:Begins h a i j g):1<=osz h a/\4096<=a:=by
 obtain ⟨c1,c2,c3,c4,c5,c6,c7⟩:=okH_parts b.ok
 obtain ⟨p1,p2,p3,p4,p5⟩:=conf_parts c1
 have pp:=page_prod (p:=i) c1 (by omega) (by have:=b.il;omega)
 have:=b.sz
 have:=b.ad
 omega
theorem Begins.upto {h:Hp} {a:Int} {i j:Nat} {g:Pg} (b:Begins h a i j g):1<=pspan h g/\4096+(i:Int)*h.pw<=a/\a+osz h a<=4096+((i:Int)+pspan h g)*h.pw/\∀ t:Nat,i < t->(t:Int) < i+pspan h g->∃ y,h.pages[t]?=some y/\y.kind=3:=by
 obtain ⟨c1,c2,c3,c4,c5,c6,c7⟩:=okH_parts b.ok
 obtain ⟨p1,p2,p3,p4,p5⟩:=conf_parts c1
 have ha:=b.ad
 rw [Int.add_mul]
 rcases b.kd with ⟨k,l,m⟩ | ⟨k,l,m,n⟩
 · have e:pspan h g=1:=by unfold pspan;rw [if_neg (by omega)]
   rw [e,Int.one_mul]
   exact ⟨by omega,by omega,by omega,fun t h1 h2=>by omega⟩
 · have e:pspan h g=needV h.pw h.np g.used:=by unfold pspan;rw [if_pos k]
   obtain ⟨f1,f2,-⟩:=need_fits n
   obtain ⟨t1,t2,t3⟩:=large_tails c7 b.pg k
   rw [e]
   refine ⟨by omega,by omega,by omega,fun t h1 h2=>?_⟩
   obtain ⟨y,h3,h4,-⟩:=t3 t h1 h2
   exact ⟨y,h3,h4⟩
theorem begins_apart {h:Hp} {a b:Int} {i j k l:Nat} {g f:Pg} (ha:Begins h a i j g) (hb:Begins h b k l f) (hik:i < k):a+osz h a<=b:=by
 obtain ⟨u1,u2,u3,u4⟩:=ha.upto
 obtain ⟨v1,v2,v3,v4⟩:=hb.upto
 obtain ⟨c1,-⟩:=okH_parts ha.ok
 obtain ⟨p1,p2,p3,p4,p5⟩:=conf_parts c1
 have h1:¬(k:Int) < i+pspan h g:=fun hlt=>by
  obtain ⟨y,y1,y2⟩:=u4 k hik hlt
  rw [hb.pg] at y1
  injection y1 with y1
  subst y1
  rcases hb.kd with ⟨z,-⟩ | ⟨z,-⟩ <;> omega
 have:((i:Int)+pspan h g)*h.pw<=(k:Int)*h.pw:=Int.mul_le_mul_of_nonneg_right (by omega) (by omega)
 omega
theorem begins_free {h:Hp} {a:Int} {i j:Nat} {g:Pg} (ha:Begins h a i j g) {k:Nat} {f:Pg} (hf:h.pages[k]?=some f) (hk:f.kind=0):a+osz h a<=4096+(k:Int)*h.pw\/4096+(k:Int)*h.pw+h.pw<=a:=by
 obtain ⟨u1,u2,u3,u4⟩:=ha.upto
 obtain ⟨c1,-⟩:=okH_parts ha.ok
 obtain ⟨p1,p2,p3,p4,p5⟩:=conf_parts c1
 have hne:i≠k:=fun e=>by
  subst e
  have:=ha.pg
  rw [hf] at this
  injection this with this
  subst this
  rcases ha.kd with ⟨z,-⟩ | ⟨z,-⟩ <;> omega
 by_cases hik:i < k
 · left
   have h1:¬(k:Int) < i+pspan h g:=fun hlt=>by
    obtain ⟨y,y1,y2⟩:=u4 k hik hlt
    rw [hf] at y1
    injection y1 with y1
    subst y1
    omega
   have:((i:Int)+pspan h g)*h.pw<=(k:Int)*h.pw:=Int.mul_le_mul_of_nonneg_right (by omega) (by omega)
   omega
 · right
   have e1:((k:Int)+1)*h.pw<=(i:Int)*h.pw:=Int.mul_le_mul_of_nonneg_right (by omega) (by omega)
   rw [Int.add_mul,Int.one_mul] at e1
   omega
theorem walk_sorted (h:Hp) (i:Nat) (u:Nat) (hc:confB h.pw h.np=true) (hi:(i:Int) < h.np) (hu:(u:Int)<=h.pw):∀ (f o:Nat) (l:List Int),u - o<=f->walkP h i false u o=some l ->
 (∀ a∈l,4096+(i:Int)*h.pw+o<=a)/\l.Pairwise (fun a b=>a+osz h a<=b)
 | f,o,l,hf,hl=>by
  by_cases hlt:o < u
  · have he:atE h (addrV h.pw h.np i o)=0:=by
     by_cases he:atE h (addrV h.pw h.np i o)=0
     · exact he
     · rw [walk_bad hlt he] at hl;cases hl
    have hA:addrV h.pw h.np i o=4096+(i:Int)*h.pw+o:=(addr_ok hc (by unfold inPg;exact decide_eq_true (by omega))).1
    rw [walk_step hlt he] at hl
    obtain ⟨l2,hl2,rfl⟩:=Option.map_eq_some_iff.1 hl
    match f,hf with
    | f+1,hf =>
     have hn:=(at_in he).2.2.2.2.1
     obtain ⟨s1,s2⟩:=walk_sorted h i u hc hi hu f _ l2 (by omega) hl2
     refine ⟨fun a ha=>?_,List.pairwise_cons.2 ⟨fun b hb=>?_,s2⟩⟩
     · rcases List.mem_cons.1 ha with rfl | ha
       · omega
       · have:=s1 a ha;omega
     · have:=s1 b hb
       unfold osz
       omega
    | 0,hf=>omega
  · rw [walk_end hlt] at hl
    obtain rfl:=Option.some.inj hl
    exact ⟨fun a ha=>(by cases ha),List.Pairwise.nil⟩
theorem pageV_sorted {h:Hp} (h1:okH h=true) (i:Nat) (hi:i < h.pages.length):(pageV h i).Pairwise (fun a b=>a+osz h a<=b)/\∀ a∈pageV h i,∃ j g,Begins h a i j g:=by
 obtain ⟨c1,c2,c3,c4,c5,c6,c7⟩:=okH_parts h1
 obtain ⟨p1,p2,p3,p4,p5⟩:=conf_parts c1
 have hg:h.pages[i]?=some h.pages[i]:=List.getElem?_eq_getElem hi
 have hpg:pgAt h i=h.pages[i]:=by unfold pgAt;rw [Int.toNat_natCast];exact getD_at hg
 have hm:=properL_mem _ _ _ _ c7 _ (List.mem_of_getElem? hg)
 have hno:¬((i:Int) < 0\/(h.pages.length:Int)<=i):=by omega
 by_cases h3:(pgAt h i).kind=0\/(pgAt h i).kind=3
 · rw [(page_none h1 hno h3).2]
   exact ⟨List.Pairwise.nil,fun a ha=>by cases ha⟩
 · rw [(page_walk h1 hno h3).2]
   rw [hpg] at h3
   have hk:h.pages[i].kind=1\/h.pages[i].kind=2:=by omega
   cases hw:pageW h i with
   | none=>exact ⟨List.Pairwise.nil,fun a ha=>by cases ha⟩
   | some l =>
    rw [Option.getD_some]
    unfold pageW at hw
    rw [hpg] at hw
    have hat:=walk_at h i _ _ _ 0 l (Nat.le_refl _) hw
    have hbg:∀ a∈l,∃ j g,Begins h a i j g:=fun a ha=>by
     obtain ⟨e1,o,o1,o2,o3⟩:=hat a ha
     obtain ⟨i2,j,g,hb⟩:=begins e1
     have hi2:i2=i:=by
      have h4:=hb.oi
      rw [o3] at h4
      cases hpi:inPg h.pw h.np i o with
      | false =>
       have h8:=(addr_out c1 hpi).1
       have:=hb.pos.2
       omega
      | true =>
       obtain ⟨a1,a2,a3⟩:=of_addr c1 hpi
       rw [(addr_ok c1 hpi).1,(of_ok c1 a1).1,a2] at h4
       omega
     subst hi2
     exact ⟨j,g,hb⟩
    refine ⟨?_,hbg⟩
    rcases hk with hk | hk
    · rw [show decide (h.pages[i].kind=2)=false from decide_eq_false (by omega)] at hw
      have h9:=hm.2.2.2.2.2.1 hk
      exact (walk_sorted h i _ c1 (by omega) (by omega) _ 0 l (Nat.le_refl _) hw).2
    · rw [show decide (h.pages[i].kind=2)=true from decide_eq_true hk] at hw
      by_cases hlt:0 < h.pages[i].used.toNat
      · by_cases he:atE h (addrV h.pw h.np i ((0:Nat):Int))=0
        · rw [walk_big hlt he] at hw
          obtain rfl:=Option.some.inj hw
          exact List.pairwise_singleton _ _
        · rw [walk_bad hlt he] at hw;cases hw
      · rw [walk_end hlt] at hw
        obtain rfl:=Option.some.inj hw
        exact List.Pairwise.nil
theorem startsTo_sorted {h:Hp} (h1:okH h=true):∀ k:Nat,k<=h.pages.length->(startsTo h k).Pairwise (fun a b=>a+osz h a<=b)/\∀ a∈startsTo h k,∃ i j g,i < k/\Begins h a i j g
 | 0,_=>by
  have:startsTo h 0=[]:=rfl
  rw [this];exact ⟨List.Pairwise.nil,fun a ha=>by cases ha⟩
 | k+1,hk=>by
  obtain ⟨s1,s2⟩:=startsTo_sorted h1 k (by omega)
  obtain ⟨t1,t2⟩:=pageV_sorted h1 k (by omega)
  rw [startsTo_succ]
  refine ⟨List.pairwise_append.2 ⟨s1,t1,fun a ha b hb=>?_⟩,fun a ha=>?_⟩
  · obtain ⟨i,j,g,hi,hba⟩:=s2 a ha
    obtain ⟨l,f,hbb⟩:=t2 b hb
    exact begins_apart hba hbb hi
  · rcases List.mem_append.1 ha with ha | ha
    · obtain ⟨i,j,g,hi,hba⟩:=s2 a ha
      exact ⟨i,j,g,by omega,hba⟩
    · obtain ⟨j,g,hba⟩:=t2 a ha
      exact ⟨k,j,g,by omega,hba⟩
theorem objects_sorted (h:Hp):(objectsV h).Pairwise (fun a b=>a+osz h a<=b):=by
 unfold objectsV objsOf
 refine List.Pairwise.filter _ ?_
 unfold startsV
 by_cases h1:okH h=true
 · rw [if_pos h1]
   split
   · exact (startsTo_sorted h1 _ (Nat.le_refl _)).1
   · exact List.Pairwise.nil
 · rw [if_neg h1];exact List.Pairwise.nil
theorem pairwise_two {R:Int->Int->Prop}:∀ {l:List Int},l.Pairwise R->∀ {a b:Int},a∈l->b∈l->a=b\/R a b\/R b a
 | [],_,a,b,ha,_=>by cases ha
 | c :: l,hp,a,b,ha,hb=>by
  obtain ⟨h1,h2⟩:=List.pairwise_cons.1 hp
  rcases List.mem_cons.1 ha with ha2 | ha2 <;> rcases List.mem_cons.1 hb with hb2 | hb2
  · exact Or.inl (ha2.trans hb2.symm)
  · subst ha2;exact Or.inr (Or.inl (h1 _ hb2))
  · subst hb2;exact Or.inr (Or.inr (h1 _ ha2))
  · exact pairwise_two h2 ha2 hb2
theorem objects_apart {h:Hp} {a b:Int} (ha:a∈objectsV h) (hb:b∈objectsV h) (hne:a≠b):a+osz h a<=b\/b+osz h b<=a :=
 (pairwise_two (objects_sorted h) ha hb).resolve_left hne
theorem objects_begin {h:Hp} {a:Int} (ha:a∈objectsV h):∃ i j g,Begins h a i j g:=begins (objectsV_at ha).1
theorem okA_iff {len:Nat} {a:Int} {n:Nat}:okA len a n=true↔4096<=a/\a+n<=4096+len:=by
 unfold okA;rw [decide_eq_true_eq];omega
theorem load_get (xs:List Int) {a:Int} (h:4096<=a):loadV xs a=(xs[(a - 4096).toNat]?).getD 0:=by
 unfold loadV
 by_cases hk:okA xs.length a 1=true
 · rw [if_pos hk,List.getD_eq_getElem?_getD]
 · rw [if_neg hk]
   have:xs[(a - 4096).toNat]?=none:=by
    rw [List.getElem?_eq_none_iff]
    have h2:¬(4096<=a/\a+(1:Nat)<=4096+xs.length):=fun c=>hk (okA_iff.2 c)
    omega
   rw [this];rfl
theorem load_low (xs:List Int) {a:Int} (h:a < 4096):loadV xs a=0:=by
 unfold loadV okA
 rw [if_neg]
 simp only [decide_eq_true_eq]
 omega
theorem write_len {xs l:List Int} {p:Int} (h:okA xs.length p l.length=true):(writeV xs p l).length=xs.length:=by
 unfold writeV;rw [if_pos h]
 have:=okA_iff.1 h
 exact splice_len (by omega)
theorem load_write_out {xs l:List Int} {p:Int} (h:okA xs.length p l.length=true) {a:Int} (ha:a < p\/p+l.length<=a):loadV (writeV xs p l) a=loadV xs a:=by
 have h2:=okA_iff.1 h
 by_cases h4:4096<=a
 · rw [load_get _ h4,load_get _ h4]
   unfold writeV;rw [if_pos h,splice_out (by omega) (by omega)]
 · rw [load_low _ (by omega),load_low _ (by omega)]
theorem load_write_in {xs:List Int} {p v:Int} (h:okA xs.length p 1=true):loadV (writeV xs p [v]) p=v:=by
 have h2:=okA_iff.1 h
 rw [load_get _ h2.1]
 unfold writeV;rw [if_pos (show okA xs.length p [v].length=true from h),splice_in (by simp;omega) (Nat.le_refl _) (by simp),Nat.sub_self];rfl
theorem move_len {xs:List Int} {t f n:Int} (h0:0<=n) (ht:okA xs.length t n.toNat=true) (hf:okA xs.length f n.toNat=true):(moveV xs t f n).length=xs.length:=by
 unfold moveV;rw [if_neg (by omega),if_pos ⟨ht,hf⟩]
 have h1:=okA_iff.1 ht
 have h2:=okA_iff.1 hf
 refine splice_len ?_
 rw [List.length_take,List.length_drop];omega
theorem load_move_out {xs:List Int} {t f n:Int} (h0:0<=n) (ht:okA xs.length t n.toNat=true) (hf:okA xs.length f n.toNat=true) {a:Int} (ha:a < t\/t+n<=a):loadV (moveV xs t f n) a=loadV xs a:=by
 have h1:=okA_iff.1 ht
 have h2:=okA_iff.1 hf
 by_cases h4:4096<=a
 · rw [load_get _ h4,load_get _ h4]
   unfold moveV;rw [if_neg (by omega),if_pos ⟨ht,hf⟩,splice_out (by rw [List.length_take,List.length_drop];omega) (by rw [List.length_take,List.length_drop];omega)]
 · rw [load_low _ (by omega),load_low _ (by omega)]
theorem load_move_in {xs:List Int} {t f n:Int} (h0:0<=n) (ht:okA xs.length t n.toNat=true) (hf:okA xs.length f n.toNat=true) {k:Int} (hk0:0<=k) (hk:k < n):loadV (moveV xs t f n) (t+k)=loadV xs (f+k):=by
 have h1:=okA_iff.1 ht
 have h2:=okA_iff.1 hf
 rw [load_get _ (by omega),load_get _ (by omega)]
 unfold moveV;rw [if_neg (by omega),if_pos ⟨ht,hf⟩,splice_in (by rw [List.length_take,List.length_drop];omega) (by omega) (by rw [List.length_take,List.length_drop];omega),List.getElem?_take,if_pos (by omega),List.getElem?_drop]
 congr 2;omega
def CopyAt (x:Wk) (q:Int):Prop:=∃ (k:Nat) (g:Pg),(k:Int)∈x.taken/\x.h.pages[k]?=some g/\4096+(k:Int)*x.h.pw<=q/\okD (evWd x q).toNat=true/\q+evN x q<=4096+(k:Int)*x.h.pw+g.used
def unseenB (x:Wk) (a:Int):Bool:=decide (¬a∈x.queue) && !okT (evWd x a).toNat
structure Inv (h:Hp) (x:Wk):Prop where
 ok:okH h=true
 pw:x.h.pw=h.pw
 np:x.h.np=h.np
 sp:x.h.space=h.space
 old:x.old=objectsV h
 wl:x.h.words.length=h.words.length
 pl:x.h.pages.length=h.pages.length
 tk:∀ t∈x.taken,∃ (k:Nat) (g0 g:Pg),t=(k:Int)/\h.pages[k]?=some g0/\g0.kind=0/\x.h.pages[k]?=some g/\g.kind=1/\0<=g.used/\g.used<=h.pw
 pg:∀ (k:Nat) (g0:Pg),h.pages[k]?=some g0->¬(k:Int)∈x.taken->∃ g,x.h.pages[k]?=some g/\g.kind=g0.kind/\g.used=g0.used
 tl:x.taken.length<=inUse x.h.pages
 un:∀ a∈objectsV h,evWd x a=loadV h.words a\/(okT (evWd x a).toNat=true/\¬a∈x.queue/\promB x (ofI h.pw h.np a)=false)
 qs:∀ q∈x.queue,q∈objectsV h\/CopyAt x q
 dj:∀ q∈x.queue,∀ r∈x.queue,CopyAt x q->CopyAt x r->q≠r->q+evN x q<=r\/r+evN x r<=q
 cnt:x.queue.length+((objectsV h).filter (unseenB x)).length<=(objectsV h).length
structure Later (x y:Wk):Prop where
 sc:y.sc=x.sc
 qu:∃ l,y.queue=x.queue ++ l
 hd:∀ q∈x.queue,evWd y q=evWd x q
theorem Later.refl (x:Wk):Later x x:=⟨rfl,⟨[],by simp⟩,fun _ _=>rfl⟩
theorem Later.mem {x y:Wk} (h:Later x y) {q:Int} (hq:q∈x.queue):q∈y.queue:=by
 obtain ⟨l,e⟩:=h.qu;rw [e];exact List.mem_append_left _ hq
theorem Later.trans {x y z:Wk} (h:Later x y) (k:Later y z):Later x z:=by
 refine ⟨k.sc.trans h.sc,?_,fun q hq=>(k.hd q (h.mem hq)).trans (h.hd q hq)⟩
 obtain ⟨l,e⟩:=h.qu
 obtain ⟨m,f⟩:=k.qu
 exact ⟨l ++ m,by rw [f,e,List.append_assoc]⟩
theorem evN_ok {x:Wk} {a:Int} (h:okD (evWd x a).toNat=true):evN x a=dN (evWd x a).toNat+1/\(evH x a).n=dN (evWd x a).toNat:=by
 have e:=dec_ok h
 have v:=(okD_parts h).2.2
 refine ⟨?_,?_⟩
 · unfold evN;rw [e.1,e.2.1,e.2.2,size_ok v]
 · unfold evH;exact e.2.1
theorem old_ev {h:Hp} {x:Wk} {a:Int} (ha:a∈objectsV h) (e:evWd x a=loadV h.words a):okD (evWd x a).toNat=true/\evN x a=osz h a/\(evH x a).n+1=osz h a/\okT (evWd x a).toNat=false:=by
 obtain ⟨i,j,g,b⟩:=objects_begin ha
 have hp:=b.pos
 have h1:(evWd x a).toNat=wordAt h a:=by
  rw [e,load_get _ hp.2];unfold wordAt;rw [List.getD_eq_getElem?_getD]
 have h2:okD (evWd x a).toNat=true:=by rw [h1];exact b.od
 obtain ⟨e1,e2⟩:=evN_ok h2
 have hs:=b.sz
 rw [<-h1] at hs
 refine ⟨h2,by omega,by omega,?_⟩
 rw [<-Bool.not_eq_true]
 exact fun c=>apart _ ⟨h2,c⟩
theorem Inv.kept {h:Hp} {x:Wk} (I:Inv h x) {a:Int} (ha:a∈objectsV h) (hq:a∈x.queue):evWd x a=loadV h.words a :=
 (I.un a ha).elim id (fun c=>absurd hq c.2.1)
theorem Inv.conf {h:Hp} {x:Wk} (I:Inv h x):16<=h.pw/\h.pw<=64/\8<=h.np/\h.np<=64/\(h.words.length:Int)=h.np*h.pw/\(h.pages.length:Int)=h.np/\h.np*h.pw<=4096/\0<=h.space/\h.space<=1:=by
 obtain ⟨c1,c2,c3,c4,c5,c6,c7⟩:=okH_parts I.ok
 obtain ⟨p1,p2,p3,p4,p5⟩:=conf_parts c1
 exact ⟨p1,p2,p4,p5,c2,c3,(conf_prod c1).2,c4,c5⟩
theorem Inv.qlen {h:Hp} {x:Wk} (I:Inv h x):x.queue.length<=(objectsV h).length/\(objectsV h).length<=4096:=by
 refine ⟨by have:=I.cnt;omega,?_⟩
 unfold objectsV objsOf
 exact Nat.le_trans (List.length_filter_le _ _) (startsV_len h)
theorem Inv.plok {h:Hp} {x:Wk} (I:Inv h x):PlOK x:=by
 obtain ⟨c1,c2,c3,c4,c5,c6,c7,c8,c9⟩:=I.conf
 have h1:=I.pl
 refine ⟨by rw [I.pw];exact c1,by rw [I.pw];exact c2,by omega,by omega,by rw [I.sp];exact c8,by rw [I.sp];exact c9,?_,fun l hl=>?_⟩
 · have h2:=I.tl
   have h3:=inUse_le x.h.pages
   omega
 · obtain ⟨k,g0,g,e,-,-,h4,-,h5,h6⟩:=I.tk l (List.mem_of_getLast? hl)
   exact ⟨k,e,g,h4,h5,by rw [I.pw];exact h6⟩
theorem Inv.fwok {h:Hp} {x:Wk} (I:Inv h x):FwOK x:=by
 have h1:=I.conf
 have h2:=I.wl
 have h3:=I.qlen
 exact ⟨I.plok,by omega,by omega⟩
theorem Inv.copy {h:Hp} {x:Wk} (I:Inv h x) {q:Int} (hc:CopyAt x q):∃ (k:Nat) (g0:Pg),h.pages[k]?=some g0/\g0.kind=0/\(k:Int) < h.np/\4096+(k:Int)*h.pw<=q/\q+evN x q<=4096+(k:Int)*h.pw+h.pw/\1<=evN x q/\okD (evWd x q).toNat=true:=by
 obtain ⟨k,g,h1,h2,h3,h4,h5⟩:=hc
 obtain ⟨k2,g0,g2,e,f1,f2,f3,f4,f5,f6⟩:=I.tk _ h1
 obtain rfl:k=k2:=by omega
 rw [h2] at f3
 injection f3 with f3
 subst f3
 have:=(evN_ok h4).1
 have h7:=(List.getElem?_eq_some_iff.1 f1).1
 have h8:=I.conf
 rw [I.pw] at h3 h5
 exact ⟨k,g0,f1,f2,by omega,h3,by omega,by omega,h4⟩
theorem Inv.old_copy {h:Hp} {x:Wk} (I:Inv h x) {a q:Int} (ha:a∈objectsV h) (hc:CopyAt x q):a+osz h a<=q\/q+evN x q<=a:=by
 obtain ⟨k,g0,h1,h2,h3,h4,h5,h6,h7⟩:=I.copy hc
 obtain ⟨i,j,g,b⟩:=objects_begin ha
 have:=begins_free b h1 h2
 omega
theorem Inv.inside {h:Hp} {x:Wk} (I:Inv h x) {A i:Int} (hA:A∈x.queue) (h0:0<=i) (h1:i < (evH x A).n) :
 okA x.h.words.length (A+1+i) 1=true/\(∀ a∈objectsV h,A+1+i≠a)/\(∀ q∈x.queue,A+1+i≠q):=by
 have hcf:=I.conf
 have hwl:=I.wl
 rcases I.qs A hA with ho | hc
 · have e:=I.kept ho hA
   obtain ⟨e1,e2,e3,e4⟩:=old_ev ho e
   obtain ⟨i2,j2,g,b⟩:=objects_begin ho
   have hb:=b.pos
   have hbl:=b.wl
   have hold:∀ a∈objectsV h,A+1+i≠a:=fun a ha eq=>by
    by_cases hne:A=a
    · omega
    · have h2:=objects_apart ho ha hne
      obtain ⟨i3,j3,g3,b3⟩:=objects_begin ha
      have:=b3.pos
      omega
   refine ⟨okA_iff.2 (by omega),hold,fun q hq eq=>?_⟩
   rcases I.qs q hq with h2 | h2
   · exact hold q h2 eq
   · have h3:=I.old_copy ho h2
     obtain ⟨k,g0,f1,f2,f3,f4,f5,f6,f7⟩:=I.copy h2
     omega
 · obtain ⟨k,g0,f1,f2,f3,f4,f5,f6,f7⟩:=I.copy hc
   obtain ⟨e1,e2⟩:=evN_ok f7
   obtain ⟨c1,-⟩:=okH_parts I.ok
   have pp:=page_prod (p:=k) c1 (by omega) f3
   have hold:∀ a∈objectsV h,A+1+i≠a:=fun a ha eq=>by
    have h3:=I.old_copy ha hc
    obtain ⟨i3,j3,g3,b3⟩:=objects_begin ha
    have:=b3.pos
    omega
   refine ⟨okA_iff.2 (by omega),hold,fun q hq eq=>?_⟩
   rcases I.qs q hq with h2 | h2
   · exact hold q h2 eq
   · by_cases hne:A=q
     · omega
     · have h3:=I.dj A hA q hq hc h2 hne
       obtain ⟨k2,g2,d1,d2,d3,d4,d5,d6,d7⟩:=I.copy h2
       omega
theorem filter_same {p q:Int->Bool}:∀ {l:List Int},(∀ a∈l,p a=q a)->l.filter p=l.filter q
 | [],_=>rfl
 | a :: l,h=>by
  rw [List.filter_cons,List.filter_cons,h a (List.mem_cons_self ..),filter_same (fun b hb=>h b (List.mem_cons_of_mem _ hb))]
theorem filter_less {p q:Int->Bool} {c:Int}:∀ {l:List Int},(∀ a∈l,q a=true->p a=true)->c∈l->p c=true->q c=false->(l.filter q).length+1<=(l.filter p).length
 | [],_,hc,_,_=>by cases hc
 | a :: l,h,hc,hp,hq=>by
  have hle:∀ {m:List Int},(∀ a∈m,q a=true->p a=true)->(m.filter q).length<=(m.filter p).length:=by
   intro m
   induction m with
   | nil=>intro _;exact Nat.le_refl _
   | cons b m ih =>
    intro hm
    have h1:=ih (fun a ha=>hm a (List.mem_cons_of_mem _ ha))
    have h2:=hm b (List.mem_cons_self ..)
    rw [List.filter_cons,List.filter_cons]
    cases hqb:q b
    · simp only [Bool.false_eq_true,if_false]
      cases p b <;> simp <;> omega
    · rw [h2 hqb];simp;omega
  rw [List.filter_cons,List.filter_cons]
  rcases List.mem_cons.1 hc with rfl | hc
  · rw [hp,hq]
    have:=hle (m:=l) (fun a ha=>h a (List.mem_cons_of_mem _ ha))
    simp;omega
  · have h1:=filter_less (fun a ha=>h a (List.mem_cons_of_mem _ ha)) hc hp hq
    have h2:=h a (List.mem_cons_self ..)
    cases hqb:q a
    · simp only [Bool.false_eq_true,if_false]
      cases p a <;> simp <;> omega
    · rw [h2 hqb];simp;omega
theorem Inv.write {h:Hp} {x:Wk} (I:Inv h x) {p v:Int} (hp:okA x.h.words.length p 1=true) (h1:∀ a∈objectsV h,p≠a) (h2:∀ q∈x.queue,p≠q) :
 Inv h { x with h:={ x.h with words:=writeV x.h.words p [v] } }/\Later x { x with h:={ x.h with words:=writeV x.h.words p [v] } }:=by
 have hev:∀ a,p≠a->evWd { x with h:={ x.h with words:=writeV x.h.words p [v] } } a=evWd x a:=fun a ha=>by
  unfold evWd;exact load_write_out (l:=[v]) hp (by simp only [List.length_singleton];omega)
 have hcp:∀ q∈x.queue,(CopyAt { x with h:={ x.h with words:=writeV x.h.words p [v] } } q↔CopyAt x q):=fun q hq=>by
  unfold CopyAt evN
  rw [hev q (h2 q hq)]
 have hn:∀ q∈x.queue,evN { x with h:={ x.h with words:=writeV x.h.words p [v] } } q=evN x q:=fun q hq=>by
  unfold evN;rw [hev q (h2 q hq)]
 refine ⟨⟨I.ok,I.pw,I.np,I.sp,I.old,?_,I.pl,I.tk,I.pg,I.tl,fun a ha=>?_,fun q hq=>?_,fun q hq r hr cq cr hne=>?_,?_⟩,⟨rfl,⟨[],by simp⟩,fun q hq=>hev q (h2 q hq)⟩⟩
 · exact (write_len (l:=[v]) hp).trans I.wl
 · rw [hev a (h1 a ha)];exact I.un a ha
 · rcases I.qs q hq with c | c
   · exact Or.inl c
   · exact Or.inr ((hcp q hq).2 c)
 · rw [hn q hq,hn r hr];exact I.dj q hq r hr ((hcp q hq).1 cq) ((hcp r hr).1 cr) hne
 · rw [filter_same (q:=unseenB x) (fun a ha=>by unfold unseenB;rw [hev a (h1 a ha)])];exact I.cnt
theorem inUse_set:∀ {ps:List Pg} {k:Nat} {z y:Pg},ps[k]?=some z->inUse (ps.set k y)+(if z.kind=0 then 0 else 1)=inUse ps+(if y.kind=0 then 0 else 1)
 | [],k,z,y,h=>by simp at h
 | a :: r,0,z,y,h=>by
  simp at h;subst h
  rw [List.set_cons_zero,inUse,inUse];omega
 | a :: r,k+1,z,y,h=>by
  have ih:=inUse_set (ps:=r) (k:=k) (z:=z) (y:=y) (by simpa using h)
  rw [List.set_cons_succ,inUse,inUse];omega
theorem inUse_kinds:∀ {ps qs:List Pg},ps.map (·.kind)=qs.map (·.kind)->inUse ps=inUse qs
 | [],[],_=>rfl
 | [],_ :: _,h=>by simp at h
 | _ :: _,[],h=>by simp at h
 | a :: r,b :: s,h=>by
  simp at h
  rw [inUse,inUse,h.1,inUse_kinds (ps:=r) (qs:=s) h.2]
theorem Inv.place {h:Hp} {x:Wk} (I:Inv h x) {n:Int} (hn0:1<=n) (hn:n<=h.pw) (hb:plB x n=true):∃ (J:Nat) (u:Int) (g0 g1:Pg),
 plA x n=4096+(J:Int)*h.pw+u/\0<=u/\u+n<=h.pw/\(J:Int) < h.np/\h.pages[J]?=some g0/\g0.kind=0 /\
 (∀ k:Nat,k≠J->(plW x n).h.pages[k]?=x.h.pages[k]?)/\(plW x n).h.pages[J]?=some g1/\g1.kind=1/\g1.used=u+n /\
 (plW x n).h.pages.length=x.h.pages.length/\(J:Int)∈(plW x n).taken/\(∀ t,t∈(plW x n).taken↔t∈x.taken\/t=J)/\(plW x n).taken.length<=inUse (plW x n).h.pages /\
 ((J:Int)∈x.taken->∃ g,x.h.pages[J]?=some g/\g.used=u):=by
 have hcf:=I.conf
 obtain ⟨J,y,p1,p2,p3,p4,p5,p6,p7⟩:=place_spec I.plok hb
 have hpl:=I.pl
 have htl:=I.tl
 have e1:(plW x n).h.pages=(plPs x n).set J ⟨y.kind,y.space,y.used+n,y.pins⟩:=by
  show useAt (plPs x n) (plJ x n).toNat n=_
  unfold useAt;rw [p1,Int.toNat_natCast,getD_at p4]
 have e2:(plW x n).taken=plT x n:=rfl
 have hA:plA x n=4096+(J:Int)*h.pw+y.used:=by
  unfold plA;rw [p1,Int.toNat_natCast,getD_at p4,I.pw]
 rw [I.pw] at p6 p7
 have hJ:(plW x n).h.pages[J]?=some ⟨y.kind,y.space,y.used+n,y.pins⟩:=by
  rw [e1,List.getElem?_set];simp [p3,p2]
 have hu1:inUse (plW x n).h.pages=inUse (plPs x n):=by
  have:=inUse_set (y:=⟨y.kind,y.space,y.used+n,y.pins⟩) p4
  rw [e1];simp only at this;omega
 rcases p7 with ⟨r1,r2,r3,r4⟩ | ⟨r1,r2,r3,r4,z,r5,r6⟩
 · have hm:(J:Int)∈x.taken:=List.mem_of_getLast? r3
   obtain ⟨k2,g0,g,f0,f1,f2,f3,f4,f5,f6⟩:=I.tk _ hm
   obtain rfl:J=k2:=by omega
   rw [r2] at p4
   rw [f3] at p4
   injection p4 with p4
   subst p4
   have hT:(plW x n).taken=x.taken:=by rw [e2];unfold plT;rw [if_pos r1]
   refine ⟨J,g.used,g0,_,hA,f5,r4,by omega,f1,f2,fun k hk=>?_,hJ,f4,rfl,by rw [e1,List.length_set,p3],by rw [hT];exact hm,fun t=>?_,?_,fun _=>⟨g,f3,rfl⟩⟩
   · rw [e1,List.getElem?_set_ne (by omega),r2]
   · rw [hT]
     constructor
     · intro h;exact Or.inl h
     · rintro (h | rfl)
       · exact h
       · exact hm
   · rw [hu1,hT,r2];exact htl
 · have hnt:¬(J:Int)∈x.taken:=fun hm=>by
    obtain ⟨k2,g0,g,f0,f1,f2,f3,f4,f5,f6⟩:=I.tk _ hm
    obtain rfl:J=k2:=by omega
    rw [r5] at f3
    injection f3 with f3
    subst f3
    omega
   have hlt:J < h.pages.length:=by omega
   obtain ⟨g,f1,f2,f3⟩:=I.pg J h.pages[J] (List.getElem?_eq_getElem hlt) hnt
   rw [r5] at f1
   injection f1 with f1
   subst f1
   have hT:(plW x n).taken=x.taken ++ [(J:Int)]:=by rw [e2];unfold plT;rw [r1,r2];rfl
   subst r4
   refine ⟨J,0,h.pages[J],_,hA,Int.le_refl _,by omega,by omega,List.getElem?_eq_getElem hlt,by omega,fun k hk=>?_,hJ,rfl,rfl,by rw [e1,List.length_set,p3],by rw [hT];simp,fun t=>?_,?_,fun hm=>absurd hm hnt⟩
   · rw [e1,List.getElem?_set_ne (by omega),r3,List.getElem?_set_ne (by omega)]
   · rw [hT];simp
   · rw [hu1,hT,r3,List.length_append]
     have:=inUse_set (y:=⟨1,1 - x.h.space,0,0⟩) r5
     rw [if_pos r6,if_neg (by simp)] at this
     simp only [List.length_singleton]
     omega
theorem promB_page {x y:Wk} {i:Nat} (h1:y.h.pages[i]?=x.h.pages[i]?) (h2:y.h.space=x.h.space) (h3:(i:Int)∈y.taken↔(i:Int)∈x.taken):promB y i=promB x i:=by
 unfold promB
 rw [Int.toNat_natCast,h1,h2]
 cases x.h.pages[i]? with
 | none=>rfl
 | some g=>simp only [h3]
theorem Inv.begun {h:Hp} {x:Wk} (I:Inv h x) {a:Int} {i j:Nat} {g:Pg} (b:Begins h a i j g):¬(i:Int)∈x.taken:=fun hm=>by
 obtain ⟨k2,g0,g2,f0,f1,f2,-⟩:=I.tk _ hm
 obtain rfl:i=k2:=by omega
 have:=b.pg
 rw [f1] at this
 injection this with this
 subst this
 rcases b.kd with ⟨k,-⟩ | ⟨k,-⟩ <;> omega
theorem okT_fwd {a:Int} (h0:0<=a) (h1:a < 4294967296):okT (fwdV a).toNat=true:=by
 rw [(fwd_ok h1).1]
 refine okT_mk ?_ ?_ <;> omega
theorem Inv.keep {h:Hp} {x:Wk} (I:Inv h x) {a:Int} (ha:a∈objectsV h) (hq:¬a∈x.queue) (ht:okT (evWd x a).toNat=false):Inv h (keepW x a)/\Later x (keepW x a):=by
 have e1:∀ b,evWd (keepW x a) b=evWd x b:=fun b=>rfl
 have e2:∀ b,evN (keepW x a) b=evN x b:=fun b=>rfl
 have e3:∀ b,CopyAt (keepW x a) b↔CopyAt x b:=fun b=>Iff.rfl
 have hm:∀ b,b∈(keepW x a).queue↔b∈x.queue\/b=a:=fun b=>by show b∈x.queue ++ [a]↔_;simp
 have hnc:∀ q,CopyAt x q->q≠a:=fun q hc e=>by
  subst e
  have h1:=I.old_copy ha hc
  obtain ⟨k,g0,f1,f2,f3,f4,f5,f6,f7⟩:=I.copy hc
  obtain ⟨i,j,g,b⟩:=objects_begin ha
  have:=b.pos
  omega
 refine ⟨⟨I.ok,I.pw,I.np,I.sp,I.old,I.wl,I.pl,I.tk,I.pg,I.tl,fun b hb=>?_,fun q hqq=>?_,fun q hq2 r hr2 cq cr hne=>?_,?_⟩,⟨rfl,⟨[a],rfl⟩,fun _ _=>rfl⟩⟩
 · rcases I.un b hb with c | ⟨c1,c2,c3⟩
   · exact Or.inl c
   · refine Or.inr ⟨c1,fun hin=>?_,c3⟩
     rcases (hm b).1 hin with h2 | h2
     · exact c2 h2
     · subst h2;rw [ht] at c1;cases c1
 · rcases (hm q).1 hqq with h2 | h2
   · exact I.qs q h2
   · subst h2;exact Or.inl ha
 · have hq3:=((hm q).1 hq2).resolve_right (hnc q cq)
   have hr3:=((hm r).1 hr2).resolve_right (hnc r cr)
   exact I.dj q hq3 r hr3 cq cr hne
 · have h1:((objectsV h).filter (unseenB (keepW x a))).length+1<=((objectsV h).filter (unseenB x)).length:=by
    refine filter_less (c:=a) (fun b hb hu=>?_) ha ?_ ?_
    · unfold unseenB at hu ⊢
      simp only [Bool.and_eq_true,decide_eq_true_eq] at hu ⊢
      exact ⟨fun h2=>hu.1 ((hm b).2 (Or.inl h2)),hu.2⟩
    · unfold unseenB;simp [hq,ht]
    · unfold unseenB;rw [decide_eq_false (by simp [hm])];rfl
   have h2:(keepW x a).queue.length=x.queue.length+1:=by show (x.queue ++ [a]).length=_;simp
   have:=I.cnt
   omega
theorem takeWhile_at {P:Pg->Bool}:∀ {l:List Pg} {k:Nat},k < (l.takeWhile P).length->∃ y,l[k]?=some y/\P y=true
 | [],k,h=>by simp at h
 | a :: l,k,h=>by
  rw [List.takeWhile_cons] at h
  split at h
  · rename_i hp
    cases k with
    | zero=>exact ⟨a,rfl,hp⟩
    | succ k =>
     obtain ⟨y,h1,h2⟩:=takeWhile_at (l:=l) (k:=k) (by simpa using h)
     exact ⟨y,by simpa using h1,h2⟩
  · simp at h
theorem Inv.large {h:Hp} {x:Wk} (I:Inv h x) {i:Nat} {g:Pg} (hg:x.h.pages[i]?=some g) (hk:g.kind=2):Inv h (largeW x i)/\Later x (largeW x i)/\(∀ a,evWd (largeW x i) a=evWd x a)/\(largeW x i).queue=x.queue:=by
 have hat:∀ (k:Nat) (y:Pg),x.h.pages[k]?=some y->∃ s,(largeW x i).h.pages[k]?=some ⟨y.kind,s,y.used,y.pins⟩/\(¬(y.kind=2\/y.kind=3)->s=y.space):=fun k y hy=>by
  show ∃ s,(spc x.h.pages i (tailEnd x.h.pages i) (1 - x.h.space))[k]?=_/\_
  unfold spc
  rw [List.getElem?_mapIdx,hy]
  simp only [Option.map_some]
  by_cases hr:i<=k/\k < tailEnd x.h.pages i
  · rw [if_pos hr]
    refine ⟨1 - x.h.space,rfl,fun hno=>?_⟩
    exfalso
    apply hno
    by_cases e:k=i
    · subst e;rw [hg] at hy;injection hy with hy;subst hy;exact Or.inl hk
    · right
      unfold tailEnd at hr
      obtain ⟨z,z1,z2⟩:=takeWhile_at (l:=x.h.pages.drop (i+1)) (k:=k - (i+1)) (P:=fun y=>decide (y.kind=3)) (by omega)
      rw [List.getElem?_drop,show i+1+(k - (i+1))=k from by omega,hy] at z1
      injection z1 with z1
      subst z1
      exact of_decide_eq_true z2
  · rw [if_neg hr];exact ⟨y.space,rfl,fun _=>rfl⟩
 have hkd:(largeW x i).h.pages.map (·.kind)=x.h.pages.map (·.kind):=by
  apply List.ext_getElem?
  intro k
  rw [List.getElem?_map,List.getElem?_map]
  cases hy:x.h.pages[k]? with
  | some y =>
   obtain ⟨s,h1,-⟩:=hat k y hy
   rw [h1];rfl
  | none =>
   have:(largeW x i).h.pages[k]?=none:=by
    show (spc x.h.pages i (tailEnd x.h.pages i) (1 - x.h.space))[k]?=none
    unfold spc;rw [List.getElem?_mapIdx,hy];rfl
   rw [this]
 have hln:(largeW x i).h.pages.length=x.h.pages.length:=by
  have:=congrArg List.length hkd
  rwa [List.length_map,List.length_map] at this
 have hcp:∀ q,CopyAt (largeW x i) q->CopyAt x q:=fun q ⟨k,g2,c1,c2,c3,c4,c5⟩=>by
  cases hy:x.h.pages[k]? with
  | some y =>
   obtain ⟨s,h1,-⟩:=hat k y hy
   rw [h1] at c2
   injection c2 with c2
   exact ⟨k,y,c1,hy,c3,c4,by subst c2;exact c5⟩
  | none =>
   have h1:=List.getElem?_eq_none_iff.1 hy
   have h2:=(List.getElem?_eq_some_iff.1 c2).1
   omega
 refine ⟨⟨I.ok,I.pw,I.np,I.sp,I.old,I.wl,hln.trans I.pl,fun t ht=>?_,fun k g0 hg0 hnt=>?_,?_,fun a ha=>?_,fun q hq=>?_,fun q hq r hr cq cr hne=>I.dj q hq r hr (hcp q cq) (hcp r cr) hne,I.cnt⟩,⟨rfl,⟨[],by simp [largeW]⟩,fun _ _=>rfl⟩,fun _=>rfl,rfl⟩
 · obtain ⟨k,g0,g2,f0,f1,f2,f3,f4,f5,f6⟩:=I.tk t ht
   obtain ⟨s,h1,-⟩:=hat k g2 f3
   exact ⟨k,g0,_,f0,f1,f2,h1,f4,f5,f6⟩
 · obtain ⟨g2,f1,f2,f3⟩:=I.pg k g0 hg0 hnt
   obtain ⟨s,h1,-⟩:=hat k g2 f1
   exact ⟨_,h1,f2,f3⟩
 · rw [inUse_kinds hkd];exact I.tl
 · rcases I.un a ha with c | ⟨c1,c2,c3⟩
   · exact Or.inl c
   · refine Or.inr ⟨c1,c2,?_⟩
     obtain ⟨i2,j2,g2,b⟩:=objects_begin ha
     rw [b.oi] at c3 ⊢
     obtain ⟨y,f1,f2,f3⟩:=I.pg i2 g2 b.pg (I.begun b)
     obtain ⟨s,h1,h2⟩:=hat i2 y f1
     unfold promB at c3 ⊢
     rw [Int.toNat_natCast,f1] at c3
     rw [Int.toNat_natCast,h1]
     simp only at c3 ⊢
     by_cases hk1:y.kind=1
     · rw [h2 (by omega)];exact c3
     · rw [decide_eq_false hk1];simp
 · rcases I.qs q hq with c | ⟨k,y,c1,c2,c3,c4,c5⟩
   · exact Or.inl c
   · obtain ⟨s,h1,-⟩:=hat k y c2
     exact Or.inr ⟨k,_,c1,h1,c3,c4,c5⟩
theorem Inv.copied {h:Hp} {x:Wk} (I:Inv h x) {a:Int} (ha:a∈objectsV h) (hq:¬a∈x.queue) (ht:okT (evWd x a).toNat=false) (hpr:promB x (evI x a)=false) (hbig:evBig x a=false) (hpl:plB x (evN x a)=true) :
 Inv h (copyW x a)/\Later x (copyW x a):=by
 obtain ⟨c1,c2,c3,c4,c5,c6,c7,c8,c9⟩:=I.conf
 obtain ⟨i,j,g,b⟩:=objects_begin ha
 have hbp:=b.pos
 have hbw:=b.wl
 have hwl:=I.wl
 have e0:evWd x a=loadV h.words a:=(I.un a ha).elim id (fun c=>by rw [ht] at c;exact absurd c.1 (by decide))
 obtain ⟨e1,e2,e3,-⟩:=old_ev ha e0
 have hoi:evI x a=i:=by unfold evI;rw [I.pw,I.np];exact b.oi
 obtain ⟨y,f1,f2,f3⟩:=I.pg i g b.pg (I.begun b)
 have hk1:g.kind=1:=by
  rcases b.kd with ⟨k,-⟩ | ⟨k,-⟩
  · exact k
  · unfold evBig at hbig
    rw [hoi,Int.toNat_natCast,getD_at f1] at hbig
    have:=of_decide_eq_false hbig
    omega
 have hn:evN x a<=h.pw:=by
  rcases b.kd with ⟨k,l,m⟩ | ⟨k,-⟩ <;> omega
 have hn0:1<=evN x a:=by omega
 obtain ⟨J,u,g0,g1,hA,hu0,hun,hJ,hg0,hk0,hoth,hg1,hk11,hu1,hplen,hJt,htk,htl,hru⟩:=I.place hn0 hn hpl
 obtain ⟨N,hN⟩:∃ N,evN x a=N:=⟨_,rfl⟩
 obtain ⟨T,hT⟩:∃ T,plA x N=T:=⟨_,rfl⟩
 rw [hN] at hA hn hn0 hun hoth hg1 hu1 hplen hJt htk htl e2 hpl
 rw [hT] at hA
 have hpp:=page_prod (p:=(J:Int)) (okH_parts I.ok).1 (by omega) hJ
 have hfree:=begins_free b hg0 hk0
 have ka:okA x.h.words.length T N.toNat=true:=okA_iff.2 (by omega)
 have kb:okA x.h.words.length a N.toNat=true:=okA_iff.2 (by omega)
 have kc:okA (moveV x.h.words T a N).length a [fwdV T].length=true:=by rw [move_len (by omega) ka kb];exact okA_iff.2 (by simp only [List.length_singleton];omega)
 have hW:(copyW x a).h.words=writeV (moveV x.h.words T a N) a [fwdV T]:=by
  show copyWd x a=_
  unfold copyWd;rw [hN,hT]
 have hQ:(copyW x a).queue=x.queue ++ [T]:=by show x.queue ++ [plA x (evN x a)]=_;rw [hN,hT]
 have hP:(copyW x a).h.pages=(plW x N).h.pages:=by show (plW x (evN x a)).h.pages=_;rw [hN]
 have hTk:(copyW x a).taken=(plW x N).taken:=by show (plW x (evN x a)).taken=_;rw [hN]
 have hpw:(copyW x a).h.pw=h.pw:=I.pw
 have hself:evWd (copyW x a) a=fwdV T:=by unfold evWd;rw [hW];exact load_write_in kc
 have hout:∀ p,p≠a->(p < T\/T+N<=p)->evWd (copyW x a) p=evWd x p:=fun p h1 h2=>by
  unfold evWd;rw [hW,load_write_out kc (by simp only [List.length_singleton];omega)]
  exact load_move_out (by omega) ka kb (by omega)
 have hnew:evWd (copyW x a) T=evWd x a:=by
  unfold evWd;rw [hW,load_write_out kc (by simp only [List.length_singleton];omega)]
  have:=load_move_in (k:=0) (by omega) ka kb (Int.le_refl _) (by omega)
  simpa using this
 have hold:∀ c∈objectsV h,c≠a->evWd (copyW x a) c=evWd x c:=fun c hc hne=>by
  obtain ⟨i3,j3,g3,b3⟩:=objects_begin hc
  have h1:=begins_free b3 hg0 hk0
  have h2:=b3.pos
  exact hout c hne (by omega)
 have hbelow:∀ q,CopyAt x q->q+evN x q<=T\/T+N<=q:=fun q hc=>by
  have hc2:=hc
  obtain ⟨k,y2,d1,d2,d3,d4,d5⟩:=hc
  obtain ⟨k3,y0,y3,l0,l1,l2,l3,l4,l5,l6⟩:=I.tk _ d1
  obtain rfl:k=k3:=by omega
  rw [d2] at l3
  injection l3 with l3
  subst l3
  rw [I.pw] at d3 d5
  by_cases hkJ:k=J
  · subst hkJ
    obtain ⟨g5,m1,m2⟩:=hru d1
    rw [d2] at m1
    injection m1 with m1
    subst m1
    left;omega
  · by_cases hlt:k < J
    · left
      have:((k:Int)+1)*h.pw<=(J:Int)*h.pw:=Int.mul_le_mul_of_nonneg_right (by omega) (by omega)
      rw [Int.add_mul,Int.one_mul] at this
      omega
    · right
      have:((J:Int)+1)*h.pw<=(k:Int)*h.pw:=Int.mul_le_mul_of_nonneg_right (by omega) (by omega)
      rw [Int.add_mul,Int.one_mul] at this
      omega
 have hcopy:∀ q,CopyAt x q->evWd (copyW x a) q=evWd x q/\q≠a/\q≠T:=fun q hc=>by
  have h1:=hbelow q hc
  obtain ⟨k,y0,l1,l2,l3,l4,l5,l6,l7⟩:=I.copy hc
  have h2:=I.old_copy ha hc
  have hne:q≠a:=by omega
  exact ⟨hout q hne (by omega),hne,by omega⟩
 have hcopyN:∀ q,CopyAt x q->evN (copyW x a) q=evN x q:=fun q hc=>by unfold evN;rw [(hcopy q hc).1]
 have hqd:∀ q∈x.queue,evWd (copyW x a) q=evWd x q:=fun q h1=>by
  rcases I.qs q h1 with h2 | h2
  · exact hold q h2 (fun e=>hq (by rw [<-e];exact h1))
  · exact (hcopy q h2).1
 have hcc:∀ q,CopyAt x q->CopyAt (copyW x a) q:=fun q hc=>by
  have h9:=hcopyN q hc
  have h8:=(hcopy q hc).1
  have hc2:=hc
  obtain ⟨k,y2,d1,d2,d3,d4,d5⟩:=hc
  by_cases hkJ:k=J
  · subst hkJ
    obtain ⟨g5,m1,m2⟩:=hru d1
    rw [d2] at m1
    injection m1 with m1
    subst m1
    refine ⟨k,g1,by rw [hTk];exact hJt,by rw [hP];exact hg1,by rw [hpw];rw [I.pw] at d3;exact d3,by rw [h8];exact d4,?_⟩
    rw [h9,hpw];rw [I.pw] at d5;omega
  · refine ⟨k,y2,by rw [hTk];exact (htk _).2 (Or.inl d1),by rw [hP,hoth k hkJ];exact d2,by rw [hpw];rw [I.pw] at d3;exact d3,by rw [h8];exact d4,?_⟩
    rw [h9,hpw];rw [I.pw] at d5;exact d5
 have hback:∀ q∈x.queue,CopyAt (copyW x a) q->CopyAt x q:=fun q h1 hc=>by
  rcases I.qs q h1 with h2 | h2
  · exfalso
    obtain ⟨k,y2,d1,d2,d3,d4,d5⟩:=hc
    obtain ⟨i3,j3,g3,b3⟩:=objects_begin h2
    have hb3:=b3.pos
    rw [hpw] at d3 d5
    have hge:1<=evN (copyW x a) q:=by have:=(evN_ok d4).1;omega
    rw [hTk] at d1
    rw [hP] at d2
    rcases (htk _).1 d1 with d1 | d1
    · obtain ⟨k3,y0,y3,l0,l1,l2,l3,l4,l5,l6⟩:=I.tk _ d1
      obtain rfl:k=k3:=by omega
      have h6:=begins_free b3 l1 l2
      have hul:y2.used<=h.pw:=by
       by_cases hkJ:k=J
       · subst hkJ;rw [hg1] at d2;injection d2 with d2;subst d2;omega
       · rw [hoth k hkJ,l3] at d2;injection d2 with d2;subst d2;exact l6
      omega
    · obtain rfl:k=J:=by omega
      have h6:=begins_free b3 hg0 hk0
      rw [hg1] at d2;injection d2 with d2;subst d2
      omega
  · exact h2
 have hTN:evN (copyW x a) T=N:=by unfold evN;rw [hnew];exact hN
 refine ⟨⟨I.ok,I.pw,I.np,I.sp,I.old,?_,?_,fun t h1=>?_,fun k g5 h1 h2=>?_,?_,fun c hc=>?_,fun q h1=>?_,fun q h1 r h2 cq cr hne=>?_,?_⟩,⟨rfl,⟨[T],hQ⟩,hqd⟩⟩
 · rw [hW,write_len kc,move_len (by omega) ka kb];exact hwl
 · rw [hP,hplen];exact I.pl
 · rw [hTk] at h1
   rw [hP]
   by_cases hkJ:t=J
   · exact ⟨J,g0,g1,hkJ,hg0,hk0,hg1,hk11,by omega,by omega⟩
   · obtain ⟨k3,y0,y3,l0,l1,l2,l3,l4,l5,l6⟩:=I.tk _ (((htk t).1 h1).resolve_right hkJ)
     exact ⟨k3,y0,y3,l0,l1,l2,by rw [hoth k3 (by omega)];exact l3,l4,l5,l6⟩
 · rw [hTk] at h2
   rw [hP]
   have hnt:¬(k:Int)∈x.taken:=fun h3=>h2 ((htk _).2 (Or.inl h3))
   have hkJ:k≠J:=fun e=>h2 ((htk _).2 (Or.inr (by rw [e])))
   obtain ⟨y5,l1,l2,l3⟩:=I.pg k g5 h1 hnt
   exact ⟨y5,by rw [hoth k hkJ];exact l1,l2,l3⟩
 · rw [hTk,hP];exact htl
 · have hstab:∀ i5 j5 g5,Begins h c i5 j5 g5->promB (copyW x a) i5=promB x i5:=fun i5 j5 g5 b5=>by
    have hnt:=I.begun b5
    have hkJ:i5≠J:=fun e=>by
     subst e
     have:=b5.pg
     rw [hg0] at this
     injection this with this
     subst this
     rcases b5.kd with ⟨k,-⟩ | ⟨k,-⟩ <;> omega
    refine promB_page (by rw [hP];exact hoth i5 hkJ) rfl ?_
    rw [hTk,htk]
    constructor
    · rintro (h | h)
      · exact h
      · omega
    · exact Or.inl
   obtain ⟨i5,j5,g5,b5⟩:=objects_begin hc
   by_cases hca:c=a
   · subst hca
     right
     refine ⟨by rw [hself];exact okT_fwd (by omega) (by omega),fun h1=>?_,?_⟩
     · rw [hQ] at h1
       rcases List.mem_append.1 h1 with h1 | h1
       · exact hq h1
       · have:=List.mem_singleton.1 h1;omega
     · rw [b5.oi,hstab _ _ _ b5]
       have:evI x c=i5:=by unfold evI;rw [I.pw,I.np];exact b5.oi
       rw [<-this];exact hpr
   · rw [hold c hc hca]
     rcases I.un c hc with h1 | ⟨h1,h2,h3⟩
     · exact Or.inl h1
     · refine Or.inr ⟨h1,fun h4=>?_,by rw [b5.oi] at h3 ⊢;rw [hstab _ _ _ b5];exact h3⟩
       rw [hQ] at h4
       rcases List.mem_append.1 h4 with h4 | h4
       · exact h2 h4
       · have h5:=List.mem_singleton.1 h4
         have h6:=begins_free b5 hg0 hk0
         have h7:=b5.pos
         omega
 · rw [hQ] at h1
   rcases List.mem_append.1 h1 with h1 | h1
   · rcases I.qs q h1 with h2 | h2
     · exact Or.inl h2
     · exact Or.inr (hcc q h2)
   · have h5:=List.mem_singleton.1 h1
     subst h5
     refine Or.inr ⟨J,g1,by rw [hTk];exact hJt,by rw [hP];exact hg1,by rw [hpw];omega,by rw [hnew];exact e1,?_⟩
     rw [hTN,hpw];omega
 · rw [hQ] at h1 h2
   rcases List.mem_append.1 h1 with m1 | m1 <;> rcases List.mem_append.1 h2 with m2 | m2
   · have cq2:=hback q m1 cq
     have cr2:=hback r m2 cr
     rw [hcopyN q cq2,hcopyN r cr2]
     exact I.dj q m1 r m2 cq2 cr2 hne
   · have h5:=List.mem_singleton.1 m2
     have cq2:=hback q m1 cq
     rw [h5,hcopyN q cq2,hTN]
     exact hbelow q cq2
   · have h5:=List.mem_singleton.1 m1
     have cr2:=hback r m2 cr
     rw [h5,hcopyN r cr2,hTN]
     exact (hbelow r cr2).symm
   · exact absurd ((List.mem_singleton.1 m1).trans (List.mem_singleton.1 m2).symm) hne
 · have h1:((objectsV h).filter (unseenB (copyW x a))).length+1<=((objectsV h).filter (unseenB x)).length:=by
    refine filter_less (c:=a) (fun c hc hu=>?_) ha ?_ ?_
    · unfold unseenB at hu ⊢
      by_cases hca:c=a
      · subst hca
        rw [hself,okT_fwd (by omega) (by omega)] at hu
        simp at hu
      · rw [hold c hc hca] at hu
        simp only [Bool.and_eq_true,decide_eq_true_eq] at hu ⊢
        exact ⟨fun h2=>hu.1 (by rw [hQ];exact List.mem_append_left _ h2),hu.2⟩
    · unfold unseenB;simp [hq,ht]
    · unfold unseenB;rw [hself,okT_fwd (by omega) (by omega)];simp
   have h2:(copyW x a).queue.length=x.queue.length+1:=by rw [hQ];simp
   have:=I.cnt
   omega
theorem Inv.forward {h:Hp} {x:Wk} (I:Inv h x) {a:Int} (he:evE x a=0):Inv h (evW x a)/\Later x (evW x a):=by
 unfold evE at he
 unfold evW
 by_cases h0:a=0\/a∈x.queue
 · have hc:evC x a=0:=by unfold evC;rw [if_pos h0]
   rw [hc];exact ⟨I,Later.refl x⟩
 have hq:¬a∈x.queue:=fun c=>h0 (Or.inr c)
 by_cases ho:¬a∈x.old
 · have hc:evC x a=1:=by unfold evC;rw [if_neg h0,if_pos ho]
   rw [hc] at he;exact absurd he (by decide)
 replace ho:a∈x.old:=Classical.not_not.1 ho
 have ho2:a∈objectsV h:=by rw [<-I.old];exact ho
 by_cases ht:okT (evWd x a).toNat=true
 · have hc:evC x a=2:=by unfold evC;rw [if_neg h0,if_neg (by simpa using ho),if_pos ht]
   rw [hc];exact ⟨I,Later.refl x⟩
 replace ht:okT (evWd x a).toNat=false:=by simpa using ht
 by_cases h3:¬ofE x.h.pw x.h.np a=0\/(x.h.pages.length:Int)<=evI x a
 · have hc:evC x a=3:=by unfold evC;rw [if_neg h0,if_neg (by simpa using ho),if_neg (by simp [ht]),if_pos h3]
   rw [hc] at he;exact absurd he (by decide)
 cases hpr:promB x (evI x a) with
 | true =>
  have hc:evC x a=4:=by unfold evC;rw [if_neg h0,if_neg (by simpa using ho),if_neg (by simp [ht]),if_neg h3,if_pos hpr]
  rw [hc];exact I.keep ho2 hq ht
 | false =>
  cases hbig:evBig x a with
  | true =>
   have hc:evC x a=5:=by unfold evC;rw [if_neg h0,if_neg (by simpa using ho),if_neg (by simp [ht]),if_neg h3,if_neg (by simp [hpr]),if_pos hbig]
   rw [hc]
   obtain ⟨i,j,g,b⟩:=objects_begin ho2
   have hoi:evI x a=i:=by unfold evI;rw [I.pw,I.np];exact b.oi
   obtain ⟨y,f1,f2,f3⟩:=I.pg i g b.pg (I.begun b)
   have hk:y.kind=2:=by
    unfold evBig at hbig
    rw [hoi,Int.toNat_natCast,getD_at f1] at hbig
    exact of_decide_eq_true hbig
   rw [hoi,Int.toNat_natCast]
   obtain ⟨I2,L2,e1,e2⟩:=I.large f1 hk
   obtain ⟨I3,L3⟩:=I2.keep ho2 (by rw [e2];exact hq) (by rw [e1];exact ht)
   exact ⟨I3,L2.trans L3⟩
  | false =>
   cases hpp:plB x (evN x a) with
   | true =>
    have hc:evC x a=7:=by unfold evC;rw [if_neg h0,if_neg (by simpa using ho),if_neg (by simp [ht]),if_neg h3,if_neg (by simp [hpr]),if_neg (by simp [hbig]),if_pos hpp]
    rw [hc];exact I.copied ho2 hq ht hpr hbig hpp
   | false =>
    have hc:evC x a=6:=by unfold evC;rw [if_neg h0,if_neg (by simpa using ho),if_neg (by simp [ht]),if_neg h3,if_neg (by simp [hpr]),if_neg (by simp [hbig]),if_neg (by simp [hpp])]
    rw [hc] at he;exact absurd he (by decide)
def rootsGo:Wk->List Int->List Int->Wk × List Int × Int
 | x,acc,[]=>(x,acc,0)
 | x,acc,r :: rs=>if evE x r=0 then rootsGo (evW x r) (acc ++ [evA x r]) rs else (Wk.zero,[],evE x r)
def RootsOK:Wk->List Int->Prop
 | _,[]=>True
 | x,r :: rs=>FwOK x/\(0<=r/\r < 18446744073709551616)/\(evE x r=0->RootsOK (evW x r) rs)
def beginW (h:Hp):Wk:=⟨{ h with pages:=h.pages.map fun g=>if g.kind=1/\0 < g.pins then ⟨g.kind,1 - h.space,g.used,g.pins⟩ else g },objectsV h,[],[],0,0,0,0,0,0,0⟩
def fillB (x:Wk) (a:Int):Bool:=promB x (ofI x.h.pw x.h.np a) && !decide (a∈x.queue)
def fillL (x:Wk) (a:Int):List Int:=encV 0 (evH x a).n 0 :: List.replicate (evH x a).n.toNat 0
def fillOne (x:Wk) (a:Int):Wk:=if fillB x a then { x with h:={ x.h with words:=writeV x.h.words a (fillL x a) },r2:=wrap64 (x.r2+1) } else x
def fillW (x:Wk):Wk:=x.old.foldl fillOne x
theorem evH_later {x y:Wk} (L:Later x y) {q:Int} (hq:q∈x.queue):evH y q=evH x q:=by
 unfold evH;rw [L.hd q hq]
theorem st_ok {h:Hp} {A:Int}:∀ (l:List Int) (x:Wk),Inv h x->A∈x.queue->(∀ i∈l,0<=i/\i < (evH x A).n)->StOK x A l/\((stGo x A l).2=0->Inv h (stGo x A l).1/\Later x (stGo x A l).1)
 | [],x,I,hA,_=>⟨trivial,fun _=>⟨I,Later.refl x⟩⟩
 | i :: r,x,I,hA,hl=>by
  obtain ⟨h0,h1⟩:=hl i (List.mem_cons_self ..)
  have key:evE x (loadV x.h.words (A+1+i))=0->Inv h (stNext x (A+1+i))/\Later x (stNext x (A+1+i)):=fun he=>by
   obtain ⟨I2,L2⟩:=I.forward he
   have hA2:=L2.mem hA
   obtain ⟨k1,k2,k3⟩:=I2.inside hA2 h0 (by rw [evH_later L2 hA];exact h1)
   obtain ⟨I3,L3⟩:=I2.write (v:=evA x (loadV x.h.words (A+1+i))) k1 k2 k3
   exact ⟨I3,L2.trans L3⟩
  have hrec:∀ he:evE x (loadV x.h.words (A+1+i))=0,StOK (stNext x (A+1+i)) A r/\((stGo (stNext x (A+1+i)) A r).2=0->Inv h (stGo (stNext x (A+1+i)) A r).1/\Later (stNext x (A+1+i)) (stGo (stNext x (A+1+i)) A r).1):=fun he=>by
   obtain ⟨I3,L3⟩:=key he
   exact st_ok r _ I3 (L3.mem hA) (fun j hj=>by rw [evH_later L3 hA];exact hl j (List.mem_cons_of_mem _ hj))
  refine ⟨⟨I.fwok,fun he=>(hrec he).1⟩,fun hz=>?_⟩
  rw [stGo] at hz ⊢
  by_cases he:evE x (loadV x.h.words (A+1+i))=0
  · rw [if_pos he] at hz ⊢
    obtain ⟨I4,L4⟩:=(hrec he).2 hz
    exact ⟨I4,(key he).2.trans L4⟩
  · rw [if_neg he] at hz
    exact absurd hz he
theorem stL_in {x:Wk} {A i:Int} (hi:i∈stL x A):0<=i/\i < (evH x A).n:=by
 have h:=ptrsV_mem hi
 unfold ptrB at h
 simp only [Bool.and_eq_true,decide_eq_true_eq] at h
 exact ⟨h.1.1.2,h.1.2⟩
theorem Inv.queue_bd {h:Hp} {x:Wk} (I:Inv h x) {A:Int} (hA:A∈x.queue):4096<=A/\A<=9000:=by
 rcases I.qs A hA with c | c
 · have:=at_bd (objectsV_at c).1;omega
 · obtain ⟨k,g0,f1,f2,f3,f4,f5,f6,f7⟩:=I.copy c
   have h1:=I.conf
   have h2:=page_prod (p:=(k:Int)) (okH_parts I.ok).1 (by omega) f3
   omega
theorem Inv.reports {h:Hp} {x:Wk} (I:Inv h x) (s a b c d e f:Int):Inv h { x with sc:=s,r0:=a,r1:=b,r2:=c,r3:=d,r4:=e,r5:=f } :=
 ⟨I.ok,I.pw,I.np,I.sp,I.old,I.wl,I.pl,I.tk,I.pg,I.tl,I.un,I.qs,I.dj,I.cnt⟩
theorem all_ok {h:Hp}:∀ (f:Nat) (x:Wk) (k:Nat),Inv h x->x.sc=k->k<=x.queue.length->(objectsV h).length+1<=k+f->AllOK f x/\((allV f x).2=0->Inv h (allV f x).1)
 | 0,x,k,I,hk,hq,hf=>by have:=I.qlen;omega
 | f+1,x,k,I,hk,hq,hf=>by
  have hql:=I.qlen
  cases hA:x.queue[k]? with
  | none =>
   refine ⟨⟨k,hk,by omega,Or.inl hA⟩,fun _=>?_⟩
   rw [allV_end hk hA];exact I
  | some A =>
   have hAm:=List.mem_of_getElem? hA
   have hkl:=(List.getElem?_eq_some_iff.1 hA).1
   have hbd:=I.queue_bd hAm
   obtain ⟨s1,s2⟩:=st_ok (stL x A) x I hAm (fun i hi=>stL_in hi)
   have key:stE x A=0->Inv h (stW x A)/\(stW x A).sc=((k+1:Nat):Int)/\k+1<=(stW x A).queue.length:=fun he=>by
    obtain ⟨I2,L2⟩:=s2 he
    refine ⟨I2.reports _ _ _ _ _ _ _,?_,?_⟩
    · show wrap64 ((stGo x A (stL x A)).1.sc+1)=_
      rw [L2.sc,hk];unfold wrap64;omega
    · show k+1<=(stGo x A (stL x A)).1.queue.length
      obtain ⟨l,e⟩:=L2.qu
      rw [e,List.length_append];omega
   have hrec:=fun he:stE x A=0=>all_ok f (stW x A) (k+1) (key he).1 (key he).2.1 (key he).2.2 (by omega)
   refine ⟨⟨k,hk,by omega,Or.inr ⟨A,hA,by omega,by omega,I.fwok.wl,s1,fun he=>⟨(key he).2.1,(hrec he).1⟩⟩⟩,fun hz=>?_⟩
   rw [allV_go hk hA] at hz ⊢
   by_cases he:stE x A=0
   · rw [if_pos he] at hz ⊢;exact (hrec he).2 hz
   · rw [if_neg he] at hz;exact absurd hz he
theorem roots_ok {h:Hp}:∀ (rs:List Int) (x:Wk) (acc:List Int),Inv h x->(∀ r∈rs,0<=r/\r < 18446744073709551616)->RootsOK x rs/\((rootsGo x acc rs).2.2=0->Inv h (rootsGo x acc rs).1/\Later x (rootsGo x acc rs).1/\(rootsGo x acc rs).2.1.length=acc.length+rs.length)
 | [],x,acc,I,_=>⟨trivial,fun _=>⟨I,Later.refl x,rfl⟩⟩
 | r :: rs,x,acc,I,hl=>by
  have hrec:∀ he:evE x r=0,_:=fun he=>roots_ok rs (evW x r) (acc ++ [evA x r]) (I.forward he).1 (fun q hq=>hl q (List.mem_cons_of_mem _ hq))
  refine ⟨⟨I.fwok,hl r (List.mem_cons_self ..),fun he=>(hrec he).1⟩,fun hz=>?_⟩
  rw [rootsGo] at hz ⊢
  by_cases he:evE x r=0
  · rw [if_pos he] at hz ⊢
    obtain ⟨I2,L2,e2⟩:=(hrec he).2 hz
    refine ⟨I2,(I.forward he).2.trans L2,?_⟩
    rw [e2];simp only [List.length_append,List.length_cons,List.length_nil];omega
  · rw [if_neg he] at hz
    exact absurd hz he
theorem begin_inv {h:Hp} (h1:okH h=true):Inv h (beginW h):=by
 refine ⟨h1,rfl,rfl,rfl,rfl,rfl,by show (List.map _ _).length=_;rw [List.length_map],fun t ht=>(by cases ht),fun k g0 hg hn=>?_,Nat.zero_le _,fun a ha=>Or.inl rfl,fun q hq=>(by cases hq),fun q hq=>(by cases hq),?_⟩
 · refine ⟨if g0.kind=1/\0 < g0.pins then ⟨g0.kind,1 - h.space,g0.used,g0.pins⟩ else g0,?_,?_,?_⟩
   · show (List.map _ _)[k]?=_;rw [List.getElem?_map,hg];rfl
   · split <;> rfl
   · split <;> rfl
 · show 0+_<=_
   have:=List.length_filter_le (unseenB (beginW h)) (objectsV h)
   omega
theorem fillOne_same (x:Wk) (a:Int):(fillOne x a).h.pw=x.h.pw/\(fillOne x a).h.np=x.h.np/\(fillOne x a).h.pages=x.h.pages/\(fillOne x a).h.space=x.h.space/\(fillOne x a).taken=x.taken/\(fillOne x a).queue=x.queue/\(fillOne x a).old=x.old/\(fillOne x a).h.bump=x.h.bump:=by
 unfold fillOne;split <;> exact ⟨rfl,rfl,rfl,rfl,rfl,rfl,rfl,rfl⟩
theorem fillB_one (x:Wk) (a b:Int):fillB (fillOne x a) b=fillB x b:=by
 obtain ⟨e1,e2,e3,e4,e5,e6,-,-⟩:=fillOne_same x a
 unfold fillB promB
 rw [e1,e2,e3,e4,e5,e6]
theorem fill_len {h:Hp}:∀ (l:List Int) (x:Wk),l.Pairwise (fun a b=>a+osz h a<=b)->(∀ a∈l,a∈objectsV h)->x.h.words.length=h.words.length->(∀ a∈l,fillB x a=true->evWd x a=loadV h.words a)->(l.foldl fillOne x).h.words.length=h.words.length
 | [],x,_,_,e,_=>e
 | a :: l,x,hp,hm,e,hev=>by
  obtain ⟨p1,p2⟩:=List.pairwise_cons.1 hp
  rw [List.foldl_cons]
  by_cases hb:fillB x a=true
  · have h1:=hev a (List.mem_cons_self ..) hb
    have ha:=hm a (List.mem_cons_self ..)
    obtain ⟨e1,e2,e3,-⟩:=old_ev ha h1
    obtain ⟨i,j,g,b⟩:=objects_begin ha
    have hpos:=b.pos
    have hwl:=b.wl
    have hln:((fillL x a).length:Int)=osz h a:=by unfold fillL;rw [List.length_cons,List.length_replicate];omega
    have hok:okA x.h.words.length a (fillL x a).length=true:=okA_iff.2 (by omega)
    have hW:(fillOne x a).h.words=writeV x.h.words a (fillL x a):=by unfold fillOne;rw [if_pos hb]
    refine fill_len l _ p2 (fun c hc=>hm c (List.mem_cons_of_mem _ hc)) (by rw [hW,write_len hok];exact e) (fun c hc hf=>?_)
    rw [fillB_one] at hf
    have h2:=hev c (List.mem_cons_of_mem _ hc) hf
    have h3:=p1 c hc
    rw [<-h2]
    unfold evWd
    rw [hW,load_write_out hok (by omega)]
  · have hW:fillOne x a=x:=by unfold fillOne;rw [if_neg hb]
    rw [hW]
    exact fill_len l x p2 (fun c hc=>hm c (List.mem_cons_of_mem _ hc)) e (fun c hc hf=>hev c (List.mem_cons_of_mem _ hc) hf)
theorem Inv.fill {h:Hp} {x:Wk} (I:Inv h x):(fillW x).h.words.length=h.words.length:=by
 unfold fillW
 rw [I.old]
 refine fill_len _ x (objects_sorted h) (fun a ha=>ha) I.wl (fun a ha hf=>?_)
 unfold fillB at hf
 simp only [Bool.and_eq_true,Bool.not_eq_true',decide_eq_false_iff_not] at hf
 rcases I.un a ha with c | ⟨-,-,c3⟩
 · exact c
 · rw [I.pw,I.np] at hf
   rw [c3] at hf;exact absurd hf.1 (by decide)
structure Wd where
 h:Hp
 st:List Int
 wk:List Int
def frB (x:Wk) (k:Nat):Bool:=!decide ((x.h.pages.getD k Pg.zero).kind=0) && decide ((x.h.pages.getD k Pg.zero).space=x.h.space)
def frPs (x:Wk):Nat->List Pg
 | 0=>x.h.pages
 | k+1=>if frB x k then (frPs x k).set k Pg.zero else frPs x k
def frWs (x:Wk):Nat->List Int
 | 0=>x.h.words
 | k+1=>if frB x k then splice (frWs x k) (k*x.h.pw.toNat) (List.replicate x.h.pw.toNat 0) else frWs x k
def frR (x:Wk):Nat->Int
 | 0=>x.r3
 | k+1=>if frB x k then wrap64 (frR x k+1) else frR x k
def freeW (x:Wk):Wk:={ x with h:={ x.h with pages:=frPs x x.h.pages.length,words:=frWs x x.h.pages.length },r3:=frR x x.h.pages.length }
theorem frPs_len (x:Wk):∀ k,(frPs x k).length=x.h.pages.length
 | 0=>rfl
 | k+1=>by rw [frPs];split <;> simp [frPs_len x k]
theorem page_words {k m n:Nat} {pw:Int} (h0:0<=pw) (hk:k < m) (hn:(n:Int)=m*pw):k*pw.toNat+pw.toNat<=n:=by
 obtain ⟨q,rfl⟩:∃ q:Nat,pw=q:=⟨pw.toNat,by omega⟩
 rw [Int.toNat_natCast]
 have h1:(k+1)*q<=m*q:=Nat.mul_le_mul_right _ (by omega)
 rw [Nat.add_mul,Nat.one_mul] at h1
 have h2:((m*q:Nat):Int)=n:=by rw [Int.natCast_mul];exact hn.symm
 omega
theorem frWs_len (x:Wk) (h0:0<=x.h.pw) (hw:(x.h.words.length:Int)=x.h.pages.length*x.h.pw):∀ k,k<=x.h.pages.length->(frWs x k).length=x.h.words.length
 | 0,_=>rfl
 | k+1,hk=>by
  have ih:=frWs_len x h0 hw k (by omega)
  rw [frWs];split
  · rw [splice_len (by rw [List.length_replicate,ih];exact page_words h0 (by omega) hw)];exact ih
  · exact ih
def afterV (x:Wk) (a:Int):Int:=if a∈x.queue then a else tgtV (evWd x a).toNat
def leftV (x:Wk) (a:Int):Int:=if a=0 then 0 else afterV x a
def clrOne (x:Wk) (r a:Int):Int:=if a=0 then r else if afterV x a=0 then wrap64 (r+1) else r
def collR (h:Hp) (st:List Int):Wk × List Int × Int:=rootsGo (beginW h) [] st
def collA (h:Hp) (st:List Int):Wk × Int:=allV ((objectsV h).length+1) (collR h st).1
def collX (h:Hp) (st wk:List Int):Wk:={ (collA h st).1 with r4:=wk.foldl (clrOne (collA h st).1) (collA h st).1.r4 }
def collW (h:Hp) (st wk:List Int):Wk:=freeW (fillW (collX h st wk))
def collE (h:Hp) (st wk:List Int):Int:=if okH h then (if refersB h st && refersB h wk then (if (collR h st).2.2=0 then (collA h st).2 else (collR h st).2.2) else 19) else 1
def collH (h:Hp) (st wk:List Int):Hp:={ (collW h st wk).h with space:=1 - (collW h st wk).h.space,bump:=((collW h st wk).taken.getLast?).getD (-1) }
def collS (h:Hp) (st:List Int):List Int:=(collR h st).2.1
def collK (h:Hp) (st wk:List Int):List Int:=wk.map (leftV (collA h st).1)
def putV (x:Wd) (k n m:Int):Wd:=⟨allocH x.h k n m,x.st ++ [allocA x.h k n m],x.wk⟩
inductive MStep:Wd->Wd->Prop
 | none (x:Wd):MStep x x
 | put (x:Wd) (k n m:Int):1<=k->k<=3->0<=n->n<=100->0<=m->m < 4096->allocE x.h k n m=0->MStep x (putV x k n m)
 | link (x:Wd) (a i b:Int):a∈0 :: (x.st ++ x.wk)->getE x.h a=0->0<=i->i < (getH x.h a).n->0<=b->b < 18446744073709551616->(ptrB (getH x.h a).k (getH x.h a).n (getH x.h a).m i=true->b∈0 :: (x.st ++ x.wk))->MStep x { x with h:=setV x.h a i b }
 | pin (x:Wd) (a:Int) (i:Nat) (g:Pg) (p:Int):a∈0 :: (x.st ++ x.wk)->ofE x.h.pw x.h.np a=0->ofI x.h.pw x.h.np a=i->x.h.pages[i]?=some g->((0 < g.pins/\p=g.pins - 1)\/(p=g.pins+1/\(0 < g.pins\/g.kind=2\/(crowdN x.h.pages:Int) < x.h.np / 4)))->MStep x { x with h:={ x.h with pages:=x.h.pages.set i ⟨g.kind,g.space,g.used,p⟩ } }
 | drop (x:Wd) (i:Nat) (r:Int) (b:Bool):x.st[i]?=some r->MStep x ⟨x.h,x.st.take i ++ x.st.drop (i+1),if b then x.wk ++ [r] else x.wk⟩
 | collect (x:Wd):collE x.h x.st x.wk=0->MStep x ⟨collH x.h x.st x.wk,collS x.h x.st,collK x.h x.st x.wk⟩
 | dup (x:Wd) (a:Int):a∈0 :: (x.st ++ x.wk)->MStep x ⟨x.h,x.st ++ [a],x.wk⟩
inductive Made:Nat->Wd->Prop
 | empty (pw np:Int):(pw=16\/pw=20\/pw=32)->(np=8\/np=12\/np=16\/np=20\/np=24)->Made 0 ⟨newHV pw np,[],[]⟩
 | step (n:Nat) (x y:Wd):Made n x->MStep x y->Made (n+1) y
theorem mem_u64 {st wk:List Int} (h1:WB st) (h2:WB wk) {a:Int} (h:a∈0 :: (st ++ wk)):0<=a/\a < 18446744073709551616:=by
 simp only [List.mem_cons,List.mem_append] at h
 rcases h with rfl | h | h
 · exact ⟨by omega,by omega⟩
 · exact h1 _ h
 · exact h2 _ h
structure Lens (n:Nat) (x:Wd):Prop where
 conf:confB x.h.pw x.h.np=true
 words:(x.h.words.length:Int)=x.h.np*x.h.pw
 pages:(x.h.pages.length:Int)=x.h.np
 st:WB x.st
 wk:WB x.wk
 stn:x.st.length<=n
 wkn:x.wk.length<=n
 pins:∀ g∈x.h.pages,0<=g.pins/\g.pins<=n
theorem field_zero {h:Hp} {a i:Int} (hg:getE h a=0) (h0:0<=i) (h1:i < (getH h a).n):fieldE h a i=0/\okA h.words.length (a+1+i) 1=true:=by
 obtain ⟨g1,g2,g3,-,-,g6,-,-,-,-⟩:=getE_in hg
 obtain ⟨k,j,g,b⟩:=begins g2
 have h2:=b.wl
 have h3:osz h a=(atH h a).n+1:=rfl
 rw [g3] at h1
 have hk:okA h.words.length (a+1+i) 1=true:=okA_iff.2 ⟨by omega,by omega⟩
 refine ⟨?_,hk⟩
 unfold fieldE
 rw [if_pos hg,if_neg (by rw [g3];omega)]
 unfold loadE
 rw [if_pos hk]
theorem Lens.up {n:Nat} {x:Wd} (h:Lens n x):Lens (n+1) x :=
 ⟨h.conf,h.words,h.pages,h.st,h.wk,by have:=h.stn;omega,by have:=h.wkn;omega,fun g hg=>by have:=h.pins g hg;omega⟩
theorem lens_empty {pw np:Int} (h1:pw=16\/pw=20\/pw=32) (h2:np=8\/np=12\/np=16\/np=20\/np=24):Lens 0 ⟨newHV pw np,[],[]⟩:=by
 have hc:confB pw np=true:=conf_mk (by omega)
 have hp:=conf_prod hc
 rw [(newH_ok hc).1]
 refine ⟨hc,?_,?_,WB.nil,WB.nil,Nat.le_refl _,Nat.le_refl _,fun g hg=>?_⟩
 · show ((List.replicate (np*pw).toNat (0:Int)).length:Int)=np*pw
   rw [List.length_replicate];omega
 · show ((List.replicate np.toNat Pg.zero).length:Int)=np
   rw [List.length_replicate];omega
 · obtain ⟨-,rfl⟩:=List.mem_replicate.1 hg
   exact ⟨by decide,by decide⟩
theorem lens_link {n:Nat} {x:Wd} (h:Lens n x) {a i b:Int} (hg:getE x.h a=0) (h0:0<=i) (h1:i < (getH x.h a).n) (b0:0<=b) (b1:b < 18446744073709551616):Lens (n+1) { x with h:=setV x.h a i b }:=by
 obtain ⟨h2,h3⟩:=field_zero hg h0 h1
 have e:setV x.h a i b={ x.h with words:=writeV x.h.words (a+1+i) [b] }:=by unfold setV;exact if_pos h2
 rw [e]
 have hl:(writeV x.h.words (a+1+i) [b]).length=x.h.words.length:=write_len (l:=[b]) h3
 refine ⟨h.conf,?_,h.pages,h.st,h.wk,by have:=h.stn;show x.st.length<=_;omega,by have:=h.wkn;show x.wk.length<=_;omega,fun g hg=>by have:=h.pins g hg;omega⟩
 show ((writeV x.h.words (a+1+i) [b]).length:Int)=x.h.np*x.h.pw
 rw [hl];exact h.words
theorem lens_pin {n:Nat} {x:Wd} (h:Lens n x) {i:Nat} {g:Pg} {p:Int} (hg:x.h.pages[i]?=some g) (hp:(0 < g.pins/\p=g.pins - 1)\/p=g.pins+1):Lens (n+1) { x with h:={ x.h with pages:=x.h.pages.set i ⟨g.kind,g.space,g.used,p⟩ } }:=by
 have h1:=h.pins g (List.mem_of_getElem? hg)
 refine ⟨h.conf,h.words,?_,h.st,h.wk,by have:=h.stn;show x.st.length<=_;omega,by have:=h.wkn;show x.wk.length<=_;omega,fun f hf=>?_⟩
 · show ((x.h.pages.set i _).length:Int)=x.h.np
   rw [List.length_set];exact h.pages
 · rcases List.mem_or_eq_of_mem_set hf with h2 | rfl
   · have:=h.pins f h2;omega
   · show 0<=p/\p<=((n+1:Nat):Int);omega
theorem lens_drop {n:Nat} {x:Wd} (h:Lens n x) {i:Nat} {r:Int} (b:Bool) (hr:x.st[i]?=some r):Lens (n+1) ⟨x.h,x.st.take i ++ x.st.drop (i+1),if b then x.wk ++ [r] else x.wk⟩:=by
 have hrb:=h.st r (List.mem_of_getElem? hr)
 refine ⟨h.conf,h.words,h.pages,fun y hy=>?_,fun y hy=>?_,?_,?_,fun g hg=>by have:=h.pins g hg;omega⟩
 · rcases List.mem_append.1 hy with h2 | h2
   · exact h.st y (List.mem_of_mem_take h2)
   · exact h.st y (List.mem_of_mem_drop h2)
 · cases b with
   | false=>exact h.wk y hy
   | true =>
    rcases List.mem_append.1 hy with h2 | h2
    · exact h.wk y h2
    · rw [List.mem_singleton.1 h2];exact hrb
 · have:=h.stn
   show (x.st.take i ++ x.st.drop (i+1)).length<=n+1
   rw [List.length_append,List.length_take,List.length_drop];omega
 · have:=h.wkn
   cases b with
   | false=>show x.wk.length<=_;omega
   | true=>show (x.wk ++ [r]).length<=_;rw [List.length_append];simp;omega
theorem lens_dup {n:Nat} {x:Wd} (h:Lens n x) {a:Int} (ha:a∈0 :: (x.st ++ x.wk)):Lens (n+1) ⟨x.h,x.st ++ [a],x.wk⟩:=by
 have hab:=mem_u64 h.st h.wk ha
 refine ⟨h.conf,h.words,h.pages,fun y hy=>?_,h.wk,?_,by have:=h.wkn;show x.wk.length<=_;omega,fun g hg=>by have:=h.pins g hg;omega⟩
 · rcases List.mem_append.1 hy with h2 | h2
   · exact h.st y h2
   · rw [List.mem_singleton.1 h2];exact hab
 · have:=h.stn
   show (x.st ++ [a]).length<=_
   rw [List.length_append];simp;omega
def PutKeeps:Prop:=∀ (n:Nat) (x:Wd) (k l m:Int),n<=400->Made n x->Lens n x->1<=k->k<=3->0<=l->l<=100->0<=m->m < 4096->allocE x.h k l m=0->Lens (n+1) (putV x k l m)
def CollectKeeps:Prop:=∀ (n:Nat) (x:Wd),n<=400->Made n x->Lens n x->collE x.h x.st x.wk=0->Lens (n+1) ⟨collH x.h x.st x.wk,collS x.h x.st,collK x.h x.st x.wk⟩
theorem lens_all (hP:PutKeeps) (hC:CollectKeeps):∀ n x,Made n x->n<=400->Lens n x:=by
 intro n x hm
 induction hm with
 | empty pw np h1 h2=>exact fun _=>lens_empty h1 h2
 | step n x y hm hs ih =>
  intro hn
  have h:=ih (by omega)
  cases hs with
  | none=>exact h.up
  | put k l m h1 h2 h3 h4 h5 h6 h7=>exact hP n x k l m (by omega) hm h h1 h2 h3 h4 h5 h6 h7
  | link a i b h1 h2 h3 h4 h5 h6 h7=>exact lens_link h h2 h3 h4 h5 h6
  | pin a i g p h1 h2 h3 h4 h5=>exact lens_pin h h4 (by rcases h5 with h5 | h5;exact Or.inl h5;exact Or.inr h5.1)
  | drop i r b h1=>exact lens_drop h b h1
  | collect h1=>exact hC n x (by omega) hm h h1
  | dup a h1=>exact lens_dup h h1
def PinL (B:Int) (ps:List Pg):Prop:=∀ g∈ps,0<=g.pins/\g.pins<=B
theorem PinL.nil (B:Int):PinL B []:=fun g h=>by cases h
theorem PinL.set {B:Int} {ps:List Pg} (h:PinL B ps) {g:Pg} (hg:0<=g.pins/\g.pins<=B) (i:Nat):PinL B (ps.set i g):=fun f hf=>by
 rcases List.mem_or_eq_of_mem_set hf with h2 | rfl
 · exact h f h2
 · exact hg
theorem PinL.getD {B:Int} {ps:List Pg} (h:PinL B ps) (hB:0<=B) (i:Nat):0<=(ps.getD i Pg.zero).pins/\(ps.getD i Pg.zero).pins<=B:=by
 rw [List.getD_eq_getElem?_getD]
 cases e:ps[i]? with
 | none=>exact ⟨Int.le_refl _,hB⟩
 | some g=>exact h g (List.mem_of_getElem? e)
theorem PinL.use {B:Int} {ps:List Pg} (h:PinL B ps) (hB:0<=B) (j:Nat) (n:Int):PinL B (useAt ps j n) :=
 h.set (g:=⟨(ps.getD j Pg.zero).kind,(ps.getD j Pg.zero).space,(ps.getD j Pg.zero).used+n,(ps.getD j Pg.zero).pins⟩) (h.getD hB j) j
theorem PinL.puts {B:Int} {b:Pg} (hb:0<=b.pins/\b.pins<=B) (k:Nat) (ps:List Pg) (i:Nat) (h:PinL B ps):PinL B (put ps i k b):=fun g hg=>by
 unfold put at hg
 rcases List.mem_append.1 hg with h1 | h1
 · rcases List.mem_append.1 h1 with h2 | h2
   · exact h g (List.mem_of_mem_take h2)
   · obtain ⟨-,rfl⟩:=List.mem_replicate.1 h2;exact hb
 · exact h g (List.mem_of_mem_drop h1)
theorem PinL.take {B:Int} {ps:List Pg} (h:PinL B ps) (hB:0<=B) (i k:Int) {a b:Pg} (ha:a.pins=0) (hb:b.pins=0):PinL B (takeV ps i k a b):=by
 unfold takeV
 split
 · split
   · exact (PinL.puts (by rw [hb];omega) _ _ _ h).set (by rw [ha];omega) _
   · exact PinL.nil B
 · exact PinL.nil B
theorem PinL.spc {B:Int} {ps:List Pg} (h:PinL B ps) (i k:Nat) (sp:Int):PinL B (spc ps i k sp):=fun g hg=>by
 obtain ⟨j,hj,rfl⟩:=List.mem_mapIdx.1 hg
 have:=h ps[j] (List.getElem_mem hj)
 split <;> exact this
theorem pin_evW {B:Int} (hB:0<=B) {x:Wk} (h:PinL B x.h.pages) (a:Int):PinL B (evW x a).h.pages:=by
 unfold evW
 split
 · exact h
 · exact h
 · exact h
 · exact h.spc _ _ _
 · show PinL B (useAt (plPs x (evN x a)) _ _)
   refine PinL.use ?_ hB _ _
   unfold plPs
   split
   · exact h
   · unfold smallPV
     split
     · exact h.take hB _ _ rfl rfl
     · exact PinL.nil B
 · exact PinL.nil B
theorem pin_stNext {B:Int} (hB:0<=B) {x:Wk} (h:PinL B x.h.pages) (p:Int):PinL B (stNext x p).h.pages:=pin_evW hB h _
theorem pin_stGo {B:Int} (hB:0<=B):∀ (l:List Int) (x:Wk) (A:Int),PinL B x.h.pages->PinL B (stGo x A l).1.h.pages
 | [],_,_,h=>h
 | i :: r,x,A,h=>by
  rw [stGo]
  split
  · exact pin_stGo hB r _ A (pin_stNext hB h _)
  · exact PinL.nil B
theorem pin_allV {B:Int} (hB:0<=B):∀ (f:Nat) (x:Wk),PinL B x.h.pages->PinL B (allV f x).1.h.pages
 | 0,_,h=>h
 | f+1,x,h=>by
  unfold allV
  split
  · exact h
  · split
    · exact pin_allV hB f _ (pin_stGo hB _ x _ h)
    · exact PinL.nil B
theorem pin_roots {B:Int} (hB:0<=B):∀ (rs:List Int) (x:Wk) (acc:List Int),PinL B x.h.pages->PinL B (rootsGo x acc rs).1.h.pages
 | [],_,_,h=>h
 | r :: rs,x,acc,h=>by
  rw [rootsGo]
  split
  · exact pin_roots hB rs _ _ (pin_evW hB h r)
  · exact PinL.nil B
theorem pin_begin {B:Int} {h:Hp} (hp:PinL B h.pages):PinL B (beginW h).h.pages:=fun g hg=>by
 obtain ⟨f,hf,rfl⟩:=List.mem_map.1 (show g∈List.map _ h.pages from hg)
 have:=hp f hf
 split <;> exact this
theorem fills_pages:∀ (l:List Int) (x:Wk),(l.foldl fillOne x).h.pages=x.h.pages/\(l.foldl fillOne x).h.pw=x.h.pw/\(l.foldl fillOne x).h.np=x.h.np
 | [],_=>⟨rfl,rfl,rfl⟩
 | a :: l,x=>by
  obtain ⟨e1,e2,e3⟩:=fills_pages l (fillOne x a)
  obtain ⟨f1,f2,f3,-⟩:=fillOne_same x a
  exact ⟨e1.trans f3,e2.trans f1,e3.trans f2⟩
theorem pin_free {B:Int} (hB:0<=B) {x:Wk} (h:PinL B x.h.pages):∀ k,PinL B (frPs x k)
 | 0=>h
 | k+1=>by
  rw [frPs]
  split
  · exact (pin_free hB h k).set ⟨Int.le_refl _,hB⟩ k
  · exact pin_free hB h k
theorem tgt_bd (n:Nat):0<=tgtV n/\tgtV n < 18446744073709551616:=by
 unfold tgtV
 split
 · rename_i h
   have:=okT_parts h
   omega
 · omega
theorem evA_in {h:Hp} {x:Wk} (I:Inv h x) {a:Int} (ha:0<=a/\a < 18446744073709551616) (he:evE x a=0):0<=evA x a/\evA x a < 18446744073709551616:=by
 have I2:=(I.forward he).1
 unfold evA
 split
 · exact ha
 · exact tgt_bd _
 · exact ha
 · exact ha
 · rename_i h7
   have hq:plA x (evN x a)∈(evW x a).queue:=by
    have e:evW x a=copyW x a:=by unfold evW;rw [h7];rfl
    rw [e];exact List.mem_append_right _ (List.mem_singleton.2 rfl)
   have:=I2.queue_bd hq
   omega
 · omega
theorem roots_bd {h:Hp}:∀ (rs:List Int) (x:Wk) (acc:List Int),Inv h x->WB rs->WB acc->WB (rootsGo x acc rs).2.1
 | [],_,_,_,_,h=>h
 | r :: rs,x,acc,I,hl,ha=>by
  rw [rootsGo]
  by_cases he:evE x r=0
  · rw [if_pos he]
    refine roots_bd rs _ _ (I.forward he).1 (fun q hq=>hl q (List.mem_cons_of_mem _ hq)) (fun q hq=>?_)
    rcases List.mem_append.1 hq with h1 | h1
    · exact ha q h1
    · rw [List.mem_singleton.1 h1];exact evA_in I (hl r (List.mem_cons_self ..)) he
  · rw [if_neg he];exact WB.nil
theorem collect_keeps:CollectKeeps:=by
 intro n x hn hm L hc
 have hE:okH x.h=true/\(collR x.h x.st).2.2=0/\(collA x.h x.st).2=0:=by
  unfold collE at hc
  split at hc
  · rename_i h1
    split at hc
    · split at hc
      · rename_i h3;exact ⟨h1,h3,hc⟩
      · rename_i h3;exact absurd hc h3
    · exact absurd hc (by decide)
  · exact absurd hc (by decide)
 obtain ⟨h1,h2,h3⟩:=hE
 obtain ⟨-,hr⟩:=roots_ok x.st (beginW x.h) [] (begin_inv h1) L.st
 obtain ⟨I7,L7,e7⟩:=hr h2
 have hsc7:(rootsGo (beginW x.h) [] x.st).1.sc=((0:Nat):Int):=L7.sc
 obtain ⟨-,ha⟩:=all_ok ((objectsV x.h).length+1) (rootsGo (beginW x.h) [] x.st).1 0 I7 hsc7 (Nat.zero_le _) (by omega)
 have I8:Inv x.h (collA x.h x.st).1:=ha h3
 have I9:Inv x.h (collX x.h x.st x.wk):=I8.reports _ _ _ _ _ _ _
 have hB:(0:Int)<=n:=by omega
 have p8:PinL n (collA x.h x.st).1.h.pages:=pin_allV hB _ _ (pin_roots hB _ _ _ (pin_begin L.pins))
 obtain ⟨f1,f2,f3⟩:=fills_pages (collX x.h x.st x.wk).old (collX x.h x.st x.wk)
 have hfl:=I9.fill
 have hpl:(fillW (collX x.h x.st x.wk)).h.pages.length=x.h.pages.length:=by
  rw [show (fillW (collX x.h x.st x.wk)).h.pages=(collX x.h x.st x.wk).h.pages from f1];exact I9.pl
 have hpw:(fillW (collX x.h x.st x.wk)).h.pw=x.h.pw:=(show (fillW (collX x.h x.st x.wk)).h.pw=(collX x.h x.st x.wk).h.pw from f2).trans I9.pw
 have hnp:(fillW (collX x.h x.st x.wk)).h.np=x.h.np:=(show (fillW (collX x.h x.st x.wk)).h.np=(collX x.h x.st x.wk).h.np from f3).trans I9.np
 have hcf:=conf_parts L.conf
 have hfw:=frWs_len (fillW (collX x.h x.st x.wk)) (by rw [hpw];omega) (by rw [hfl,hpl,hpw,L.pages];exact L.words) (fillW (collX x.h x.st x.wk)).h.pages.length (Nat.le_refl _)
 refine ⟨?_,?_,?_,?_,fun a ha=>?_,?_,?_,?_⟩
 · show confB (fillW (collX x.h x.st x.wk)).h.pw (fillW (collX x.h x.st x.wk)).h.np=true
   rw [hpw,hnp];exact L.conf
 · show ((frWs (fillW (collX x.h x.st x.wk)) (fillW (collX x.h x.st x.wk)).h.pages.length).length:Int)=(fillW (collX x.h x.st x.wk)).h.np*(fillW (collX x.h x.st x.wk)).h.pw
   rw [hfw,hfl,hpw,hnp];exact L.words
 · show ((frPs (fillW (collX x.h x.st x.wk)) (fillW (collX x.h x.st x.wk)).h.pages.length).length:Int)=(fillW (collX x.h x.st x.wk)).h.np
   rw [frPs_len,hpl,hnp];exact L.pages
 · exact roots_bd x.st (beginW x.h) [] (begin_inv h1) L.st WB.nil
 · obtain ⟨b,hb,rfl⟩:=List.mem_map.1 ha
   have hbb:=L.wk b hb
   unfold leftV afterV
   split
   · omega
   · split
     · exact hbb
     · exact tgt_bd _
 · have:=L.stn
   show (rootsGo (beginW x.h) [] x.st).2.1.length<=_
   rw [e7];simp;omega
 · have:=L.wkn
   show (List.map _ x.wk).length<=_
   rw [List.length_map];omega
 · intro g hg
   have:=pin_free hB (x:=fillW (collX x.h x.st x.wk)) (by rw [show (fillW (collX x.h x.st x.wk)).h.pages=(collX x.h x.st x.wk).h.pages from f1];exact p8) _ g hg
   omega
def spaceB (n:Int):Bool:=decide (n=0\/n=1)
def freeOK (x:Pg):Bool:=decide (x.space=0/\x.used=0/\x.pins=0)
def smallOK (pw:Int) (x:Pg):Bool:=spaceB x.space && decide (0<=x.used/\x.used<=pw) && pinsB x.pins
def ownedAt (pw np:Int) (ps:List Pg):Nat->Int->Bool
 | 0,_=>false
 | m+1,b=>if (ps.getD m Pg.zero).kind=2 then decide (b < needV pw np (ps.getD m Pg.zero).used) else ownedAt pw np ps m (b+1)
def ownedB (pw np:Int) (ps:List Pg) (i:Nat):Bool:=ownedAt pw np ps i 1
def tailOK (pw np:Int) (ps:List Pg) (i:Nat) (x:Pg):Bool:=decide (x.used=0/\x.pins=0) && ownedB pw np ps i
def largeOK (pw np:Int) (ps:List Pg) (i:Nat) (x:Pg):Bool :=
 spaceB x.space && decide (1<=needV pw np x.used) && pinsB x.pins && decide ((i:Int)+needV pw np x.used<=ps.length) && allTails x.space ((ps.drop (i+1)).take ((needV pw np x.used).toNat - 1))
def pageOK (pw np:Int) (ps:List Pg) (i:Nat) (x:Pg):Bool :=
 if x.kind=0 then freeOK x else if x.kind=1 then smallOK pw x else if x.kind=2 then largeOK pw np ps i x else if x.kind=3 then tailOK pw np ps i x else false
def tableFrom (pw np:Int) (ps:List Pg):Nat->List Pg->Bool
 | _,[]=>true
 | i,x :: r=>pageOK pw np ps i x && tableFrom pw np ps (i+1) r
def tableOK (pw np:Int) (ps:List Pg):Bool:=tableFrom pw np ps 0 ps
def properP (pw np:Int) (nw:Nat) (ps:List Pg) (sp b:Int):Bool :=
 confB pw np && decide ((nw:Int)=np*pw) && decide ((ps.length:Int)=np) && spaceB sp && bumpB ps b && tableOK pw np ps
theorem put_head {ps:List Pg} {i k:Nat} {x y:Pg} (h:i+k<=ps.length) (h1:1<=k):(put ps i k y).set i x=put (ps.set i x) (i+1) (k - 1) y:=by
 have hl:(ps.set i x).length=ps.length:=List.length_set
 apply List.ext_getElem?
 intro j
 rw [List.getElem?_set]
 have hp:(put ps i k y).length=ps.length:=put_len h
 by_cases hj:i=j
 · rw [if_pos hj,if_pos (by omega),put_get (by omega) (Or.inr (by omega)),List.getElem?_set,if_pos hj,if_pos (by omega)]
 · rw [if_neg hj]
   by_cases h2:i+1<=j/\j < i+k
   · rw [put_in h (by omega) (by omega),put_in (by omega) h2.1 (by omega)]
   · rw [put_get h (by omega),put_get (by omega) (by omega),List.getElem?_set,if_neg hj]
theorem space_le {sp:Int}:spaceB sp=true↔0<=sp/\sp<=1:=by
 unfold spaceB;rw [decide_eq_true_eq];omega
theorem tableFrom_iff (pw np:Int) (ps:List Pg):∀ (l:List Pg) (i:Nat),tableFrom pw np ps i l=true↔∀ j x,l[j]?=some x->pageOK pw np ps (i+j) x=true
 | [],i=>by simp [tableFrom]
 | y :: r,i=>by
  rw [tableFrom,Bool.and_eq_true,tableFrom_iff pw np ps r (i+1)]
  constructor
  · rintro ⟨h1,h2⟩ j x hx
    cases j with
    | zero=>simp at hx;subst hx;exact h1
    | succ j=>rw [List.getElem?_cons_succ] at hx;have:=h2 j x hx;rwa [show i+1+j=i+(j+1) by omega] at this
  · intro h
    refine ⟨h 0 y rfl,fun j x hx=>?_⟩
    have:=h (j+1) x (by rw [List.getElem?_cons_succ];exact hx)
    rwa [show i+(j+1)=i+1+j by omega] at this
theorem tableOK_iff {pw np:Int} {ps:List Pg}:tableOK pw np ps=true↔∀ i x,ps[i]?=some x->pageOK pw np ps i x=true:=by
 unfold tableOK
 rw [tableFrom_iff]
 simp only [Nat.zero_add]
theorem allTails_iff {sp:Int} {ps:List Pg} {i m:Nat}:allTails sp ((ps.drop i).take m)=true↔∀ t,i<=t->t < i+m->∀ z,ps[t]?=some z->z.kind=3/\z.space=sp:=by
 unfold allTails
 rw [List.all_eq_true]
 constructor
 · intro h t h1 h2 z hz
   have hm:z∈(ps.drop i).take m:=by
    refine List.mem_of_getElem? (i:=t - i) ?_
    rw [List.getElem?_take,if_pos (by omega),List.getElem?_drop,show i+(t - i)=t by omega];exact hz
   exact of_decide_eq_true (h z hm)
 · intro h z hz
   obtain ⟨j,hj⟩:=List.getElem?_of_mem hz
   rw [List.getElem?_take] at hj
   split at hj
   · rename_i hjm
     rw [List.getElem?_drop] at hj
     exact decide_eq_true (h (i+j) (by omega) (by omega) z hj)
   · cases hj
theorem owned_iff (pw np:Int) (ps:List Pg):∀ (t:Nat) (b:Int),ownedAt pw np ps t b=true↔∃ l,l < t/\(ps.getD l Pg.zero).kind=2/\(∀ m,l < m->m < t->¬(ps.getD m Pg.zero).kind=2)/\b+(t - 1 - l:Int) < needV pw np (ps.getD l Pg.zero).used
 | 0,b=>by
  rw [ownedAt]
  constructor
  · intro h;cases h
  · rintro ⟨l,h,-⟩;omega
 | t+1,b=>by
  rw [ownedAt]
  by_cases h2:(ps.getD t Pg.zero).kind=2
  · rw [if_pos h2]
    constructor
    · intro h
      have:=of_decide_eq_true h
      exact ⟨t,by omega,h2,fun m a c=>by omega,by omega⟩
    · rintro ⟨l,h3,h4,h5,h6⟩
      by_cases hl:l=t
      · subst hl;exact decide_eq_true (by omega)
      · exact absurd h2 (h5 t (by omega) (by omega))
  · rw [if_neg h2,owned_iff pw np ps t (b+1)]
    constructor
    · rintro ⟨l,h3,h4,h5,h6⟩
      refine ⟨l,by omega,h4,fun m a c=>?_,by omega⟩
      by_cases hm:m=t
      · subst hm;exact h2
      · exact h5 m a (by omega)
    · rintro ⟨l,h3,h4,h5,h6⟩
      have hl:l≠t:=fun e=>h2 (e ▸ h4)
      exact ⟨l,by omega,h4,fun m a c=>h5 m a (by omega),by omega⟩
theorem table_small {pw np:Int} {ps:List Pg} {j:Nat} {x y:Pg} (h:tableOK pw np ps=true) (hy:ps[j]?=some y) (hk:y.kind=0\/y.kind=1) (hx:x.kind=1) (hs:smallOK pw x=true):tableOK pw np (ps.set j x)=true:=by
 rw [tableOK_iff] at h ⊢
 have hjl:=(List.getElem?_eq_some_iff.1 hy).1
 have hget:∀ t,(ps.set j x)[t]?=if j=t then some x else ps[t]?:=fun t=>by
  rw [List.getElem?_set]
  by_cases e:j=t
  · subst e;rw [if_pos rfl,if_pos rfl,if_pos hjl]
  · rw [if_neg e,if_neg e]
 have hD:∀ t,¬j=t->(ps.set j x).getD t Pg.zero=ps.getD t Pg.zero:=fun t ht=>by rw [List.getD_eq_getElem?_getD,List.getD_eq_getElem?_getD,hget,if_neg ht]
 have hDj:(ps.set j x).getD j Pg.zero=x:=getD_at (by rw [hget,if_pos rfl])
 have hDy:ps.getD j Pg.zero=y:=getD_at hy
 have hk2:∀ t,(((ps.set j x).getD t Pg.zero).kind=2↔(ps.getD t Pg.zero).kind=2):=fun t=>by
  by_cases ht:j=t
  · subst ht;rw [hDj,hDy];constructor <;> intro c <;> omega
  · rw [hD t ht]
 intro i z hz
 rw [hget] at hz
 split at hz
 · cases hz
   unfold pageOK
   rw [if_neg (by omega),if_pos hx]
   exact hs
 · rename_i hji
   have hp:=h i z hz
   unfold pageOK at hp ⊢
   split
   · rename_i k0;rw [if_pos k0] at hp;exact hp
   · rename_i k0
     rw [if_neg k0] at hp
     split
     · rename_i k1;rw [if_pos k1] at hp;exact hp
     · rename_i k1
       rw [if_neg k1] at hp
       split
       · rename_i k2
         rw [if_pos k2] at hp
         unfold largeOK at hp ⊢
         rw [List.length_set]
         rw [Bool.and_eq_true] at hp ⊢
         refine ⟨hp.1,?_⟩
         rw [allTails_iff] at *
         intro t h1 h2 z' hz'
         rw [hget] at hz'
         split at hz'
         · rename_i e
           subst e
           have:=hp.2 j h1 h2 y hy
           omega
         · exact hp.2 t h1 h2 z' hz'
       · rename_i k2
         rw [if_neg k2] at hp
         split
         · rename_i k3
           rw [if_pos k3] at hp
           unfold tailOK ownedB at hp ⊢
           rw [Bool.and_eq_true] at hp ⊢
           refine ⟨hp.1,?_⟩
           obtain ⟨l,h1,h2,h3,h4⟩:=(owned_iff pw np ps i 1).1 hp.2
           have hlj:¬j=l:=fun e=>by subst e;rw [hDy] at h2;omega
           exact (owned_iff pw np _ i 1).2 ⟨l,h1,(hk2 l).2 h2,fun m a c hh=>h3 m a c ((hk2 m).1 hh),by rw [hD l hlj];exact h4⟩
         · rename_i k3
           rw [if_neg k3] at hp
           cases hp
theorem table_large {pw np:Int} {ps:List Pg} {i k:Nat} {sp n:Int} (h:tableOK pw np ps=true) (hf:freeB ps i k=true) (hl:i+k<=ps.length) (h1:1<=k) (hs:spaceB sp=true) (hn:needV pw np n=k) :
 tableOK pw np (put (ps.set i ⟨2,sp,n,0⟩) (i+1) (k - 1) ⟨3,sp,0,0⟩)=true:=by
 rw [tableOK_iff] at h ⊢
 have hfree:∀ t,i<=t->t < i+k->∀ z,ps[t]?=some z->z.kind=0:=fun t a c z hz=>by
  have hz':z∈(ps.drop i).take k:=by
   refine List.mem_of_getElem? (i:=t - i) ?_
   rw [List.getElem?_take,if_pos (by omega),List.getElem?_drop,show i+(t - i)=t by omega];exact hz
  unfold freeB at hf
  exact of_decide_eq_true (List.all_eq_true.1 hf z hz')
 obtain ⟨qs,hqs⟩:∃ qs,put (ps.set i ⟨2,sp,n,0⟩) (i+1) (k - 1) ⟨3,sp,0,0⟩=qs:=⟨_,rfl⟩
 rw [hqs]
 have hql:qs.length=ps.length:=by rw [<-hqs,put_len (by rw [List.length_set];omega),List.length_set]
 have hget:∀ t,qs[t]?=if t=i then some ⟨2,sp,n,0⟩ else if i<=t/\t < i+k then some ⟨3,sp,0,0⟩ else ps[t]?:=fun t=>by
  rw [<-hqs]
  split
  · rename_i e
    subst e
    rw [put_get (by rw [List.length_set];omega) (Or.inr (by omega)),List.getElem?_set,if_pos rfl,if_pos (by omega)]
  · rename_i e
    split
    · rename_i hr
      rw [put_in (by rw [List.length_set];omega) (by omega) (by omega)]
    · rw [put_get (by rw [List.length_set];omega) (by omega),List.getElem?_set,if_neg (by omega)]
 have hin:∀ t,i<=t->t < i+k->∃ z,ps[t]?=some z:=fun t a c=>⟨_,List.getElem?_eq_getElem (show t < ps.length by omega)⟩
 have hD:∀ t,¬(i<=t/\t < i+k)->qs.getD t Pg.zero=ps.getD t Pg.zero:=fun t ht=>by rw [List.getD_eq_getElem?_getD,List.getD_eq_getElem?_getD,hget,if_neg (by omega),if_neg ht]
 have hDi:qs.getD i Pg.zero=⟨2,sp,n,0⟩:=getD_at (by rw [hget,if_pos rfl])
 have hDt:∀ t,i < t->t < i+k->qs.getD t Pg.zero=⟨3,sp,0,0⟩:=fun t a c=>getD_at (by rw [hget,if_neg (by omega),if_pos ⟨by omega,c⟩])
 have hD0:∀ t,i<=t->t < i+k->(ps.getD t Pg.zero).kind=0:=fun t a c=>by
  obtain ⟨z,hz⟩:=hin t a c
  rw [getD_at hz];exact hfree t a c z hz
 intro t z hz
 rw [hget] at hz
 split at hz
 · rename_i e
   subst e
   cases hz
   unfold pageOK
   rw [if_neg (show ¬(2:Int)=0 by decide),if_neg (show ¬(2:Int)=1 by decide),if_pos rfl]
   unfold largeOK
   simp only
   rw [hs,hn,hql,decide_eq_true (show (1:Int)<=k by omega),decide_eq_true (show (t:Int)+k<=ps.length by omega),show pinsB 0=true from rfl,Bool.true_and,Bool.true_and,Bool.true_and,Bool.true_and,allTails_iff]
   intro u a c z hz
   rw [hget,if_neg (by omega),if_pos (by omega)] at hz
   cases hz
   exact ⟨rfl,rfl⟩
 · rename_i e
   split at hz
   · rename_i hr
     cases hz
     unfold pageOK
     rw [if_neg (show ¬(3:Int)=0 by decide),if_neg (show ¬(3:Int)=1 by decide),if_neg (show ¬(3:Int)=2 by decide),if_pos rfl]
     unfold tailOK ownedB
     rw [show decide ((0:Int)=0/\(0:Int)=0)=true from rfl,Bool.true_and,owned_iff]
     refine ⟨i,by omega,by rw [hDi],fun m a c=>?_,?_⟩
     · rw [hDt m a (by omega)];simp
     · rw [hDi];simp only;rw [hn];omega
   · rename_i hr
     have hp:=h t z hz
     unfold pageOK at hp ⊢
     split
     · rename_i k0;rw [if_pos k0] at hp;exact hp
     · rename_i k0
       rw [if_neg k0] at hp
       split
       · rename_i k1;rw [if_pos k1] at hp;exact hp
       · rename_i k1
         rw [if_neg k1] at hp
         split
         · rename_i k2
           rw [if_pos k2] at hp
           unfold largeOK at hp ⊢
           rw [hql]
           rw [Bool.and_eq_true] at hp ⊢
           refine ⟨hp.1,?_⟩
           rw [allTails_iff] at *
           intro u a c z' hz'
           by_cases hu:i<=u/\u < i+k
           · obtain ⟨y,hy⟩:=hin u hu.1 hu.2
             have h3:=(hp.2 u a c y hy).1
             have h0:=hfree u hu.1 hu.2 y hy
             omega
           · rw [hget,if_neg (by omega),if_neg hu] at hz'
             exact hp.2 u a c z' hz'
         · rename_i k2
           rw [if_neg k2] at hp
           split
           · rename_i k3
             rw [if_pos k3] at hp
             unfold tailOK ownedB at hp ⊢
             rw [Bool.and_eq_true] at hp ⊢
             refine ⟨hp.1,?_⟩
             obtain ⟨l,h2,h3,h4,h5⟩:=(owned_iff pw np ps t 1).1 hp.2
             have hlo:¬(i<=l/\l < i+k):=fun c=>by have:=hD0 l c.1 c.2;omega
             have htl:t < ps.length:=(List.getElem?_eq_some_iff.1 hz).1
             have hlz:ps[l]?=some (ps[l]'(by omega)):=List.getElem?_eq_getElem _
             have hpl:=h l _ hlz
             rw [getD_at hlz] at h3 h5
             unfold pageOK at hpl
             rw [if_neg (by omega),if_neg (by omega),if_pos h3] at hpl
             unfold largeOK at hpl
             rw [Bool.and_eq_true,allTails_iff] at hpl
             have hnot:∀ m,l < m->m < t->¬(i<=m/\m < i+k):=fun m a c hc=>by
              obtain ⟨y,hy⟩:=hin m hc.1 hc.2
              have q3:=(hpl.2 m (by omega) (by omega) y hy).1
              have q0:=hfree m hc.1 hc.2 y hy
              omega
             refine (owned_iff pw np qs t 1).2 ⟨l,h2,by rw [hD l hlo,getD_at hlz];exact h3,fun m a c=>by rw [hD m (hnot m a c)];exact h4 m a c,by rw [hD l hlo,getD_at hlz];exact h5⟩
           · rename_i k3
             rw [if_neg k3] at hp
             cases hp
theorem owned_due (pw np:Int) (ps:List Pg):∀ (i:Nat) (b:Int),1<=b->(ownedAt pw np ps i b=true↔b<=dueAt pw np ps i)
 | 0,b,hb=>by
  rw [ownedAt,dueAt]
  constructor
  · intro h;cases h
  · intro h;omega
 | i+1,b,hb=>by
  rw [ownedAt,dueAt]
  by_cases h2:(ps.getD i Pg.zero).kind=2
  · rw [if_pos h2,if_pos h2,decide_eq_true_eq];omega
  · rw [if_neg h2,if_neg h2,owned_due pw np ps i (b+1) (by omega)];omega
theorem table_of_proper {pw np:Int} {ps:List Pg} (h:properL pw np ps 0=true):tableOK pw np ps=true:=by
 rw [tableOK_iff]
 intro i x hx
 have hi:i < ps.length:=(List.getElem?_eq_some_iff.1 hx).1
 have hp:=proper_at h i (by omega)
 obtain ⟨_,rfl⟩:=List.getElem?_eq_some_iff.1 hx
 rw [List.drop_eq_getElem_cons hi,properL] at hp
 generalize hX:ps[i]=x at *
 cases hs:stepP pw np x (ps.drop (i+1)) (dueAt pw np ps i) with
 | none=>rw [hs] at hp;cases hp
 | some d =>
  unfold stepP at hs
  split at hs
  · cases hs
  · rename_i hA
    have hsp:spaceB x.space=true:=space_le.2 ⟨by omega,by omega⟩
    have hpn:pinsB x.pins=true:=by
     cases hp':pinsB x.pins
     · exact absurd (Or.inr (Or.inr (Or.inr hp'))) hA
     · rfl
    unfold pageOK
    split
    · rename_i k0
      rw [if_pos k0] at hs
      split at hs
      · rename_i e;rw [e];rfl
      · cases hs
    · rename_i k0
      rw [if_neg k0] at hs
      split
      · rename_i k1
        rw [if_pos k1] at hs
        split at hs
        · cases hs
        · unfold smallOK
          rw [hsp,hpn,decide_eq_true (show 0<=x.used/\x.used<=pw by omega)];rfl
      · rename_i k1
        rw [if_neg k1] at hs
        split
        · rename_i k2
          rw [if_pos k2] at hs
          split at hs
          · cases hs
          · rename_i hB
            have hn1:1<=needV pw np x.used:=by omega
            obtain ⟨t1,t2⟩:=(tails_ge x.space (ps.drop (i+1)) ((needV pw np x.used).toNat - 1)).1 (by omega)
            rw [List.length_drop] at t1
            unfold largeOK
            rw [hsp,hpn,decide_eq_true hn1,decide_eq_true (show (i:Int)+needV pw np x.used<=ps.length by omega),t2];rfl
        · rename_i k2
          rw [if_neg k2] at hs
          split
          · rename_i k3
            rw [if_pos k3] at hs
            split at hs
            · rename_i e
              unfold tailOK
              rw [decide_eq_true e,Bool.true_and]
              unfold ownedB
              rw [owned_due pw np ps i 1 (by omega)]
              have:x.kind=3↔0 < dueAt pw np ps i:=Classical.not_not.1 fun c=>hA (Or.inl c)
              have:=this.1 k3
              omega
            · cases hs
          · rename_i k3
            rw [if_neg k3] at hs
            cases hs
theorem proper_of_table {pw np:Int} {ps:List Pg} (h:tableOK pw np ps=true):∀ (k i:Nat),i+k=ps.length->properL pw np (ps.drop i) (dueAt pw np ps i)=true
 | 0,i,hi=>by rw [List.drop_of_length_le (by omega)];rfl
 | k+1,i,hi=>by
  have ih:=proper_of_table h k (i+1) (by omega)
  have hlt:i < ps.length:=by omega
  have hx:ps[i]?=some (ps[i]'hlt):=List.getElem?_eq_getElem _
  rw [tableOK_iff] at h
  have hp:=h i _ hx
  rw [List.drop_eq_getElem_cons hlt,properL]
  generalize ps[i]'hlt=x at *
  have hdue:0 < dueAt pw np ps i->x.kind=3/\0<=x.space/\x.space<=1:=fun hd=>by
   obtain ⟨l,h1,h2,-,h4⟩:=(owned_iff pw np ps i 1).1 ((owned_due pw np ps i 1 (by omega)).2 (by omega))
   have hl:ps[l]?=some (ps[l]'(by omega)):=List.getElem?_eq_getElem _
   have hpl:=h l _ hl
   rw [getD_at hl] at h2 h4
   unfold pageOK at hpl
   rw [if_neg (by omega),if_neg (by omega),if_pos h2] at hpl
   unfold largeOK at hpl
   simp only [Bool.and_eq_true] at hpl
   have ht:=(allTails_iff.1 hpl.2) i (by omega) (by omega) x hx
   have hs:=space_le.1 hpl.1.1.1.1
   exact ⟨ht.1,by omega,by omega⟩
  have key:stepP pw np x (ps.drop (i+1)) (dueAt pw np ps i)≠none:=by
   have h3:x.kind=3->0 < dueAt pw np ps i/\x.used=0/\x.pins=0:=fun k3=>by
    unfold pageOK at hp
    rw [if_neg (by omega),if_neg (by omega),if_neg (by omega),if_pos k3] at hp
    unfold tailOK at hp
    rw [Bool.and_eq_true,decide_eq_true_eq] at hp
    have:=(owned_due pw np ps i 1 (by omega)).1 hp.2
    exact ⟨by omega,hp.1⟩
   have hiff:x.kind=3↔0 < dueAt pw np ps i:=⟨fun k=>(h3 k).1,fun d=>(hdue d).1⟩
   unfold pageOK at hp
   unfold stepP
   split at hp
   · rename_i k0
     obtain ⟨a1,a2,a3⟩:=of_decide_eq_true hp
     have ex:x=Pg.zero:=by cases x;simp only at k0 a1 a2 a3;subst k0 a1 a2 a3;rfl
     rw [if_neg (by rw [a1,a3];rintro (c | c | c | c);exact c hiff;omega;omega;cases c),if_pos k0,if_pos ex]
     exact fun c=>by cases c
   · rename_i k0
     split at hp
     · rename_i k1
       unfold smallOK at hp
       simp only [Bool.and_eq_true,decide_eq_true_eq] at hp
       have hs:=space_le.1 hp.1.1
       rw [if_neg (by rintro (c | c | c | c);exact c hiff;omega;omega;rw [hp.2] at c;cases c),if_neg k0,if_pos k1,if_neg (by omega)]
       exact fun c=>by cases c
     · rename_i k1
       split at hp
       · rename_i k2
         unfold largeOK at hp
         simp only [Bool.and_eq_true,decide_eq_true_eq] at hp
         obtain ⟨⟨⟨⟨a1,a2⟩,a3⟩,a4⟩,a5⟩:=hp
         have hs:=space_le.1 a1
         have ht:=(tails_ge x.space (ps.drop (i+1)) ((needV pw np x.used).toNat - 1)).2 ⟨by rw [List.length_drop];omega,a5⟩
         rw [if_neg (by rintro (c | c | c | c);exact c hiff;omega;omega;rw [a3] at c;cases c),if_neg k0,if_neg k1,if_pos k2,if_neg (by omega)]
         exact fun c=>by cases c
       · rename_i k2
         split at hp
         · rename_i k3
           obtain ⟨b1,b2,b3⟩:=h3 k3
           obtain ⟨-,c1,c2⟩:=hdue b1
           rw [if_neg (by rw [b3];rintro (c | c | c | c);exact c hiff;omega;omega;cases c),if_neg k0,if_neg k1,if_neg k2,if_pos k3,if_pos ⟨b2,b3⟩]
           exact fun c=>by cases c
         · cases hp
  cases hs:stepP pw np x (ps.drop (i+1)) (dueAt pw np ps i) with
  | none=>exact absurd hs key
  | some d =>
   simp only
   rw [due_step hx hs]
   exact ih
theorem proper_table (pw np:Int) (ps:List Pg):properL pw np ps 0=tableOK pw np ps:=by
 cases h:tableOK pw np ps
 · cases h2:properL pw np ps 0
   · rfl
   · rw [table_of_proper h2] at h;cases h
 · have:=proper_of_table h ps.length 0 (by omega)
   rwa [List.drop_zero] at this
theorem properP_B (pw np:Int) (nw:Nat) (ps:List Pg) (sp b:Int):properP pw np nw ps sp b=properB pw np nw ps sp b:=by
 unfold properP properB
 rw [proper_table]
 have:spaceB sp=decide (0<=sp/\sp<=1):=by
  unfold spaceB
  by_cases h:0<=sp/\sp<=1
  · rw [decide_eq_true h];exact decide_eq_true (by omega)
  · rw [decide_eq_false h];exact decide_eq_false (by omega)
 rw [this]
structure PlOK7 (h:Hp):Prop where
 conf:confB h.pw h.np=true
 len:(h.pages.length:Int)=h.np
 sp:0<=h.space/\h.space<=1
 bp:h.bump = -1\/∃ K:Nat,∃ x:Pg,h.bump=K/\h.pages[K]?=some x/\x.kind=1/\0<=x.used/\x.used<=h.pw
theorem PlOK7.bump {h:Hp} (hp:PlOK7 h):(h.bump = -1\/0<=h.bump/\h.bump < h.pages.length)/\(¬h.bump = -1->0<=(h.pages.getD h.bump.toNat Pg.zero).used/\(h.pages.getD h.bump.toNat Pg.zero).used<=100000):=by
 obtain ⟨_,k2,_⟩:=conf_parts hp.conf
 rcases hp.bp with h1 | ⟨K,x,h1,h2,-,h3,h4⟩
 · exact ⟨Or.inl h1,fun c=>absurd h1 c⟩
 · have:=(List.getElem?_eq_some_iff.1 h2).1
   rw [h1,Int.toNat_natCast,getD_at h2]
   exact ⟨Or.inr ⟨by omega,by omega⟩,fun _=>⟨h3,by omega⟩⟩
theorem addr_in {pw np:Int} {K:Nat} {o:Int} (hc:confB pw np=true) (hk:(K:Int) < np) (h0:0<=o) (h1:o < pw):addrE pw np K o=0/\addrV pw np K o=4096+K*pw+o:=by
 obtain ⟨a,b⟩:=addr_ok hc (p:=(K:Int)) (o:=o) (decide_eq_true ⟨by omega,hk,h0,h1⟩)
 exact ⟨b,a⟩
theorem place_bump {h:Hp} {nn:Int} (hp:PlOK7 h) (h1:1<=nn) (hn:newB h nn=false) :
 ∃ (K:Nat) (x:Pg),h.bump=K/\h.pages[K]?=some x/\(0<=x.used/\x.used<=100000)/\smallOKB h nn=true/\smallH h nn=⟨h.pw,h.np,h.words,h.pages.set K ⟨x.kind,x.space,x.used+nn,x.pins⟩,h.space,K⟩/\addrE h.pw h.np K x.used=0/\smallA h nn=addrV h.pw h.np K x.used:=by
 have hd:=of_decide_eq_false hn
 obtain ⟨_,k2,_⟩:=conf_parts hp.conf
 rcases hp.bp with h2 | ⟨K,x,h2,h3,-,h4,h5⟩
 · exact absurd (Or.inl (by omega)) hd
 · have hK:=(List.getElem?_eq_some_iff.1 h3).1
   have hbp:bumpPg h=x:=by unfold bumpPg;rw [h2,Int.toNat_natCast,getD_at h3]
   have hl:=hp.len
   rw [hbp] at hd
   obtain ⟨a,b⟩:=addr_in (K:=K) (o:=x.used) hp.conf (by omega) h4 (by omega)
   have hJ:smallJ h nn=K:=by unfold smallJ;rw [hn];exact h2
   have hP:smallPs h nn=h.pages:=by unfold smallPs;rw [hn];rfl
   refine ⟨K,x,h2,h3,⟨h4,by omega⟩,by unfold smallOKB;rw [hn];rfl,?_,a,?_⟩
   · unfold smallH useAt;rw [hJ,hP,Int.toNat_natCast,getD_at h3]
   · unfold smallA;rw [hJ,hP,Int.toNat_natCast,getD_at h3,b]
theorem place_new {h:Hp} {nn:Int} (hp:PlOK7 h) (hn:newB h nn=true) (hf:smallFull h=false) :
 ∃ (K:Nat),firstV h.pages 1=K/\K < h.pages.length/\smallPE h.pages K h.space=0/\smallPV h.pages K h.space=h.pages.set K ⟨1,h.space,0,0⟩/\(∃ y,h.pages[K]?=some y/\y.kind=0)/\smallOKB h nn=true/\smallH h nn=⟨h.pw,h.np,h.words,(h.pages.set K ⟨1,h.space,0,0⟩).set K ⟨1,h.space,0+nn,0⟩,h.space,K⟩/\addrE h.pw h.np K 0=0/\smallA h nn=addrV h.pw h.np K 0:=by
 have hd:=of_decide_eq_false hf
 have hF:0<=firstV h.pages 1:=by omega
 obtain ⟨-,f1,f2⟩:=first_spec hF
 obtain ⟨K,hK⟩:=Int.eq_ofNat_of_zero_le hF
 rw [hK] at f1 f2
 obtain ⟨y,hy,hy0⟩:=f2 K (by omega) (by omega)
 have hlt:K < h.pages.length:=(List.getElem?_eq_some_iff.1 hy).1
 have hfree:freeB h.pages K 1=true:=by
  have:=freeB_succ (ps:=h.pages) (i:=K) (k:=0) (x:=y) (by rw [Nat.add_zero];exact hy)
  rw [freeB_zero,hy0] at this;simpa using this
 obtain ⟨t1,t2⟩:=take_ok (x:=⟨1,h.space,0,0⟩) (y:=Pg.zero) hlt (show K+1<=h.pages.length by omega) hfree
 rw [put_head (by omega) (by omega),put_zero] at t1
 have hps:smallPV h.pages K h.space=h.pages.set K ⟨1,h.space,0,0⟩:=by
  unfold smallPV;rw [if_pos hp.sp];exact t1
 have hpe:smallPE h.pages K h.space=0:=by unfold smallPE;rw [if_pos hp.sp];exact t2
 have hl:=hp.len
 obtain ⟨k1,k2,_⟩:=conf_parts hp.conf
 obtain ⟨a,b⟩:=addr_in (K:=K) (o:=0) hp.conf (by omega) (by omega) (by omega)
 have hJ:smallJ h nn=K:=by unfold smallJ;rw [hn];exact hK
 have hP:smallPs h nn=h.pages.set K ⟨1,h.space,0,0⟩:=by unfold smallPs;rw [hn,if_pos rfl,hK,hps]
 have hg:(h.pages.set K ⟨1,h.space,0,0⟩)[K]?=some ⟨1,h.space,0,0⟩:=by rw [List.getElem?_set,if_pos rfl,if_pos hlt]
 refine ⟨K,hK,hlt,hpe,hps,⟨y,hy,hy0⟩,by unfold smallOKB;rw [hn,hf];rfl,?_,a,?_⟩
 · unfold smallH useAt;rw [hJ,hP,Int.toNat_natCast,getD_at hg]
 · unfold smallA;rw [hJ,hP,Int.toNat_natCast,getD_at hg,b]
theorem place_large {h:Hp} {n k:Int} (hp:PlOK7 h) (hk:needV h.pw h.np n=k) (h1:1<=k) (hF:0<=firstV h.pages k) :
 ∃ (K kk:Nat),k=kk/\firstV h.pages k=K/\K+kk<=h.pages.length/\freeB h.pages K kk=true/\largePE h.pw h.np h.pages K h.space n=0/\largePV h.pw h.np h.pages K h.space n=put (h.pages.set K ⟨2,h.space,n,0⟩) (K+1) (kk - 1) ⟨3,h.space,0,0⟩/\addrE h.pw h.np K 0=0/\largeA h k=addrV h.pw h.np K 0:=by
 obtain ⟨-,f1,f2⟩:=first_spec hF
 obtain ⟨K,hK⟩:=Int.eq_ofNat_of_zero_le hF
 obtain ⟨kk,hkk⟩:=Int.eq_ofNat_of_zero_le (show 0<=k by omega)
 rw [hK] at f1 f2
 have hfree:∀ j:Nat,j<=kk->freeB h.pages K j=true:=by
  intro j
  induction j with
  | zero=>intro _;exact freeB_zero _ _
  | succ j ih =>
   intro hj
   obtain ⟨y,hy,hy0⟩:=f2 (K+j) (by omega) (by omega)
   rw [freeB_succ hy,ih (by omega),hy0];rfl
 have hl:=hp.len
 obtain ⟨k1,k2,_⟩:=conf_parts hp.conf
 obtain ⟨a,b⟩:=addr_in (K:=K) (o:=0) hp.conf (by omega) (by omega) (by omega)
 obtain ⟨t1,t2⟩:=take_ok (x:=⟨2,h.space,n,0⟩) (y:=⟨3,h.space,0,0⟩) (show K < h.pages.length by omega) (show K+kk<=h.pages.length by omega) (hfree kk (Nat.le_refl _))
 rw [put_head (by omega) (by omega)] at t1
 obtain ⟨e1,e2⟩:=largeP_ok (ps:=h.pages) (i:=(K:Int)) (show 1<=needV h.pw h.np n/\0<=h.space/\h.space<=1 from ⟨by omega,hp.sp⟩)
 refine ⟨K,kk,hkk,hK,by omega,hfree kk (Nat.le_refl _),?_,?_,a,?_⟩
 · rw [e2,hk,hkk];exact t2
 · rw [e1,hk,hkk];exact t1
 · unfold largeA;rw [hK,b];omega
def placeOK (h:Hp) (n:Int):Bool:=if 0 < needV h.pw h.np n then largeOKB h (needV h.pw h.np n) else smallOKB h n
def placeH (h:Hp) (n:Int):Hp:=if 0 < needV h.pw h.np n then largeH h n (needV h.pw h.np n) else smallH h n
def placeA (h:Hp) (n:Int):Int:=if 0 < needV h.pw h.np n then largeA h (needV h.pw h.np n) else smallA h n
def okP (h:Hp):Bool:=properP h.pw h.np h.words.length h.pages h.space h.bump
theorem okP_parts {h:Hp} (hp:okP h=true):confB h.pw h.np=true/\(h.words.length:Int)=h.np*h.pw/\(h.pages.length:Int)=h.np/\spaceB h.space=true/\bumpB h.pages h.bump=true/\tableOK h.pw h.np h.pages=true:=by
 unfold okP properP at hp
 simp only [Bool.and_eq_true,decide_eq_true_eq] at hp
 obtain ⟨⟨⟨⟨⟨h1,h2⟩,h3⟩,h4⟩,h5⟩,h6⟩:=hp
 exact ⟨h1,h2,h3,h4,h5,h6⟩
theorem okP_mk {h:Hp} (h1:confB h.pw h.np=true) (h2:(h.words.length:Int)=h.np*h.pw) (h3:(h.pages.length:Int)=h.np) (h4:spaceB h.space=true) (h5:bumpB h.pages h.bump=true) (h6:tableOK h.pw h.np h.pages=true):okP h=true:=by
 unfold okP properP
 rw [h1,decide_eq_true h2,decide_eq_true h3,h4,h5,h6];rfl
theorem small_of {pw np:Int} {ps:List Pg} {K:Nat} {x:Pg} (h:tableOK pw np ps=true) (hx:ps[K]?=some x) (h1:x.kind=1):spaceB x.space=true/\(0<=x.used/\x.used<=pw)/\pinsB x.pins=true:=by
 have:=tableOK_iff.1 h K x hx
 unfold pageOK at this
 rw [if_neg (by omega),if_pos h1] at this
 unfold smallOK at this
 rw [Bool.and_eq_true,Bool.and_eq_true,decide_eq_true_eq] at this
 exact ⟨this.1.1,this.1.2,this.2⟩
theorem PlOK7.of {h:Hp} (hp:okP h=true):PlOK7 h:=by
 obtain ⟨h1,h2,h3,h4,h5,h6⟩:=okP_parts hp
 refine ⟨h1,h3,space_le.1 h4,?_⟩
 rcases of_decide_eq_true h5 with e | ⟨e1,e2,e3⟩
 · exact Or.inl e
 · have hx:h.pages[h.bump.toNat]?=some (h.pages[h.bump.toNat]'(by omega)):=List.getElem?_eq_getElem _
   rw [getD_at hx] at e3
   obtain ⟨-,hu,-⟩:=small_of h6 hx e3
   exact Or.inr ⟨h.bump.toNat,_,by omega,hx,e3,hu.1,hu.2⟩
theorem needP_le {pw n:Int} (hn:0 < needP pw n):n<=needP pw n*pw:=by
 unfold needP at *
 split at hn
 · omega
 · rename_i h0
   rw [if_neg h0]
   split at hn
   · rename_i h1;rw [if_pos h1];omega
   · rename_i h1
     rw [if_neg h1]
     split at hn
     · rename_i h2;rw [if_pos h2];omega
     · rename_i h2
       rw [if_neg h2]
       split at hn
       · rename_i h3;rw [if_pos h3];omega
       · rename_i h3
         rw [if_neg h3]
         split at hn
         · rename_i h4;rw [if_pos h4];omega
         · omega
theorem needV_small {pw np n:Int} (hc:confB pw np=true) (h0:¬0 < needV pw np n) (h1:¬needV pw np n = -1):1<=n/\n<=pw / 4:=by
 have hz:needV pw np n=0:=by have:=needV_ge pw np n;omega
 by_cases hn:1<=n
 · rw [need_ok hc hn] at hz
   refine ⟨hn,?_⟩
   unfold needP at hz
   split at hz
   · assumption
   · split at hz
     · omega
     · split at hz
       · omega
       · split at hz
         · omega
         · split at hz <;> omega
 · rw [need_no (Or.inr (by omega))] at hz;omega
theorem bumpB_mk {ps:List Pg} {K:Nat} {x:Pg} (h:ps[K]?=some x) (h1:x.kind=1):bumpB ps K=true:=by
 have:=(List.getElem?_eq_some_iff.1 h).1
 refine decide_eq_true (Or.inr ⟨by omega,by omega,?_⟩)
 rw [Int.toNat_natCast,getD_at h];exact h1
theorem place_proper {h:Hp} {s:Int} (hp:okP h=true) (h1:1<=s) (hn:¬needV h.pw h.np s = -1) (hok:placeOK h s=true) :
 okP (placeH h s)=true/\(placeH h s).words=h.words/\(0<=placeA h s/\placeA h s < 18446744073709551616)/\okA h.words.length (placeA h s) s.toNat=true:=by
 obtain ⟨p1,p2,p3,p4,p5,p6⟩:=okP_parts hp
 have hpl:=PlOK7.of hp
 obtain ⟨g1,g2⟩:=conf_prod p1
 obtain ⟨k1,k2,-,k4,k5⟩:=conf_parts p1
 unfold placeOK at hok
 unfold placeH placeA
 by_cases hk:0 < needV h.pw h.np s
 · rw [if_pos hk] at hok
   rw [if_pos hk,if_pos hk]
   have hd:=of_decide_eq_true hok
   obtain ⟨K,kk,e1,e2,e3,e4,-,e6,-,e8⟩:=place_large (n:=s) hpl rfl (by omega) (show 0<=firstV h.pages (needV h.pw h.np s) by omega)
   have hH:largeH h s (needV h.pw h.np s)={ h with pages:=put (h.pages.set K ⟨2,h.space,s,0⟩) (K+1) (kk - 1) ⟨3,h.space,0,0⟩ }:=by unfold largeH;rw [e2,e6]
   have hlen:(put (h.pages.set K ⟨2,h.space,s,0⟩) (K+1) (kk - 1) ⟨3,h.space,0,0⟩).length=h.pages.length:=by rw [put_len (by rw [List.length_set];omega),List.length_set]
   obtain ⟨a1,a2⟩:=addr_in (K:=K) (o:=0) p1 (by omega) (by omega) (by omega)
   have hsz:s<=needV h.pw h.np s*h.pw:=by
    have h3:=need_ok p1 h1
    rw [h3] at hk ⊢
    exact needP_le hk
   have hmul:(K:Int)*h.pw+needV h.pw h.np s*h.pw<=h.np*h.pw:=by
    rw [<-Int.add_mul]
    exact Int.mul_le_mul_of_nonneg_right (by omega) (by omega)
   have hK0:0<=(K:Int)*h.pw:=Int.mul_nonneg (by omega) (by omega)
   rw [hH,e8,a2]
   refine ⟨okP_mk p1 p2 (by simp only;rw [hlen];exact p3) p4 ?_ (table_large p6 e4 e3 (by omega) p4 e1),rfl,⟨by omega,by omega⟩,decide_eq_true ⟨by omega,by omega⟩⟩
   simp only
   rcases of_decide_eq_true p5 with e | ⟨c1,c2,c3⟩
   · exact decide_eq_true (Or.inl e)
   · have hx:h.pages[h.bump.toNat]?=some (h.pages[h.bump.toNat]'(by omega)):=List.getElem?_eq_getElem _
     rw [getD_at hx] at c3
     have hnf:¬(K<=h.bump.toNat/\h.bump.toNat < K+kk):=fun c=>by
      have hz':h.pages[h.bump.toNat]'(by omega)∈(h.pages.drop K).take kk:=by
       refine List.mem_of_getElem? (i:=h.bump.toNat - K) ?_
       rw [List.getElem?_take,if_pos (by omega),List.getElem?_drop,show K+(h.bump.toNat - K)=h.bump.toNat by omega];exact hx
      unfold freeB at e4
      have:=of_decide_eq_true (List.all_eq_true.1 e4 _ hz')
      omega
     have hy:(put (h.pages.set K ⟨2,h.space,s,0⟩) (K+1) (kk - 1) ⟨3,h.space,0,0⟩)[h.bump.toNat]?=some (h.pages[h.bump.toNat]'(by omega)):=by
      rw [put_get (by rw [List.length_set];omega) (by omega),List.getElem?_set,if_neg (by omega)];exact hx
     have:=bumpB_mk hy c3
     rwa [show ((h.bump.toNat:Nat):Int)=h.bump by omega] at this
 · rw [if_neg hk] at hok
   rw [if_neg hk,if_neg hk]
   obtain ⟨s1,s4⟩:=needV_small p1 hk hn
   cases hnb:newB h s
   · obtain ⟨K,x,b1,b2,b3,-,b5,-,b7⟩:=place_bump hpl h1 hnb
     have hKl:=(List.getElem?_eq_some_iff.1 b2).1
     have hx1:x.kind=1:=by
      rcases hpl.bp with e | ⟨K',x',e1,e2,e3,-⟩
      · omega
      · obtain rfl:K=K':=by omega
        rw [b2] at e2;cases e2;exact e3
     obtain ⟨u1,u2,u3⟩:=small_of p6 b2 hx1
     have hfit:x.used+s<=h.pw:=by
      have hd:=of_decide_eq_false hnb
      unfold bumpPg at hd
      rw [b1,Int.toNat_natCast,getD_at b2] at hd
      omega
     obtain ⟨a1,a2⟩:=addr_in (K:=K) (o:=x.used) p1 (by omega) (by omega) (by omega)
     have hmul:(K:Int)*h.pw+h.pw<=h.np*h.pw:=(page_prod p1 (by omega) (by omega)).2
     have hK0:0<=(K:Int)*h.pw:=Int.mul_nonneg (by omega) (by omega)
     rw [b5,b7,a2]
     refine ⟨okP_mk p1 p2 (by simp only;rw [List.length_set];exact p3) p4 ?_ ?_,rfl,⟨by omega,by omega⟩,decide_eq_true ⟨by omega,by omega⟩⟩
     · exact bumpB_mk (x:=⟨x.kind,x.space,x.used+s,x.pins⟩) (by simp only;rw [List.getElem?_set,if_pos rfl,if_pos hKl]) hx1
     · refine table_small p6 b2 (Or.inr hx1) hx1 ?_
       unfold smallOK
       simp only
       rw [u1,u3,decide_eq_true (show 0<=x.used+s/\x.used+s<=h.pw by omega)];rfl
   · have hf:smallFull h=false:=by
      unfold smallOKB at hok
      rw [hnb,Bool.true_and] at hok
      simpa using hok
     obtain ⟨K,-,b2,-,-,⟨y,hy,hy0⟩,-,b5,-,b7⟩:=place_new hpl hnb hf
     obtain ⟨a1,a2⟩:=addr_in (K:=K) (o:=0) p1 (by omega) (by omega) (by omega)
     have hmul:(K:Int)*h.pw+h.pw<=h.np*h.pw:=(page_prod p1 (by omega) (by omega)).2
     have hK0:0<=(K:Int)*h.pw:=Int.mul_nonneg (by omega) (by omega)
     rw [List.set_set] at b5
     rw [b5,b7,a2]
     refine ⟨okP_mk p1 p2 (by simp only;rw [List.length_set];exact p3) p4 ?_ ?_,rfl,⟨by omega,by omega⟩,decide_eq_true ⟨by omega,by omega⟩⟩
     · exact bumpB_mk (x:=⟨1,h.space,0+s,0⟩) (by simp only;rw [List.getElem?_set,if_pos rfl,if_pos b2]) rfl
     · refine table_small p6 hy (Or.inl hy0) rfl ?_
       unfold smallOK
       simp only
       rw [p4,show pinsB 0=true from rfl,decide_eq_true (show 0<=0+s/\0+s<=h.pw by omega)];rfl
theorem place_eqs (h:Hp) (k n m:Int):newRoom h k n m=placeOK h (sizeV k n m)/\newOutH h k n m=placeH h (sizeV k n m)/\newOutA h k n m=placeA h (sizeV k n m):=by
 unfold newRoom newOutH newOutA newBig placeOK placeH placeA
 by_cases hb:0 < needV h.pw h.np (sizeV k n m)
 · simp [hb]
 · simp [hb]
theorem pin_place {B:Int} (hB:0<=B) {h:Hp} (hp:PinL B h.pages) (s:Int):PinL B (placeH h s).pages:=by
 unfold placeH
 split
 · show PinL B (largePV _ _ _ _ _ _)
   unfold largePV
   split
   · exact hp.take hB _ _ rfl rfl
   · exact PinL.nil B
 · show PinL B (useAt (smallPs h s) _ _)
   refine PinL.use ?_ hB _ _
   unfold smallPs
   split
   · unfold smallPV
     split
     · exact hp.take hB _ _ rfl rfl
     · exact PinL.nil B
   · exact hp
theorem put_keeps:PutKeeps:=by
 intro n x k l m hn hm L k1 k3 l0 l1 m0 m1 he
 obtain ⟨ha,hr⟩:newAsk x.h k l m=true/\newRoom x.h k l m=true:=by
  unfold allocE at he
  split at he
  · rename_i h1
    split at he
    · rename_i h2;exact ⟨h1,h2⟩
    · exact absurd he (by decide)
  · exact absurd he (by decide)
 obtain ⟨e1,e2,e3⟩:=place_eqs x.h k l m
 rw [e1] at hr
 unfold newAsk asksB at ha
 simp only [Bool.and_eq_true,decide_eq_true_eq] at ha
 obtain ⟨ho,⟨hv,hk0⟩,hnd⟩:=ha
 have hs:=size_ok hv
 have hop:okP x.h=true:=by unfold okP;rw [properP_B];exact ho
 obtain ⟨q1,q2,q3,q4⟩:=place_proper hop (show 1<=sizeV k l m by rw [hs];omega) hnd hr
 have hoh:okH (placeH x.h (sizeV k l m))=true:=by unfold okP at q1;rw [properP_B] at q1;exact q1
 have hil:(initL k l m).length=(sizeV k l m).toNat:=by rw [initL_len,hs];omega
 have hka:okA (placeH x.h (sizeV k l m)).words.length (placeA x.h (sizeV k l m)) (initL k l m).length=true:=by rw [q2,hil];exact q4
 have hie:initE (placeH x.h (sizeV k l m)) (placeA x.h (sizeV k l m)) k l m=0:=by
  unfold initE
  rw [if_pos ⟨hv,hoh⟩]
  unfold writeE
  rw [if_pos hka]
 have hH:allocH x.h k l m={ placeH x.h (sizeV k l m) with words:=writeV (placeH x.h (sizeV k l m)).words (placeA x.h (sizeV k l m)) (initL k l m) }:=by
  unfold allocH
  rw [if_pos he,e2,e3]
  unfold initV
  rw [if_pos hie]
 have hA:allocA x.h k l m=placeA x.h (sizeV k l m):=by unfold allocA;rw [if_pos he,e3]
 obtain ⟨p1,p2,p3,-⟩:=okH_parts hoh
 unfold putV
 rw [hH,hA]
 refine ⟨p1,?_,p3,fun y hy=>?_,L.wk,?_,by have:=L.wkn;show x.wk.length<=_;omega,fun g hg=>?_⟩
 · show ((writeV _ _ _).length:Int)=_
   rw [write_len hka];exact p2
 · rcases List.mem_append.1 hy with h2 | h2
   · exact L.st y h2
   · rw [List.mem_singleton.1 h2];exact q3
 · have:=L.stn
   show (x.st ++ [placeA x.h (sizeV k l m)]).length<=_
   rw [List.length_append];simp;omega
 · have:=pin_place (B:=n) (by omega) L.pins (sizeV k l m) g hg
   omega
theorem lens_made:∀ n x,Made n x->n<=400->Lens n x:=lens_all put_keeps collect_keeps
theorem packB_bad {fs:List (Int × Nat)} (h1:fitL 64 (fs.map (·.1))=true) (h:okF fs=false):packB fs=(0,2):=by
 unfold packB;rw [if_pos h1,if_neg (by simp [h])]
theorem packB_ok {fs:List (Int × Nat)} (h1:fitL 64 (fs.map (·.1))=true) (h:okF fs=true):packB fs=(((packR fs:Nat):Int),0):=by
 unfold packB;rw [if_pos h1,if_pos h]
theorem packB_no {fs:List (Int × Nat)} (h1:¬fitL 64 (fs.map (·.1))=true):packB fs=(0,1):=by
 unfold packB;rw [if_neg h1]
theorem sumW_snoc (l:List Int) (x:Int):sumW (l ++ [x])=sumW l+x.toNat:=by
 induction l with
 | nil=>simp [sumW]
 | cons g l ih=>rw [List.cons_append,sumW,ih,sumW];omega
def uvals:Nat->List Int->List Int
 | _,[]=>[]
 | x,a :: r=>((x &&& onesN a:Nat):Int) :: uvals (x >>> a.toNat) r
theorem uvals_len (ws:List Int):∀ x,(uvals x ws).length=ws.length:=by
 induction ws with
 | nil=>intro x;rfl
 | cons b r ih=>intro x;rw [uvals,List.length_cons,ih,List.length_cons]
def unpE (x:Nat) (ws:List Int):Int:=if fitL 64 ws=true then (if x >>> sumW ws=0 then 0 else 2) else 1
def unpV (x:Nat) (ws:List Int):List Int:=if fitL 64 ws=true then (if x >>> sumW ws=0 then uvals x ws else []) else []
theorem sumT_snoc {ws:List Int} {k:Nat} {a:Int} (h:ws[k]?=some a):sumW (ws.take (k+1))=sumW (ws.take k)+a.toNat:=by
 rw [take_snoc' h,sumW_snoc]
end Go.VI.P
