import Derived.Test.YtadlcgdjmjegaaaW04
import Derived.Test.YtadlcgdjmjegaaaW06
set_option linter.unusedSimpArgs false
set_option linter.unusedVariables false
set_option maxRecDepth 100000
set_option maxHeartbeats 4000000
namespace Go.VI
open Go
theorem need_if {c e:Bool} (h:c=true->e=true):(bif c then e else true)=true:=by cases c <;> simp_all
def confB (pw np:Int):Bool:=decide (16<=pw) && decide (pw<=64) && decide (pw.tmod 4=0) && decide (8<=np) && decide (np<=64)
theorem confB_iff {pw np:Int}:confB pw np=true↔16<=pw/\pw<=64/\pw.tmod 4=0/\8<=np/\np<=64:=by simp [confB,and_assoc]
structure HpW (h:HpD):Prop where
 wl:h.2.1.length<=100000000
 pl:h.2.2.1.length<=100000000
 wb:∀ x∈h.2.1,0<=x/\x < 18446744073709551616
theorem getD_mem {α:Type} {l:List α} {i:Nat} {d:α} (h:i < l.length):l.getD i d∈l:=by
 rw [List.getD_eq_getElem?_getD,List.getElem?_eq_getElem h];exact List.getElem_mem h
end Go.VI
namespace Go.VI
open Go
def toPg (x:PgD):P.Pg:=⟨x.1,x.2.1,x.2.2.1,x.2.2.2.1⟩
def toHp (h:HpD):P.Hp:=⟨h.1.1,h.1.2.1,h.2.1,h.2.2.1.map toPg,h.2.2.2.1,h.2.2.2.2.1⟩
end Go.VI
namespace Go.VI
open Go
structure NextP (l:List Int) (at' n:Int) (r:(Int × Unit) × (List Int × Int × Unit) × Unit):Prop where
 lo:0<=r.1.1
 hi:1<=n->r.1.1 < n
 z:n < 1->r.1.1=0
 l:r.2.1.1=l
 a0:at'<=r.2.1.2.1
 a1:r.2.1.2.1<=at'+1
 a2:1<=n->r.2.1.2.1=at'+1
theorem T_made_Tape_Next (l:List Int) (a n:Int) (h0:0<=a) (h1:a<=1000000000) (hn:n<=4611686018427387904):Tot (NextP l a n) (F_made_Tape_Next ((l,a,()),n,())):=by
 rw [nf_made_Tape_Next];dsimp only
 refine tot_cond (fun h=>tot_some ?_) fun h=>?_
 · simp only [decide_eq_true_eq] at h
   exact ⟨by simp,fun _=>by omega,fun _=>rfl,rfl,by simp,by simp;omega,fun _=>by omega⟩
 · simp only [decide_eq_false_iff_not] at h
   have hn0:(!n == 0)=true:=by simp;omega
   refine tot_need (need_if fun h=>inB_iff.2 (by simp only [decide_eq_true_eq] at h;omega)) (tot_need hn0 (tot_need hn0 (tot_some ?_)))
   generalize (bif decide (a < (l.length:Int)) then l.getD a.toNat 0 else W (W (a*7)+3))=v
   have b1:v.tmod n < n:=Int.tmod_lt_of_pos _ (by omega)
   have b2 : -n < v.tmod n:=by
    have:=Int.neg_tmod (-v) n
    have:=Int.tmod_lt_of_pos (-v) (show 0 < n by omega)
    have h3:(-v).tmod n = -(v.tmod n):=Int.neg_tmod v n
    omega
   have w:W (v.tmod n+n)=v.tmod n+n:=W_id (by omega)
   have wa:W (a+1)=a+1:=W_id (by omega)
   rw [w,wa]
   have e:(v.tmod n+n).tmod n=(v.tmod n+n) % n:=Int.tmod_eq_emod_of_nonneg (by omega)
   rw [e]
   exact ⟨Int.emod_nonneg _ (by omega),fun _=>Int.emod_lt_of_pos _ (by omega),fun _=>by omega,rfl,by dsimp only;omega,by dsimp only;omega,fun _=>rfl⟩
theorem conf_prod {pw np:Int} (h:confB pw np=true):128<=np*pw/\np*pw<=4096:=by
 have c2:=confB_iff.1 h
 refine ⟨?_,?_⟩
 · calc (128:Int)=8*16:=rfl
    _<=np*16:=Int.mul_le_mul_of_nonneg_right (by omega) (by omega)
    _<=np*pw:=Int.mul_le_mul_of_nonneg_left (by omega) (by omega)
 · calc np*pw<=64*pw:=Int.mul_le_mul_of_nonneg_right (by omega) (by omega)
    _<=64*64:=Int.mul_le_mul_of_nonneg_left (by omega) (by omega)
structure HOk (h:HpD):Prop where
 cf:confB h.1.1 h.1.2.1=true
 wl:(h.2.1.length:Int)=h.1.2.1*h.1.1
 pl:(h.2.2.1.length:Int)=h.1.2.1
 wb:∀ x∈h.2.1,0<=x/\x < 18446744073709551616
theorem HOk.hw {h:HpD} (k:HOk h):HpW h:=by
 have c:=conf_prod k.cf
 have c2:=confB_iff.1 k.cf
 have h1:=k.wl
 have h2:=k.pl
 exact ⟨by omega,by omega,k.wb⟩
theorem mem_set {α:Type} {l:List α} {i:Nat} {v x:α} (h:x∈l.set i v):x∈l\/x=v:=List.mem_or_eq_of_mem_set h
end Go.VI
namespace Go.VI
open Go
def WBo (l:List Int):Prop:=∀ x∈l,0<=x/\x < 18446744073709551616
theorem WBo.set {l:List Int} (h:WBo l) {i:Nat} {v:Int} (hv:0<=v/\v < 18446744073709551616):WBo (l.set i v):=fun x hx=>(mem_set hx).elim (h x) fun e=>e ▸ hv
theorem WBo.getD {l:List Int} (h:WBo l) (i:Nat):0<=l.getD i 0/\l.getD i 0 < 18446744073709551616:=by
 by_cases hi:i < l.length
 · exact h _ (getD_mem hi)
 · rw [List.getD_eq_getElem?_getD,List.getElem?_eq_none (by omega)];simp
end Go.VI
namespace Go.VI
open Go
theorem HpW.of {h h':HpD} (hw:HpW h) (hp:P.okP (toHp h')=true) (e:(toHp h').words=(toHp h).words):HpW h':=by
 obtain ⟨p1,p2,p3,p4,p5,p6⟩:=P.okP_parts hp
 have c3:=P.conf_parts p1
 have e':h'.2.1=h.2.1:=e
 refine ⟨by rw [e'];exact hw.wl,?_,by rw [e'];exact hw.wb⟩
 have:(h'.2.2.1.map toPg).length=h'.2.2.1.length:=List.length_map ..
 simp only [toHp] at p3 c3
 omega
end Go.VI
namespace Go.VI
open Go
theorem bits_and (a b:Nat) (ha:a < 18446744073709551616) (hb:b < 18446744073709551616):bits2 IntKind.u64 (fun (x1 x2:BitVec IntKind.u64.bits)=>x1 &&& x2) (a:Int) (b:Int)=((a &&& b:Nat):Int):=by
 have hx:a &&& b < 2 ^ 64:=Nat.and_lt_two_pow _ (by omega)
 show IntKind.u64.wrap ((BitVec.ofInt 64 (a:Int) &&& BitVec.ofInt 64 (b:Int)).toNat:Int)=_
 have e:∀ c:Nat,c < 18446744073709551616->(BitVec.ofInt 64 (c:Int)).toNat=c:=fun c hc=>by
  rw [BitVec.toNat_ofInt];omega
 rw [BitVec.toNat_and,e a ha,e b hb,IntKind.wrap_u64]
 omega
theorem fdiv_cast (x k:Nat) (hk:0 < k):(x:Int).fdiv (k:Int)=((x / k:Nat):Int):=by
 rw [Int.fdiv_eq_ediv_of_nonneg _ (by omega)];exact (Int.natCast_ediv x k).symm
end Go.VI
namespace Go.VI
open Go
abbrev WdD:=HpD × List Int × List Int × Unit
def toWd (d:WdD):P.Wd:=⟨toHp d.1,d.2.1,d.2.2.1⟩
structure Mk (n:Nat) (d:WdD):Prop where
 made:P.Made n (toWd d)
 wb:WBo d.1.2.1
 n400:n<=400
theorem Mk.lens {n:Nat} {d:WdD} (h:Mk n d):P.Lens n (toWd d):=P.lens_made n _ h.made h.n400
theorem Mk.hw {n:Nat} {d:WdD} (h:Mk n d):HpW d.1:=by
 have L:=h.lens
 have c:=P.conf_prod L.conf
 have c3:=P.conf_parts L.conf
 have h1:=L.words
 have h2:=L.pages
 have e:(toWd d).h.pages.length=d.1.2.2.1.length:=List.length_map ..
 rw [e] at h2
 have h3:(d.1.2.1.length:Int)=(toWd d).h.np*(toWd d).h.pw:=h1
 exact ⟨by omega,by omega,h.wb⟩
end Go.VI
namespace Go.VI
open Go
theorem Mk.keep {n:Nat} (hn:n < 400) {d:WdD} (h:Mk n d):Mk (n+1) d:=⟨.step n _ _ h.made (.none _),h.wb,by omega⟩
end Go.VI
namespace Go.VI
open Go
theorem getD_some {l:List Int} {k:Nat} (h:k < l.length):l[k]?=some (l.getD k 0):=by
 rw [List.getD_eq_getElem?_getD,List.getElem?_eq_getElem h];rfl
end Go.VI
