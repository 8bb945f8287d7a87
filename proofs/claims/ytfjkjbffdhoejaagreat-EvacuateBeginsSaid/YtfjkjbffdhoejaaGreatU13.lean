import Derived.Test.YtfjkjbffdhoejaaGreatU06
import Derived.Test.YtfjkjbffdhoejaaGreatU08
import Derived.Test.YtfjkjbffdhoejaaGreatU09
import Derived.Test.YtfjkjbffdhoejaaGreatU10
import Derived.Test.YtfjkjbffdhoejaaGreatU11
import Derived.Test.YtfjkjbffdhoejaaGreatU12
set_option linter.unusedSimpArgs false
set_option linter.unusedVariables false
set_option maxRecDepth 100000
set_option maxHeartbeats 4000000
noncomputable section
namespace Go.VI
open Go
namespace P
end P
theorem zsQ{α:Type}{A C:List α}{b v:α}{i:Nat}(hA:A.length=i):(A++b::C).set i v=A++v::C:=by
 subst hA;rw [List.set_append_right _ _ (qan _),qbQ,List.set_cons_zero]
theorem zdr.nat{ps:List PgD}{j n:Nat}(h:zdr ps j n):j+n<=ps.length/\∀ m,j<=m->m<j+n->(ps.getD m PG0).1=0:=by
 obtain ⟨-,-,h3,h4⟩:=h;exact ⟨by omega,fun m a b=>by have:=h4 (m:Int) (by omega) (by omega);rwa [qac]at this⟩
theorem zvX{ps:List PgD}{j n:Nat}(hf:zdr ps j n):P.zbd (((ps.take (j+n)).drop j).map toPg)=0:=by
 rw [P.zrH,qaN];intro x hx;obtain ⟨y,hy,rfl⟩:=qav.1 hx;obtain ⟨m,hm,e⟩:=qcv.1 hy;rw [qaI,qau]at hm;rw [qch,qb9]at e;have:=hf.nat.2 (j+m) (by omega) (by omega)
 rw [qay,qas (by omega),qcd,e]at this
 exact qad this
theorem zsk(ps:List PgD)(hl:ps.length<=100000000):Tot (fun r=>r.1.1=(P.zbd (ps.map toPg):Int)) (F_page_InUse (ps,())):=by
 rw [zpB];dsimp only
 refine zad (P:=fun r=>r.1.1=(P.zbd (ps.map toPg):Int)) (zai (fun x=>∃ k:Nat,x.1.2.1=(k:Int)/\k<=ps.length/\x.1.1=(P.zbd ((ps.map toPg).take k):Int)) (fun x=>((ps.length:Int)-x.1.2.1).toNat) ⟨0,rfl,by omega,by simp [P.zbd]⟩ ?_) fun r hr=>zab hr
 rintro ⟨⟨(n:Int),(i:Int),_⟩,_⟩ ⟨k,e,hk,e2⟩;dsimp only at e e2 ⊢
 subst e e2;have hle:=P.zit ((ps.map toPg).take k);rw [qau]at hle;refine zac (fun h=>?_) fun h=>zab ?_
 . simp only [qab]at h;have hk:k<ps.length:=by omega
   have w2:W ((k:Int)+1)=k+1:=W_id (by omega)
   have w1:W ((P.zbd ((ps.map toPg).take k):Int)+1)=P.zbd ((ps.map toPg).take k)+1:=W_id (by omega)
   refine zae (zaf.2 ⟨by omega,h⟩) (zab ?_)
   rw [w1,w2,qac];simp only [qal];refine ⟨⟨k+1,by omega,by omega,?_⟩,by omega⟩
   rw [P.zoG (zaH hk)];have:(toPg (ps.getD k PG0)).kind=(ps.getD k PG0).1:=rfl
   rw [this];cases hc:((ps.getD k PG0).1 != 0)
   . simp only [qaA]at hc;rw [if_pos hc];simp
   . simp only [qaC,ne_eq]at hc;rw [if_neg hc];simp
 . simp only [qag]at h;simp only [qak];rw [qa2 (by rw [qai];omega)]
theorem zm9(ps:List PgD)(i:Int)(h0:0<=i)(hi:i<=ps.length)(hl:ps.length<=1000000):Tot (fun r=>zdr ps i r.1.1) (F_page_freeFrom (ps,i,())):=by
 rw [zft];dsimp only
 refine zad (P:=fun r=>zdr ps i r.1.1) (zai (fun x=>zdr ps i x.1.1) (fun x=>((ps.length:Int)-i-x.1.1).toNat) ⟨h0,by dsimp only;omega,by dsimp only;omega,fun j a b=>by dsimp only at b;omega⟩ ?_) fun r hr=>zab hr
 rintro ⟨⟨(n:Int),_⟩,_⟩ ⟨f1,f2,f3,f4⟩;dsimp only at f1 f2 f3 f4 ⊢
 rw [W_id (n:=i+n) (by omega),W_id (n:=n+1) (by omega)]
 refine zae (zax fun h=>?_) (zac (fun h=>zab ?_) fun h=>zab ?_)
 . simp only [qab]at h;exact zaf.2 ⟨by omega,h⟩
 . simp only [cand,qae,qab,qax]at h;simp only [qal];exact ⟨⟨f1,by omega,by omega,fun j a b=>if c:j<i+n then f4 j a c else by rw [show j=i+n by omega];exact h.2⟩,by omega⟩
 . simp only [qak];exact ⟨f1,f2,f3,f4⟩
theorem zna(ps:List PgD)(hl:ps.length<=1000000):Tot (fun r=>RunsP ps r.1.1/\r.1.1.length<=ps.length+1) (F_page_Runs (ps,())):=by
 rw [zkr];dsimp only
 refine zad (P:=fun r=>RunsP ps r.2.1.1/\r.2.1.1.length<=ps.length+1) (zai (fun x=>0<=x.1.2.1/\x.1.2.1<=(ps.length:Int)+1/\(x.2.1.1.length:Int)<=x.1.2.1/\RunsP ps x.2.1.1) (fun x=>((ps.length:Int)+1-x.1.2.1).toNat) ⟨by simp,by dsimp only;omega,by simp,fun r hr=>by simp at hr⟩ ?_) fun r hr=>zab hr
 rintro ⟨⟨_,(i:Int),_⟩,⟨(rs:List Ah),_⟩,_⟩ ⟨h0,h1,h2,h3⟩;dsimp only at h0 h1 h2 h3 ⊢
 refine zac (fun h=>?_) fun _=>zab (by simp only [qak];exact ⟨h3,by omega⟩)
 simp only [qab]at h;refine zad (zm9 ps i h0 (by omega) hl) ?_
 rintro ⟨⟨(n:Int),_⟩,_⟩ hf;obtain ⟨f1,f2,f3,f4⟩:=id hf;dsimp only at f1 f2 f3 f4 hf ⊢
 rw [W_id (n:=i+n) (by omega),W_id (n:=i+n+1) (by omega)]
 refine zae (zax fun _=>zak.2 (by simp only [qaF,qby];omega)) (zac (fun h4=>zab ?_) fun h4=>zab ?_)
 . simp only [qab]at h4;simp only [qal];refine ⟨⟨by omega,by omega,by simp;omega,fun r hr=>?_⟩,by omega⟩
   rcases qaq.1 hr with hr | hr
   . exact h3 r hr
   . simp at hr;subst hr;exact ⟨by dsimp only;omega,hf⟩
 . simp only [qal];exact ⟨⟨by omega,by omega,by omega,h3⟩,by omega⟩
theorem zsl(ps:List PgD)(k:Int)(hl:ps.length<=1000000):Tot (fun r=>r.1.1 = -1\/1<=k/\zdr ps r.1.1 k) (F_page_First (ps,k,())):=by
 rw [zh6];dsimp only
 refine zac (fun _=>zab (.inl rfl)) fun hk=>?_
 simp only [qag]at hk;refine zad (zna ps hl) ?_;rintro ⟨⟨(rs:List Ah),_⟩,_⟩ ⟨h0,hr⟩;dsimp only at h0 hr ⊢
 refine zad (P:=fun r=>match r with
  | .inl x=>1<=k/\zdr ps x.1.1 k
  | .inr _=>True) (zai (fun x=>0<=x.1.2.1/\x.1.2.1<=(rs.length:Int)) (fun x=>((rs.length:Int)-x.1.2.1).toNat) (by simp) ?_) ?_
 . rintro ⟨⟨(a:Int),(i:Int),_⟩,_⟩ ⟨i0,i1⟩;dsimp only at i0 i1 ⊢
   refine zac (fun h=>?_) fun _=>zab trivial
   simp only [qab]at h;have w1:W (i+1)=i+1:=W_id (by omega)
   rw [w1];have hb:inB i rs.length=true:=zaf.2 ⟨i0,h⟩
   refine zae hb (zac (fun hc=>zab ?_) fun _=>zab ?_)
   . simp only [qab]at hc;obtain ⟨k1,k2,k3,k4,k5⟩:=h0 _ (zaE (d:=(0,0,())) (show i.toNat<rs.length by omega))
     simp only [qak];exact ⟨by omega,k2,by omega,by omega,fun j a b=>k5 j a (by omega)⟩
   . simp only [qal];omega
 . rintro r hr;refine zaQ (fun a ha=>?_) fun b hb=>zab (.inl rfl)
   subst ha;exact zab (.inr hr)
theorem zub(ps:List PgD)(j n:Nat)(a1 a2 a3 a4:Int)(hl:ps.length<=1000000)(h1:1<=n)(hf:zdr ps j n):
 Tot (fun r=>r.1.2.1=0/\r.1.1=ps.take j++((a1,a2,a3,a4,())::List.replicate (n-1) (3,a2,0,0,()))++ps.drop (j+n)) (F_page_take (ps,(j:Int),(n:Int),(a1,a2,a3,a4,()),())):=by
 obtain ⟨g1,g2⟩:=hf.nat;rw [zkq];dsimp only
 have w1:W ((ps.length:Int)-n)=ps.length-n:=W_id (by omega)
 have w2:W ((j:Int)+n)=((j+n:Nat):Int):=by rw [W_id (by omega)];omega
 have w3:W ((j:Int)+1)=j+1:=W_id (by omega)
 rw [w1,w2,w3,zaU,qaa,qac,qac];refine zac (fun h=>?_) fun _=>zae (qad (by omega)) (zad (zsk _ (by rw [qaI,qau];omega)) ?_)
 . have:decide (0<=(j:Int)/\(j:Int)<=(ps.length:Int)-n)=true:=qad (by omega)
   rw [this]at h;cases h
 rintro ⟨⟨(u:Int),_⟩,_⟩ hu;have hu:u=(P.zbd (((ps.take (j+n)).drop j).map toPg):Int):=hu
 rw [zvX hf]at hu;subst hu;refine zac (fun h=>by simp at h) fun _=>?_
 rw [zcA ps (by omega),qaa]
 dsimp only;refine zae (zaf.2 ⟨by omega,by omega⟩) (zad (P:=fun r=>r.2.2.1=ps.take j++((a1,a2,a3,a4,())::List.replicate (n-1) (3,a2,0,0,()))++ps.drop (j+n)) (zai (fun x=>∃ m:Nat,x.1.1=(j:Int)+1+m/\m+1<=n/\x.2.2.1=ps.take j++((a1,a2,a3,a4,())::List.replicate m (3,a2,0,0,()))++ps.drop (j+1+m)) (fun x=>((j:Int)+n-x.1.1).toNat) ?_ ?_) fun r hr=>zab ⟨rfl,hr⟩)
 . refine ⟨0,by dsimp only;omega,h1,?_⟩
   dsimp only;have e:ps=ps.take j++ps[j]'(by omega)::ps.drop (j+1):=by rw [<-qaT,qcg]
   have e2:=congrArg (fun l=>l.set j (a1,a2,a3,a4,())) e
   rw [zsQ (by rw [qau];omega)]at e2
   rw [e2];simp
 . rintro ⟨⟨(i:Int),_⟩,_,(qs:List PgD),_⟩ ⟨m,e1,e2,e3⟩;dsimp only at e1 e2 e3 ⊢
   subst e1;have hq:qs.length=ps.length:=by rw [e3];simp only [qaE,qau,qaF,qbb,qaI];omega
   refine zac (fun h=>?_) fun h=>zab ?_
   . simp only [qab]at h;rw [W_id (n:=(j:Int)+1+m+1) (by omega)]
     refine zae (zaf.2 ⟨by omega,by omega⟩) (zab ?_)
     simp only [qal];refine ⟨⟨m+1,by omega,by omega,?_⟩,by omega⟩
     rw [e3,show ((j:Int)+1+m).toNat=j+1+m by omega,qaT (show j+1+m<ps.length by omega),zsQ (by simp only [qaE,qau,qaF,qbb];omega),List.replicate_succ']
     simp [Nat.add_assoc]
   . simp only [qag]at h;simp only [qak];obtain rfl:m=n-1:=by omega
     rw [e3,show j+1+(n-1)=j+n by omega]
end Go.VI
namespace Go.VI
open Go Go.Proofs
def first{α:Type}:Tree α->Option α
 | .leaf a=>some a
 | .need _ k=>first k
 | .br _ a _=>first a
 | _=>none
def outW(o:Option Out):List Wr:=(o.getD (.ret,0,[])).2.2
def entC(E:Entry)(r:Rden E.rs×Oden E.ps):Ent:=(⟨E.f,E.sh,E.ps,E.rs,fun _=>some r⟩:Entry).ent
abbrev AdR:=Ah×Unit
abbrev AtR:=Au×Unit
abbrev SzR:=Aw×Unit
def WA(d:Pden psP)(v:Int):List Wr:=outW (first (runCode te tblP [] 46 (cAt [1,1,1,0] c81) 0 67 (hdP d v)))
theorem cA_eq(d:Pden psP)(v:Int):rcP (cAt [1,1,1,0] c81) 0 67 (hdP d v)=cond (inB d.2.1 d.1.2.2.1.length) (cond (decide (v<(d.1.2.2.1.getD d.2.1.toNat (0,0,0,0,())).2.2.1)) (some (.normal,579,WA d v)) (some (.exit 0,579,WA d v))) none:=by kernel_rfl
def ppA(d:Pden psP)(v:Int):List Wr:=frzW (WA d v++hdP d v)
def WB(d:Pden psP)(v:Int)(r:AdR):List Wr:=outW (runCode te [entC E_page_Address r] [] 46 (cAt [1,1,1,1,1,0] c81) 1 579 (ppA d v)).ev
theorem cB_eq(d:Pden psP)(v:Int):rcP (cAt [1,1,1,1,1,0] c81) 1 579 (ppA d v)=(F_page_Address (d.1.1,d.2.1,v,())).bind fun r=>some (.normal,1219,WB d v r):=by kernel_rfl
def ppB(d:Pden psP)(v:Int)(r:AdR):List Wr:=frzW (WB d v r++ppA d v)
def WC(d:Pden psP)(v:Int)(r:AdR)(q:AtR):List Wr:=outW (runCode te [entC E_object_At q] [] 46 (cAt [1,1,1,1,1,1,0] c81) 1 1219 (ppB d v r)).ev
theorem cC_eq(d:Pden psP)(v:Int)(r:AdR):rcP (cAt [1,1,1,1,1,1,0] c81) 1 1219 (ppB d v r)=(F_object_At (d.1,r.1.1,())).bind fun q=>some (.normal,1795,WC d v r q):=by kernel_rfl
def pp2(d:Pden psP)(v:Int)(r:AdR)(q:AtR):List Wr:=frzW (WC d v r q++ppB d v r)
def WY(d:Pden psP)(v:Int)(r:AdR)(q:AtR):List Wr:=(za4 te tblP ops81 46 1795 (zbv ops81) none (List.range 5) (pp2 d v r q) []).ev.getD []
theorem wY_eq(d:Pden psP)(v:Int)(r:AdR)(q:AtR):(za4 te tblP ops81 46 1795 (zbv ops81) none (List.range 5) (pp2 d v r q) []).ev=some (WY d v r q):=by kernel_rfl
theorem yP_eq(d:Pden psP)(v:Int)(r:AdR)(q:AtR):(zjJ 31).evs (look (frzW (WY d v r q++pp2 d v r q)))=some ():=by kernel_rfl
def xP(r:AdR)(q:AtR):Tden tsW:=(r.1.1,(q.1.1,(q.1.2.1,())),())
theorem xP_eq(d:Pden psP)(v:Int)(r:AdR)(q:AtR):(zoF tsW [.tmp 32,.tmp 35]).evs (look (frzW (WY d v r q++pp2 d v r q)))=some (xP r q):=by kernel_rfl
def WT(b:Bool)(d:Pden psP)(v:Int)(r:AdR)(q:AtR):List Wr:=(za4 te tblP ops81 46 1795 (zbv ops81) none (List.range' 6 5) (kbW 36 b::frzW (WY d v r q++pp2 d v r q)) []).ev.getD []
theorem wTt_eq(d:Pden psP)(v:Int)(r:AdR)(q:AtR):(za4 te tblP ops81 46 1795 (zbv ops81) none (List.range' 6 5) (kbW 36 true::frzW (WY d v r q++pp2 d v r q)) []).ev=some (WT true d v r q):=by kernel_rfl
theorem wTf_eq(d:Pden psP)(v:Int)(r:AdR)(q:AtR):(za4 te tblP ops81 46 1795 (zbv ops81) none (List.range' 6 5) (kbW 36 false::frzW (WY d v r q++pp2 d v r q)) []).ev=some (WT false d v r q):=by kernel_rfl
def pp3(b:Bool)(d:Pden psP)(v:Int)(r:AdR)(q:AtR):List Wr:=frzW (WT b d v r q++(kbW 36 b::frzW (WY d v r q++pp2 d v r q)))
theorem cF_eq(d:Pden psP)(v:Int)(r:AdR)(q:AtR):rcP (cAt [1,1,1,1,1,1,1,0,1] c81) 1 (1795+64*11) (pp3 false d v r q)=some (.ret,2499,[]):=by kernel_rfl
theorem cT_eq(d:Pden psP)(v:Int)(r:AdR)(q:AtR):rcP (cAt [1,1,1,1,1,1,1,0,1] c81) 1 (1795+64*11) (pp3 true d v r q)=cond (errB (xP r q)) (some (.ret,2499,[])) (some (.normal,2499,[])):=by kernel_rfl
def pp4(d:Pden psP)(v:Int)(r:AdR)(q:AtR):List Wr:=frzW ([]++pp3 true d v r q)
def WE(d:Pden psP)(v:Int)(r:AdR)(q:AtR)(u:SzR):List Wr:=outW (runCode te [entC E_header_Size u] [] 46 (cAt [1,1,1,1,1,1,1,1] c81) 1 2499 (pp4 d v r q)).ev
theorem cE_eq(d:Pden psP)(v:Int)(r:AdR)(q:AtR):rcP (cAt [1,1,1,1,1,1,1,1] c81) 1 2499 (pp4 d v r q)=(F_header_Size (q.1.1,())).bind fun u=>some (.normal,2819,WE d v r q u):=by kernel_rfl
theorem vE_eq(d:Pden psP)(v:Int)(r:AdR)(q:AtR)(u:SzR):(zyC 4).evs (look (frzW (WE d v r q u++pp4 d v r q)))=some (IntKind.i64.wrap (v+u.1.1)):=by kernel_rfl
theorem uE_eq(d:Pden psP)(v:Int)(r:AdR)(q:AtR)(u:SzR):zco zk5 (WE d v r q u++([]++(WT true d v r q++(kbW 36 true::(WY d v r q++(WC d v r q++(WB d v r++WA d v)))))))=true:=by kernel_rfl
theorem zyv(d:Pden psP)(v:Int):zcm d v=cond (inB d.2.1 d.1.2.2.1.length) (cond (decide (v<(d.1.2.2.1.getD d.2.1.toNat (0,0,0,0,())).2.2.1)) ((F_page_Address (d.1.1,d.2.1,v,())).bind fun r=>(F_object_At (d.1,r.1.1,())).bind fun q=>
 cond (errB (xP r q)) (some (.inl (xP r q,none))) ((F_header_Size (q.1.1,())).bind fun u=>some (.inl (xP r q,some (IntKind.i64.wrap (v+u.1.1)))))) (some (.inr ()))) none:=by
 unfold zcm;rw [cA_eq];cases inB d.2.1 d.1.2.2.1.length with
 | false=>rfl
 | true=>
 cases decide (v<(d.1.2.2.1.getD d.2.1.toNat (0,0,0,0,())).2.2.1) with
 | false=>rfl
 | true=>
 simp only [qah,qaa];rw [show frzW (WA d v++hdP d v)=ppA d v from rfl,cB_eq]
 cases F_page_Address (d.1.1,d.2.1,v,()) with
 | none=>rfl
 | some r=>
 simp only [qaa];rw [show frzW (WB d v r++ppA d v)=ppB d v r from rfl,cC_eq]
 cases F_object_At (d.1,r.1.1,()) with
 | none=>rfl
 | some q=>
 simp only [qaa];rw [show frzW (WC d v r q++ppB d v r)=pp2 d v r q from rfl,wY_eq]
 simp only [qaa];rw [yP_eq];simp only [qaa];rw [xP_eq];simp only [qaa,tailP];rw [wTf_eq];simp only [qaa];rw [show frzW (WT false d v r q++(kbW 36 false::frzW (WY d v r q++pp2 d v r q)))=pp3 false d v r q from rfl,cF_eq]
 simp only [qaa];rw [wTt_eq];simp only [qaa];rw [show frzW (WT true d v r q++(kbW 36 true::frzW (WY d v r q++pp2 d v r q)))=pp3 true d v r q from rfl,cT_eq]
 cases he:errB (xP r q) with
 | true=>rfl
 | false=>
 simp only [qaf,qaa];rw [show frzW ([]++pp3 true d v r q)=pp4 d v r q from rfl,cE_eq]
 cases F_header_Size (q.1.1,()) with
 | none=>rfl
 | some u=>
 simp only [qaa];rw [vE_eq];simp only [qaa];rw [uE_eq]
 rfl
end Go.VI
namespace Go.VI
open Go
theorem zlK{α:Type}{P Q:α->Prop}{o:Option α}(h:Tot P o)(k:Tot Q o):Tot (fun r=>P r/\Q r) o:=by
 obtain ⟨r,rfl,h⟩:=h;obtain ⟨s,e,k⟩:=k;cases e;exact ⟨r,rfl,h,k⟩
namespace P
theorem zw3{ps:List Pg}{i:Nat}(hg:∀ r∈zbe ps i,r.1+r.2<(i:Int)):∀ m:Nat,(∀ t:Nat,t<m->∃ x,ps[i+t]?=some x/\x.kind=0)->zbe ps (i+m)=if m=0 then zbe ps i else zbe ps i++[((i:Int),(m:Int))]:=by
 intro m;induction m with
 | zero=>intro _;rfl
 | succ m ih=>
  intro hfree;obtain ⟨x,hx,h0⟩:=hfree m (by omega)
  rw [show i+(m+1)=i+m+1 from by omega,zcS hx,ih (fun t ht=>hfree t (by omega)),if_neg (show ¬(m+1=0) from by omega)]
  rcases Nat.eq_zero_or_pos m with hz | hp
  . subst hz;rw [if_pos rfl];rcases zgC (zbe ps i) with e | ⟨pre,r,e⟩
    . rw [e,zdG h0];simp
    . have:=hg r (by rw [e];simp)
      rw [e,zdH h0 (by omega)];simp
  . rw [if_neg (show ¬(m=0) from by omega),zdb h0 (by simp only;omega)]
    simp
end P
theorem zm0(ps:List PgD)(i:Int)(h0:0<=i)(hi:i<=ps.length)(hl:ps.length<=1000000):Tot (fun r=>zdr ps i r.1.1/\(i+r.1.1<ps.length->¬(ps.getD (i+r.1.1).toNat PG0).1=0)) (F_page_freeFrom (ps,i,())):=by
 rw [zft];dsimp only
 refine zad (P:=fun r=>zdr ps i r.1.1/\(i+r.1.1<ps.length->¬(ps.getD (i+r.1.1).toNat PG0).1=0)) (zai (fun x=>zdr ps i x.1.1) (fun x=>((ps.length:Int)-i-x.1.1).toNat) ⟨h0,by dsimp only;omega,by dsimp only;omega,fun j a b=>by dsimp only at b;omega⟩ ?_) fun r hr=>zab hr
 rintro ⟨⟨(n:Int),_⟩,_⟩ ⟨f1,f2,f3,f4⟩;dsimp only at f1 f2 f3 f4 ⊢
 rw [W_id (n:=i+n) (by omega),W_id (n:=n+1) (by omega)]
 refine zae (zax fun h=>?_) (zac (fun h=>zab ?_) fun h=>zab ?_)
 . simp only [qab]at h;exact zaf.2 ⟨by omega,h⟩
 . simp only [cand,qae,qab,qax]at h;simp only [qal];exact ⟨⟨f1,by omega,by omega,fun j a b=>if c:j<i+n then f4 j a c else by rw [show j=i+n by omega];exact h.2⟩,by omega⟩
 . simp only [cand,qbC,qag,qaO,ne_eq]at h;simp only [qak];exact ⟨⟨f1,f2,f3,f4⟩,fun c=>h.resolve_left (fun q=>q c)⟩
theorem zt8(ps:List PgD)(hl:ps.length<=1000000):Tot (fun r=>r.1.1.map toR=P.zlT (ps.map toPg)) (F_page_Runs (ps,())):=by
 rw [zkr];dsimp only
 have hlm:(ps.map toPg).length=ps.length:=qai ..
 refine zad (P:=fun r=>r.2.1.1.map toR=P.zlT (ps.map toPg)) (zai (fun x=>∃ j k:Nat,x.1.2.1=(k:Int)/\k<=ps.length+1/\j<=ps.length/\(j=k\/j=ps.length)/\j<=k/\(∀ r∈P.zbe (ps.map toPg) j,r.1+r.2<(k:Int))/\x.2.1.1.map toR=P.zbe (ps.map toPg) j) (fun x=>((ps.length:Int)+1-x.1.2.1).toNat) ⟨0,0,rfl,by omega,by omega,.inl rfl,by omega,fun r hr=>by simp [P.zbe]at hr,rfl⟩ ?_) fun r hr=>zab hr
 rintro ⟨⟨_,(i:Int),_⟩,⟨(rs:List Ah),_⟩,_⟩ ⟨j,k,e1,e2,e3,e4,e5,e6,e7⟩;dsimp only at e1 e7 ⊢
 subst e1;have hrl:=P.zls (ps.map toPg) j;rw [<-e7,qai]at hrl;refine zac (fun h=>?_) fun h=>zab ?_
 . simp only [qab]at h;obtain rfl:j=k:=by omega
   refine zad (zm0 ps j (by omega) (by omega) hl) ?_
   rintro ⟨⟨(n:Int),_⟩,_⟩ ⟨hf,hs⟩;obtain ⟨m,rfl⟩:=qaM (show 0<=n from hf.2.1)
   obtain ⟨g1,g2⟩:=zdr.nat (n:=m) hf
   dsimp only at hs ⊢
   rw [W_id (n:=(j:Int)+m) (by omega),W_id (n:=(j:Int)+m+1) (by omega)]
   have hadd:=P.zw3 e6 m fun t ht=>⟨_,zaH (ps:=ps) (show j+t<ps.length by omega),g2 (j+t) (by omega) (by omega)⟩
   have hend:∃ j',j'<=ps.length/\(j'=j+m+1\/j'=ps.length)/\j'<=j+m+1/\P.zbe (ps.map toPg) j'=P.zbe (ps.map toPg) (j+m):=by
    by_cases c:j+m<ps.length
    . refine ⟨j+m+1,by omega,.inl rfl,by omega,?_⟩
      have:=hs (by omega)
      rw [show ((j:Int)+m).toNat=j+m by omega]at this
      rw [P.zcS (zaH (ps:=ps) c),P.zey this]
    . exact ⟨j+m,by omega,.inr (by omega),by omega,rfl⟩
   obtain ⟨j',k1,k2,k3,k4⟩:=hend;have hgap:∀ r∈P.zbe (ps.map toPg) j',r.1+r.2<((j+m+1:Nat):Int):=fun r hr=>by
    rw [k4]at hr;have:=P.zpa _ (j+m) r hr
    omega
   refine zae (zax fun _=>zak.2 (by simp only [qaF,qby];omega)) (zac (fun h4=>zab ?_) fun h4=>zab ?_)
   . simp only [qab]at h4;simp only [qal];refine ⟨⟨j',j+m+1,by omega,by omega,k1,k2,k3,hgap,?_⟩,by omega⟩
     rw [k4,hadd,if_neg (by omega),qa1,e7];rfl
   . simp only [qag]at h4;simp only [qal];refine ⟨⟨j',j+m+1,by omega,by omega,k1,k2,k3,hgap,?_⟩,by omega⟩
     rw [k4,hadd,if_pos (by omega),e7]
 . simp only [qag]at h;simp only [qak];rw [e7,P.zlT,hlm,show j=ps.length by omega]
theorem zsi(ps:List PgD)(k:Int)(hl:ps.length<=1000000):Tot (fun r=>r.1.1=P.zau (ps.map toPg) k) (F_page_First (ps,k,())):=by
 rw [zh6];dsimp only
 rw [P.zht];refine zac (fun h=>zab ?_) fun hk=>?_
 . simp only [qab]at h;rcases P.zfc (k:=k) (P.zlT (ps.map toPg)) with e | ⟨r,-,-,h1,-⟩
   . exact e.symm
   . omega
 simp only [qag]at hk;refine zad (zlK (zt8 ps hl) (zna ps hl)) ?_;rintro ⟨⟨(rs:List Ah),_⟩,_⟩ ⟨h0,-,hlen⟩;dsimp only at h0 hlen ⊢
 rw [<-h0];refine zad (P:=fun r=>match r with
  | .inl x=>x.1.1=P.zaY k (rs.map toR)
  | .inr _=>P.zaY k (rs.map toR) = -1) (zai (fun x=>∃ i:Nat,x.1.2.1=(i:Int)/\i<=rs.length/\P.zaY k ((rs.map toR).drop i)=P.zaY k (rs.map toR)) (fun x=>((rs.length:Int)-x.1.2.1).toNat) ⟨0,rfl,by omega,rfl⟩ ?_) ?_
 . rintro ⟨⟨(a:Int),(j:Int),_⟩,_⟩ ⟨i,e,hi,he⟩;dsimp only at e ⊢
   subst e;refine zac (fun h=>?_) fun h=>zab ?_
   . simp only [qab]at h;have hi:i<rs.length:=by omega
     have w1:W ((i:Int)+1)=i+1:=W_id (by omega)
     have hat:(rs.map toR)[i]?=some (toR (rs.getD i (0,0,()))):=by
      rw [qbd,qay,qas hi];rfl
     rw [P.zkw hat]at he;rw [w1,qac];refine zae (zaf.2 ⟨by omega,h⟩) (zac (fun hc=>zab ?_) fun hc=>zab ?_)
     . simp only [qab]at hc;rw [if_pos ⟨by omega,show k<=(rs.getD i (0,0,())).2.1 by omega⟩]at he
       simp only [qak];exact he
     . simp only [qag]at hc;rw [if_neg (by simp only [toR];omega)]at he
       simp only [qal];exact ⟨⟨i+1,by omega,by omega,he⟩,by omega⟩
   . simp only [qag]at h;rw [P.ziy (by rw [qai];omega)]at he
     simp only [qak];exact he.symm
 . rintro r hr;refine zaQ (fun a ha=>?_) fun b hb=>zab ?_
   . subst ha;exact zab hr
   . subst hb;exact hr.symm
theorem zel(pw np p o:Int)(hc:confB pw np=true)(h:0<=p/\p<np/\0<=o/\o<pw):F_page_Address ((pw,np,()),p,o,())=some ((4096+p*pw+o,0,()),()):=by
 have c2:=zaT.1 hc;have kp:=P.zaR (pw:=pw) (np:=np) (by rw [zaF];exact hc) (p:=p) (by omega) (by omega)
 have cp:=P.conf_prod (pw:=pw) (np:=np) (by rw [zaF];exact hc)
 rw [zml];dsimp only
 rw [zbE,qaa,hc,zaU,qaa,zaU,qaa];dsimp only;rw [W_id (n:=np-1) (by omega),W_id (n:=pw-1) (by omega),qad (show 0<=p/\p<=np-1 by omega),qad (show 0<=o/\o<=pw-1 by omega)]
 simp only [qbz,qaf];have v1:W (p*pw)=p*pw:=W_id (by omega)
 have v2:W (p*pw+o)=p*pw+o:=W_id (by omega)
 have v3:U (p*pw+o)=p*pw+o:=U_id (by omega)
 have v4:U (4096+(p*pw+o))=4096+(p*pw+o):=U_id (by omega)
 rw [v1,v2,v3,v4,Int.add_assoc]
end Go.VI
namespace Go.VI
open Go Go.Proofs
def itm(h:P.Hp)(a:Int):Tden tsW:=(a,(((P.atH h a).k,(P.atH h a).n,(P.atH h a).m,()),(P.atE h a,())),())
theorem zlB(h:P.Hp)(a:Int):errB (itm h a) = !decide (P.atE h a=0):=by
 show (P.atE h a != 0)=_
 by_cases e:P.atE h a=0 <;> simp [e]
def zzn(h:P.Hp)(w:Option (List Int))(L:List (Tden tsW)):Prop:=match w with
 | some l=>L=l.map (itm h)/\∀ x∈l,P.atE h x=0
 | none=>∃ (l:List Int) (a:Int),L=l.map (itm h)++[itm h a]/\(∀ x∈l,P.atE h x=0)/\P.atE h a=19
theorem zzn.cons{h:P.Hp}{w:Option (List Int)}{L:List (Tden tsW)}{a:Int}(k:zzn h w L)(ha:P.atE h a=0):zzn h (w.map (a :: ·)) (itm h a::L):=by
 cases w with
 | some l=>exact ⟨by rw [k.1];rfl,fun x hx=>by rcases qap.1 hx with rfl | hx;exact ha;exact k.2 x hx⟩
 | none=>
  obtain ⟨l,b,e1,e2,e3⟩:=k;exact ⟨a::l,b,by rw [e1];rfl,fun x hx=>by rcases qap.1 hx with rfl | hx;exact ha;exact e2 x hx,e3⟩
theorem zyT{x:Tden tsW}{L:List (Tden tsW)}(hx:errB x=false)(h:okL L=true):okL (x::L)=true:=by
 cases L with
 | nil=>rfl
 | cons y r=>simp only [okL,hx,Bool.not_false,qaU];exact h
theorem at_page{h:P.Hp}(h1:P.okH h=true){j:Nat}{o:Int}(hj:(j:Int)<h.np)(ho:0<=o/\o<h.pw):(P.atE h (4096+j*h.pw+o)=0\/P.atE h (4096+j*h.pw+o)=19)/\P.zb0 h (4096+j*h.pw+o)=P.pgAt h j/\P.ofK h.pw h.np (4096+j*h.pw+o)=o:=by
 have c:=(P.zam h1).1;obtain ⟨a1,a2,a3⟩:=P.zs1 c (p:=(j:Int)) (o:=o) (qad ⟨by omega,by omega,by omega,by omega⟩)
 obtain ⟨b1,b2,b3⟩:=P.zl7 c a1;rw [a2]at b1;rw [a3]at b2;refine ⟨?_,?_,b2⟩
 . unfold P.atE;rw [if_pos h1,if_pos b3];cases P.atB h (4096+j*h.pw+o) <;> simp
 . unfold P.zb0 P.pgAt;rw [b1]
theorem zyb(h:HpD)(hw:HpW h)(h1:P.okH (toHp h)=true)(j:Nat)(hj:j<h.2.2.1.length):∃ L,listP (h,(j:Int),())=some L/\L.length<=1002 /\
 ((P.zbp (toHp h) j=0/\L=(P.zaK (toHp h) j).map (itm (toHp h))/\∀ x∈P.zaK (toHp h) j,P.atE (toHp h) x=0)\/(P.zbp (toHp h) j=19/\∃ (l:List Int) (a:Int),L=l.map (itm (toHp h))++[itm (toHp h) a]/\(∀ x∈l,P.atE (toHp h) x=0)/\P.atE (toHp h) a=19)):=by
 have hlm:(toHp h).pages.length=h.2.2.1.length:=qai ..
 have hin:¬((j:Int)<0\/(toHp h).pages.length<=(j:Int)):=by rw [hlm];omega
 obtain ⟨p1,p2,p3,p4,p5,p6⟩:=P.zaN (zf2 h1);have hat:(toHp h).pages[j]?=some (toPg (h.2.2.1.getD j PG0)):=zaH hj
 have hpg:P.pgAt (toHp h) (j:Int)=toPg (h.2.2.1.getD j PG0):=by
  unfold P.pgAt;rw [qac];exact P.zao hat
 have hub:=fun hk=>zwP p1 p6 hat hk
 have hsm:=fun hk=>P.zlr p6 hat hk
 have hok:=P.za5.1 p6 j _ hat;have cp:=P.zaj p1;have hnp:(toHp h).np=h.1.2.1:=rfl
 have hpw:(toHp h).pw=h.1.1:=rfl
 have hjn:(j:Int)<h.1.2.1:=by rw [<-hnp];omega
 have hcB:confB h.1.1 h.1.2.1=true:=by rw [<-zaF];exact p1
 generalize hG:h.2.2.1.getD j PG0=G at hpg hub hsm hok
 obtain ⟨gk,gs,gu,gp,_⟩:=G;have hub:gk=1\/gk=2->0<=gu/\gu<=1000:=hub
 have hsm:gk=1->_:=hsm
 have hk:(P.pgAt (toHp h) (j:Int)).kind=gk:=by rw [hpg];rfl
 have hu:(P.pgAt (toHp h) (j:Int)).used=gu:=by rw [hpg];rfl
 have hkc:(gk=0\/gk=3)/\gu=0\/gk=1\/gk=2:=by
  unfold P.zbo at hok;have e:(toPg (gk,gs,gu,gp,())).kind=gk:=rfl
  have e2:(toPg (gk,gs,gu,gp,())).used=gu:=rfl
  rw [e]at hok;by_cases k0:gk=0
  . rw [if_pos k0]at hok;unfold P.zrQ at hok;have:=qat hok
    rw [e2]at this;exact .inl ⟨.inl k0,this.2.1⟩
  . by_cases k1:gk=1
    . exact .inr (.inl k1)
    . by_cases k2:gk=2
      . exact .inr (.inr k2)
      . by_cases k3:gk=3
        . rw [if_neg k0,if_neg k1,if_neg k2,if_pos k3]at hok;unfold P.zet at hok;have:=qat (qbq.1 hok).1
          rw [e2]at this;exact .inl ⟨.inr k3,this.1⟩
        . rw [if_neg k0,if_neg k1,if_neg k2,if_neg k3]at hok;cases hok
 have step:∀ o:Nat,zcm (h,(j:Int),()) (o:Int)=cond (decide ((o:Int)<gu)) ((F_page_Address (h.1,(j:Int),(o:Int),())).bind fun r=>(F_object_At (h,r.1.1,())).bind fun q=>
  cond (errB (xP r q)) (some (.inl (xP r q,none))) ((F_header_Size (q.1.1,())).bind fun u=>some (.inl (xP r q,some (IntKind.i64.wrap ((o:Int)+u.1.1)))))) (some (.inr ())):=fun o=>by
  rw [zyv];dsimp only;rw [zaf.2 ⟨by omega,by omega⟩,qah,qac]
  have:h.2.2.1.getD j (0,0,0,0,())=(gk,gs,gu,gp,()):=hG
  rw [this]
 have up:∀ (f o:Nat),gu.toNat-o<=f->(o=0\/gk=1)->o<=2000->(gk=1\/gk=2)->∃ n L,zcj (zcm (h,(j:Int),())) n (o:Int)=some L/\okL L=true/\L.length<=f+1/\zzn (toHp h) (P.zcG (toHp h) j (decide (gk=2)) gu.toNat o) L:=by
  intro f;induction f with
  | zero=>
   intro o hf ho ho2 hk12;refine ⟨1,[],?_,rfl,by simp,?_⟩
   . simp only [zcj];rw [step o,qaj (by have:=hub hk12;omega)];rfl
   . rw [P.zb8 (by omega)];exact ⟨rfl,by simp⟩
  | succ f ih=>
   intro o hf ho ho2 hk12;have hgu:=hub hk12;by_cases hlt:o<gu.toNat
   . have hop:(o:Int)<h.1.1:=by
      rcases ho with rfl | k1
      . rw [<-hpw];omega
      . have h2:=(hsm k1).2.1.2;have e2:(toPg (gk,gs,gu,gp,())).used=gu:=rfl
        rw [e2]at h2;rw [<-hpw];omega
     have hA:=zel h.1.1 h.1.2.1 (j:Int) (o:Int) hcB ⟨by omega,hjn,by omega,hop⟩
     obtain ⟨ead,-⟩:=P.zhz p1 (p:=(j:Int)) (o:=(o:Int)) (qad ⟨by omega,hjn,by omega,by rw [hpw];exact hop⟩)
     obtain ⟨e19,epo,eok⟩:=at_page h1 (j:=j) (o:=(o:Int)) hjn ⟨by omega,by rw [hpw];exact hop⟩
     have hab:=P.zmU (toHp h).pw (toHp h).np j o;rw [ead]at hab;have hq:=zfi h hw _ hab;generalize ha:4096+(j:Int)*(toHp h).pw+(o:Int)=a at *
     have ha':4096+(j:Int)*h.1.1+(o:Int)=a:=ha
     rw [ha']at hA;obtain ⟨⟨⟨⟨k',n,m,_⟩,e,_⟩,_⟩,hF,he,hH⟩:=hq;have hA2:F_page_Address (h.1,(j:Int),(o:Int),())=some ((a,0,()),()):=hA
     have ek:(P.atH (toHp h) a).k=k':=(congrArg P.Hd.k hH).symm
     have en:(P.atH (toHp h) a).n=n:=(congrArg P.Hd.n hH).symm
     have em:(P.atH (toHp h) a).m=m:=(congrArg P.Hd.m hH).symm
     have he:e=P.atE (toHp h) a:=he
     have hx:xP ((a,0,()),()) (((k',n,m,()),e,()),())=itm (toHp h) a:=by
      unfold xP itm;rw [ek,en,em,<-he]
     have hst:=step o;rw [qad (by omega),qah,hA2,qaa,hF,qaa,hx,zlB]at hst
     by_cases e0:P.atE (toHp h) a=0
     . rw [qad e0]at hst;simp only [qbz,qaf]at hst;obtain ⟨-,a2,a3,a4,a5,a6⟩:=P.zjU e0;rw [ek,en,em]at a2;rw [em]at a3 a4;rw [en]at a5 a6;rw [zdx k' n m ⟨a3,a4⟩,qaa,P.zcq a2]at hst;have w:IntKind.i64.wrap ((o:Int)+(n+1))=((o+(n.toNat+1):Nat):Int):=by
        show W _=_
        rw [W_id (by omega)];omega
       dsimp only at hst
       rw [w]at hst;have hes:errB (itm (toHp h) a)=false:=by rw [zlB,qad e0];rfl
       rcases hk12 with k1 | k2
       . obtain ⟨N,L,g1,g2,g3,g4⟩:=ih (o+(n.toNat+1)) (by omega) (.inr k1) (by omega) (.inl k1)
         have hdf:decide (gk=2)=false:=qaj (by omega)
         rw [hdf]at g4;refine ⟨N+1,itm (toHp h) a::L,?_,zyT hes g2,by simp;omega,?_⟩
         . simp only [zcj];rw [hst];dsimp only;rw [g1];rfl
         . rw [hdf];have hws:=P.zes (h:=toHp h) (i:=(j:Int)) (u:=gu.toNat) (o:=o) hlt (by rw [ead];exact e0)
           rw [ead,en]at hws;rw [hws];exact g4.cons e0
       . have ho0:o=0:=by omega
         subst ho0;have hdt:decide (gk=2)=true:=qad k2
         have hfull:gu=n+1:=by
          have hB:P.atB (toHp h) a=true:=by
           unfold P.atE at e0;rw [if_pos h1]at e0;split at e0
           . cases hb:P.atB (toHp h) a with
             | true=>rfl
             | false=>rw [hb]at e0;simp at e0
           . omega
          unfold P.atB at hB;rw [epo,hk,hu]at hB;rw [if_neg (by omega)]at hB
          simp only [qae,qab]at hB;have hn2:(P.atH (toHp h) a).n=P.dN (P.za1 (toHp h) a):=by unfold P.atH;rw [if_pos e0];rfl
          rw [en]at hn2;omega
         refine ⟨2,[itm (toHp h) a],?_,rfl,by simp,?_⟩
         . simp only [zcj];rw [hst];dsimp only;rw [step,qaj (by omega)];rfl
         . rw [hdt];have hws:=P.zgA (h:=toHp h) (i:=(j:Int)) (u:=gu.toNat) (o:=0) hlt (by rw [ead];exact e0)
           rw [ead]at hws;rw [hws];exact ⟨rfl,by simpa using e0⟩
     . rw [qaj e0]at hst;simp only [Bool.not_false,qah]at hst;refine ⟨1,[itm (toHp h) a],?_,rfl,by simp,?_⟩
       . simp only [zcj];rw [hst]
       . rw [P.zd0 hlt (by rw [ead];exact e0)]
         exact ⟨[],a,rfl,by simp,e19.resolve_left e0⟩
   . refine ⟨1,[],?_,rfl,by simp,?_⟩
     . simp only [zcj];rw [step o,qaj (by omega)];rfl
     . rw [P.zb8 hlt];exact ⟨rfl,by simp⟩
 rcases hkc with ⟨k03,hu0⟩ | hk12
 . refine ⟨[],?_,by simp,.inl ?_⟩
   . unfold listP;have:zcj (zcm (h,(j:Int),())) 1 ((0:Nat):Int)=some []:=by
      simp only [zcj];rw [step 0,qaj (by omega)];rfl
     rw [show (0:Int)=((0:Nat):Int) from rfl,zrF this];rfl
   . obtain ⟨e1,e2⟩:=P.zfX h1 hin (by rw [hk];exact k03)
     rw [e1,e2];exact ⟨rfl,rfl,by simp⟩
 . obtain ⟨n,L,g1,g2,g3,g4⟩:=up 1001 0 (by have:=hub hk12;omega) (.inl rfl) (by omega) hk12
   refine ⟨L,?_,g3,?_⟩
   . unfold listP;rw [show (0:Int)=((0:Nat):Int) from rfl,zrF g1,qaa,g2];rfl
   . have hW:P.zeE (toHp h) (j:Int)=P.zcG (toHp h) j (decide (gk=2)) gu.toNat 0:=by
      unfold P.zeE;rw [hk,hu]
     have hnk:¬((P.pgAt (toHp h) (j:Int)).kind=0\/(P.pgAt (toHp h) (j:Int)).kind=3):=by rw [hk];omega
     rw [<-hW]at g4;cases hq:P.zeE (toHp h) (j:Int) with
     | none=>
      rw [hq]at g4;exact .inr ⟨(P.zq1 h1 hin hnk hq).1,g4⟩
     | some l=>
      rw [hq]at g4;obtain ⟨e1,e2⟩:=P.zq0 h1 hin hnk hq;rw [e1,e2];exact .inl ⟨rfl,g4.1,g4.2⟩
end Go.VI
namespace Go.VI
open Go Go.Proofs
theorem lenH_eq(d:Pden psH):lenH d=(d.1.2.2.1.length:Int):=by kernel_rfl
theorem zyY(d:Pden psH)(n v:Int):nextH d n v=IntKind.i64.wrap (v+1):=by kernel_rfl
theorem zoC{h:P.Hp}:∀ {l:List Int},(∀ x∈l,P.atE h x=0)->zeh (l.map (itm h))=false
 | [],_=>rfl
 | [a],hl=>by
  show errB (itm h a)=false
  rw [zlB,qad (hl a (by simp))];rfl
 | a::b::l,hl=>zoC (l:=b::l) fun x hx=>hl x (qaD _ hx)
def zpV(h:P.Hp)(k:Nat):List Int:=(List.range' k (h.pages.length-k)).flatMap fun (t:Nat)=>P.zaK h t
theorem X_listH(h:HpD)(hw:HpW h):∃ L,listH (h,())=some L/\L.length<=100000/\(
 (P.okH (toHp h)=false/\L=[xErr]) \/
 (P.okH (toHp h)=true/\P.zb1 (toHp h)=0/\L=(P.zaW (toHp h)).map (itm (toHp h))/\∀ x∈P.zaW (toHp h),P.atE (toHp h) x=0) \/
 (P.okH (toHp h)=true/\P.zb1 (toHp h)=19/\∃ (l:List Int) (a:Int),L=l.map (itm (toHp h))++[itm (toHp h) a]/\(∀ x∈l,P.atE (toHp h) x=0)/\P.atE (toHp h) a=19)):=by
 obtain ⟨⟨⟨b,_⟩,_⟩,hF,hb⟩:=zcB h hw;have hb:b=P.okH (toHp h):=hb
 subst hb;unfold listH;dsimp only;rw [hF,qaa,lenH_eq];dsimp only;cases h1:P.okH (toHp h) with
 | false=>exact ⟨[xErr],rfl,by simp,.inl ⟨rfl,rfl⟩⟩
 | true=>
 simp only [qah];have hlm:(toHp h).pages.length=h.2.2.1.length:=qai ..
 obtain ⟨p1,p2,p3,p4,p5,p6⟩:=P.zaN (zf2 h1);have cp:=P.zaj p1;have hn64:h.2.2.1.length<=64:=by omega
 have up:∀ (f k:Nat),k+f=h.2.2.1.length->∃ L,pagesH (h,()) (h.2.2.1.length:Int) (f+1) (k:Int)=some L/\L.length<=1002*f /\
  (((∀ t,k<=t->t<h.2.2.1.length->P.zbp (toHp h) (t:Nat)=0)/\L=(zpV (toHp h) k).map (itm (toHp h))/\∀ x∈zpV (toHp h) k,P.atE (toHp h) x=0)\/((∃ t,k<=t/\t<h.2.2.1.length/\¬P.zbp (toHp h) (t:Nat)=0)/\∃ (l:List Int) (a:Int),L=l.map (itm (toHp h))++[itm (toHp h) a]/\(∀ x∈l,P.atE (toHp h) x=0)/\P.atE (toHp h) a=19)):=by
  intro f;induction f with
  | zero=>
   intro k hk;refine ⟨[],?_,by simp,.inl ⟨fun t h1 h2=>by omega,?_,?_⟩⟩
   . simp only [pagesH];rw [qaj (by omega)];rfl
   . unfold zpV;rw [show (toHp h).pages.length-k=0 by omega];rfl
   . unfold zpV;rw [show (toHp h).pages.length-k=0 by omega];simp
  | succ f ih=>
   intro k hk;obtain ⟨Lp,q1,q2,q3⟩:=zyb h hw h1 k (by omega)
   have w:IntKind.i64.wrap ((k:Int)+1)=((k+1:Nat):Int):=by
    show W _=_
    rw [W_id (by omega)];omega
   have hst:pagesH (h,()) (h.2.2.1.length:Int) (f+1+1) (k:Int)=cond (zeh Lp) (some Lp) ((pagesH (h,()) (h.2.2.1.length:Int) (f+1) ((k+1:Nat):Int)).map (Lp ++ ·)):=by
    rw [pagesH,qad (by omega),qah]
    dsimp only;rw [q1,qaa,zyY,w]
   rcases q3 with ⟨e0,eL,eA⟩ | ⟨e19,l,a,eL,eA,ea⟩
   . obtain ⟨L,g1,g2,g3⟩:=ih (k+1) (by omega)
     rw [eL,zoC eA,qaf,g1,<-eL]at hst;have hfr:zpV (toHp h) k=P.zaK (toHp h) (k:Nat)++zpV (toHp h) (k+1):=by
      unfold zpV;rw [show (toHp h).pages.length-k=((toHp h).pages.length-(k+1))+1 by omega,qco];rfl
     refine ⟨Lp++L,hst,by simp;omega,?_⟩
     rcases g3 with ⟨z1,z2,z3⟩ | ⟨⟨t,t1,t2,t3⟩,l,a,z2,z3,z4⟩
     . refine .inl ⟨fun t t1 t2=>?_,by rw [hfr,qa1,eL,z2],fun x hx=>?_⟩
       . by_cases hh:t=k
         . subst hh;exact e0
         . exact z1 t (by omega) t2
       . rw [hfr]at hx;rcases qaq.1 hx with hx | hx
         . exact eA x hx
         . exact z3 x hx
     . refine .inr ⟨⟨t,by omega,t2,t3⟩,P.zaK (toHp h) (k:Nat)++l,a,by rw [eL,z2];simp,fun x hx=>?_,z4⟩
       rcases qaq.1 hx with hx | hx
       . exact eA x hx
       . exact z3 x hx
   . have he:zeh Lp=true:=by
      rw [eL,zd6,zlB,qaj (by omega)];rfl
     rw [he,qah]at hst;exact ⟨Lp,hst,by omega,.inr ⟨⟨k,by omega,by omega,by omega⟩,l,a,eL,eA,ea⟩⟩
 obtain ⟨L,g1,g2,g3⟩:=up h.2.2.1.length 0 (by omega)
 have hf0:zpV (toHp h) 0=P.zby (toHp h) (toHp h).pages.length:=by
  unfold zpV P.zby;rw [List.range_eq_range',Nat.sub_zero]
 refine ⟨L,g1,by omega,.inr ?_⟩
 rcases g3 with ⟨z1,z2,z3⟩ | ⟨⟨t,t1,t2,t3⟩,l,a,z2,z3,z4⟩
 . obtain ⟨s1,s2⟩:=P.zfO h1 (fun t ht=>z1 t (by omega) (by rw [<-hlm];exact ht))
   refine .inl ⟨trivial,s1,?_,?_⟩
   . rw [s2,<-hf0];exact z2
   . rw [s2,<-hf0];exact z3
 . obtain ⟨s1,s2⟩:=P.zqM h1 (by rw [hlm];exact t2) t3
   exact .inr ⟨trivial,s1,l,a,z2,z3,z4⟩
end Go.VI
namespace Go.VI
open Go Go.Proofs
abbrev LS:=Unit×A9×A9×Aw×AT×Unit
def lf(kp:A7×Unit->Option A5)(y:Tden tsW)(x:LS):Option (LS⊕LS) :=
 bif y.2.1.2.1 != 0 then some (Sum.inr ((),(x.2.1.1,()),([],()),(y.2.1.2.1,()),((),()),()))
 else (kp ((y.2.1.1.1,y.2.1.1.2.1,y.2.1.1.2.2.1,()),())).bind fun (r:A5)=>
  bif bif r.1.1 then zaA (x.2.1.1.length + [y.1].length) 8 else true then
   bif r.1.1 then some (Sum.inl ((),(x.2.1.1++[y.1],()),(x.2.2.1.1,()),(x.2.2.2.1.1,()),((),()),()))
   else some (Sum.inl ((),(x.2.1.1,()),(x.2.2.1.1,()),(x.2.2.2.1.1,()),((),()),()))
  else none
theorem lf_ok{h:P.Hp}{kp:A7×Unit->Option A5}{kb:Int->Bool}(hk:∀ k n m,kp ((k,n,m,()),())=some ((kb k,()),())){R:List (Tden tsW)}:∀ (l acc:List Int) (c:List Int) (e:Int),(∀ x∈l,P.atE h x=0)->acc.length+l.length<=200000 ->
 ziw (lf kp) (l.map (itm h)++R) ((),(acc,()),(c,()),(e,()),((),()),())=ziw (lf kp) R ((),(acc++l.filter (fun a=>kb (P.atH h a).k),()),(c,()),(e,()),((),()),())
 | [],acc,c,e,_,_=>by simp
 | a::l,acc,c,e,ha,hl=>by
  have h0:=ha a (by simp)
  have he:(P.atE h a != 0)=false:=by rw [h0];rfl
  have hst:lf kp (itm h a) ((),(acc,()),(c,()),(e,()),((),()),())=some (.inl ((),(acc++[a].filter (fun a=>kb (P.atH h a).k),()),(c,()),(e,()),((),()),())):=by
   unfold lf itm;dsimp only;rw [he,qaf,hk,qaa];have hs:zaA (acc.length+1) 8=true:=zak.2 (by simp at hl;omega)
   cases hb:kb (P.atH h a).k with
   | true=>simp [hs,hb]
   | false=>simp [hb]
  simp only [qaW,qaK,ziw];rw [hst];dsimp only;rw [lf_ok hk l _ c e (fun x hx=>ha x (by simp [hx])) (by have:=qbN (fun a=>kb (P.atH h a).k) [a];simp at hl this ⊢;omega)]
  rw [qaS,<-List.filter_append];rfl
theorem zzB{h:P.Hp}{kp:A7×Unit->Option A5}{kb:Int->Bool}(hk:∀ k n m,kp ((k,n,m,()),())=some ((kb k,()),())){l:List Int}(hl:∀ x∈l,P.atE h x=0)(hn:l.length<=200000):
 ziw (lf kp) (l.map (itm h)) ((),([],()),([],()),(0,()),((),()),())=some (.inl ((),(l.filter (fun a=>kb (P.atH h a).k),()),([],()),(0,()),((),()),())):=by
 have:=lf_ok hk (R:=[]) l [] [] 0 hl (by simpa using hn)
 rw [qaX]at this;rw [this];rfl
theorem zzA{h:P.Hp}{kp:A7×Unit->Option A5}{kb:Int->Bool}(hk:∀ k n m,kp ((k,n,m,()),())=some ((kb k,()),())){l:List Int}{y:Tden tsW}(hy:y.2.1.2.1≠0)(hl:∀ x∈l,P.atE h x=0)(hn:l.length<=200000):
 ziw (lf kp) (l.map (itm h)++[y]) ((),([],()),([],()),(0,()),((),()),())=some (.inr ((),(l.filter (fun a=>kb (P.atH h a).k),()),([],()),(y.2.1.2.1,()),((),()),())):=by
 rw [lf_ok hk (R:=[y]) l [] [] 0 hl (by simpa using hn)]
 have:(y.2.1.2.1 != 0)=true:=by simpa using hy
 simp only [ziw,lf,this,qah,qaQ]
theorem anyK(k n m:Int):F_walk_isAny ((k,n,m,()),())=some ((true,()),()):=by rw [zpr]
theorem objK(k n m:Int):F_walk_isObject ((k,n,m,()),())=some ((k != 0,()),()):=by rw [zkU]
theorem objs_eq(h:P.Hp)(l:List Int):l.filter (fun a=>(P.atH h a).k != 0)=P.zci h l:=by
 unfold P.zci;congr 1
 funext a
 by_cases e:(P.atH h a).k=0 <;> simp [e]
theorem zwj(h:HpD)(hw:HpW h):F_walk_list_c_walk_inHeap_S1_walk_isObject (h,())=some ((P.zag (toHp h),P.zb1 (toHp h),()),(h,())):=by
 have hnf:F_walk_list_c_walk_inHeap_S1_walk_isObject (h,())=((listH (h,())).bind fun L=>ziw (lf F_walk_isObject) L ((),([],()),([],()),(0,()),((),()),())).bind fun r=>Sum.elim (fun (x:LS)=>some ((x.2.1.1,0,()),(h,()))) (fun (y:LS)=>some ((y.2.2.1.1,y.2.2.2.1.1,()),(h,()))) r:=by
  rw [zbz];rfl
 obtain ⟨L,h1,h2,h3⟩:=X_listH h hw;rw [hnf,h1,qaa];rcases h3 with ⟨b1,b2⟩ | ⟨b1,b2,b3,b4⟩ | ⟨b1,b2,l,a,b3,b4,b5⟩
 . obtain ⟨e1,e2⟩:=P.zoe b1;rw [b2];unfold P.zag;rw [e1,e2];rfl
 . rw [b3,zzB (kb:=fun k=>k != 0) objK b4 (by rw [b3]at h2;simp at h2;omega),qaa,b2]
   rw [objs_eq];rfl
 . rw [b3,zzA (kb:=fun k=>k != 0) objK (y:=itm (toHp h) a) (by show P.atE (toHp h) a≠0;omega) b4 (by rw [b3]at h2;simp at h2;omega),qaa]
   have hV:P.zaW (toHp h)=[]:=by unfold P.zb1 at b2;unfold P.zaW;rw [if_pos b1]at b2 ⊢;split at b2 <;> simp_all
   unfold P.zag;rw [hV,b2];show some (([],P.atE (toHp h) a,()),(h,()))=_
   rw [b5];rfl
theorem zg7(h:HpD)(hw:HpW h):F_walk_Objects (h,())=some ((P.zag (toHp h),P.zb1 (toHp h),()),()):=by
 rw [zmc];dsimp only
 try rw [zar]
 rw [znD];dsimp only;rw [qaa];dsimp only;rw [zwj h hw];rfl
theorem zmW(h:HpD)(hw:HpW h)(i:Int):F_walk_Page (h,i,())=some ((P.zaK (toHp h) i,P.zbp (toHp h) i,()),()):=by
 rw [zq7];dsimp only
 try rw [zar]
 obtain ⟨⟨⟨b,_⟩,_⟩,hF,hb⟩:=zcB h hw;have hb:b=P.okH (toHp h):=hb
 subst hb;rw [hF,qaa];dsimp only;cases h1:P.okH (toHp h) with
 | false=>
  obtain ⟨e1,e2⟩:=P.zpl (i:=i) h1
  rw [e1,e2];rfl
 | true=>
 simp only [qbz,qaf];have hlm:(toHp h).pages.length=h.2.2.1.length:=qai ..
 by_cases hr:i<0\/(h.2.2.1.length:Int)<=i
 . obtain ⟨e1,e2⟩:=P.zpk (i:=i) h1 (by rw [hlm];exact hr)
   rw [e1,e2];rcases hr with hr | hr
   . rw [qad hr];rfl
   . by_cases hi:i<0
     . rw [qad hi];rfl
     . rw [qaj hi,qad (show i >= (h.2.2.1.length:Int) from hr)];rfl
 rw [qaj (show ¬i<0 by omega),qaj (show ¬i >= (h.2.2.1.length:Int) by omega),znC]
 dsimp only;simp only [qaf,qaa];obtain ⟨j,rfl⟩:=qaM (show 0<=i by omega)
 have hnf:F_walk_list_c_walk_inPage_S1_walk_isAny (h,(j:Int),())=((listP (h,(j:Int),())).bind fun L=>ziw (lf F_walk_isAny) L ((),([],()),([],()),(0,()),((),()),())).bind fun r=>Sum.elim (fun (x:LS)=>some ((x.2.1.1,0,()),(h,(j:Int),()))) (fun (y:LS)=>some ((y.2.2.1.1,y.2.2.2.1.1,()),(h,(j:Int),()))) r:=by
  rw [zbL];rfl
 obtain ⟨L,g1,g2,g3⟩:=zyb h hw h1 j (by omega)
 try rw [zar]
 rw [hnf,g1,qaa];rcases g3 with ⟨b2,b3,b4⟩ | ⟨b2,l,a,b3,b4,b5⟩
 . rw [b3,zzB anyK b4 (by rw [b3]at g2;simp at g2;omega),qaa,b2]
   simp
 . rw [b3,zzA anyK (y:=itm (toHp h) a) (by show P.atE (toHp h) a≠0;omega) b4 (by rw [b3]at g2;simp at g2;omega),qaa]
   have hV:P.zaK (toHp h) j=[]:=by
    unfold P.zbp at b2;unfold P.zaK
    rw [if_pos h1]at b2 ⊢
    split at b2
    . omega
    . rename_i q;rw [if_neg q];split at b2
      . omega
      . rename_i q2;rw [if_neg q2];cases hq:P.zeE (toHp h) j with
        | none=>rfl
        | some l=>rw [hq]at b2;simp at b2
   rw [hV,b2];show some (([],P.atE (toHp h) a,()),())=_
   rw [b5]
end Go.VI
namespace Go.VI
open Go Go.Proofs
abbrev CnT:=Int×Int×Int×Int×Int×Unit
def cs(h:P.Hp)(c:CnT)(a:Int):CnT:=if (P.atH h a).k=0 then (c.1,c.2.1,W (c.2.2.1+1),W (c.2.2.2.1+((P.atH h a).n+1)),c.2.2.2.2.1,()) else (W (c.1+1),W (c.2.1+((P.atH h a).n+1)),c.2.2.1,c.2.2.2.1,c.2.2.2.2.1,())
abbrev CS:=Unit×Unit×CnT×Aw×CnT×Unit
def cf(y:Tden tsW)(x:CS):Option (CS⊕CS) :=
 bif y.2.1.2.1 != 0 then some (Sum.inr ((),(),(0,0,0,0,0,()),(y.2.1.2.1,()),(x.2.2.2.2.1.1,x.2.2.2.2.1.2.1,x.2.2.2.2.1.2.2.1,x.2.2.2.2.1.2.2.2.1,x.2.2.2.2.1.2.2.2.2.1,()),()))
 else (F_header_Size ((y.2.1.1.1,y.2.1.1.2.1,y.2.1.1.2.2.1,()),())).bind
  fun (r:Aa)=>(F_walk_isObject ((y.2.1.1.1,y.2.1.1.2.1,y.2.1.1.2.2.1,()),())).bind
  fun (r_1:A5)=>
  bif r_1.1.1 then some (Sum.inl ((),(),(x.2.2.1.1,x.2.2.1.2.1,x.2.2.1.2.2.1,x.2.2.1.2.2.2.1,x.2.2.1.2.2.2.2.1,()),(x.2.2.2.1.1,()),(W (x.2.2.2.2.1.1+1),W (x.2.2.2.2.1.2.1+r.1.1),x.2.2.2.2.1.2.2.1,x.2.2.2.2.1.2.2.2.1,x.2.2.2.2.1.2.2.2.2.1,()),()))
  else some (Sum.inl ((),(),(x.2.2.1.1,x.2.2.1.2.1,x.2.2.1.2.2.1,x.2.2.1.2.2.2.1,x.2.2.1.2.2.2.2.1,()),(x.2.2.2.1.1,()),(x.2.2.2.2.1.1,x.2.2.2.2.1.2.1,W (x.2.2.2.2.1.2.2.1+1),W (x.2.2.2.2.1.2.2.2.1+r.1.1),x.2.2.2.2.1.2.2.2.2.1,()),()))
end Go.VI
namespace Go.VI
open Go Go.Proofs
theorem zg8(l:List Int)(a:Int)(hl:l.length<=100000000):Tot (fun r=>decide (r.1.1 >= 0)=decide (a∈l)) (F_slices_Index_uint64 (l,a,())):=by
 rw [zcJ];dsimp only
 refine zad (P:=fun r=>match r with
  | .inl x=>0<=x.1.1/\a∈l
  | .inr _=>¬a∈l) (zai (fun x=>∃ k:Nat,x.1.2.1=(k:Int)/\k<=l.length/\¬a∈l.take k) (fun x=>((l.length:Int)-x.1.2.1).toNat) ⟨0,rfl,by omega,by simp⟩ ?_) ?_
 . rintro ⟨⟨(b:Int),(k':Int),_⟩,_⟩ ⟨k,e1,e2,e3⟩;dsimp only at e1 ⊢
   subst e1;refine zac (fun h4=>?_) fun h4=>zab ?_
   . simp only [qab]at h4;have hk:k<l.length:=by omega
     have w:W ((k:Int)+1)=((k+1:Nat):Int):=by rw [W_id (by omega)];omega
     rw [w,qac];refine zae (zaf.2 ⟨by omega,h4⟩) (zac (fun h5=>zab ?_) fun h5=>zab ?_)
     . simp only [qax]at h5;simp only [qak];exact ⟨by omega,by rw [h5];exact zaE hk⟩
     . simp only [qaO,ne_eq]at h5;simp only [qal];refine ⟨⟨k+1,rfl,by omega,?_⟩,by omega⟩
       rw [P.zbc (getD_some hk),qaq,qa0];rintro (c | c)
       . exact e3 c
       . exact h5 c
   . simp only [qag]at h4;simp only [qak];rwa [qa2 (by omega)]at e3
 . rintro r hr;refine zaQ (fun x hx=>?_) fun y hy=>zab ?_
   . subst hx;exact zab (by rw [qad hr.2];exact qad hr.1)
   . subst hy;exact (qaj hr).symm
theorem zs2(h:P.Hp):(P.zag h).length<=4096:=by
 unfold P.zag P.zci;exact qaB (qbN _ _) (P.zcP h)
end Go.VI
namespace Go.VI
open Go
theorem zmQ{n:Nat}(hl:n<=100000000):∀ b,b<=1000->zaA (0+n) b=true:=fun b hb=>zak.2 (by
 rw [qaG];calc n*b<=100000000*1000:=Nat.mul_le_mul hl hb
  _<=_:=by decide)
theorem zbR(l:List Int)(hl:l.length<=100000000):F_slices_Clone_uint64 (l,())=some ((l,()),()):=by
 unfold F_slices_Clone_uint64 zfv;show cond (zaA (0+l.length) _) _ _=_
 rw [zmQ hl _ (by decide)];rfl
theorem ziO(l:List Int)(hl:l.length<=100000000):F_slices_Clone_int (l,())=some ((l,()),()):=by
 unfold F_slices_Clone_int zfv;show cond (zaA (0+l.length) _) _ _=_
 rw [zmQ hl _ (by decide)];rfl
theorem zbX(l:List Int)(a:Int)(hl:l.length<=100000000):F_slices_Contains_uint64 (l,a,())=some ((decide (a∈l),()),()):=by
 rw [zef];dsimp only
 obtain ⟨r,h1,h2⟩:=zg8 l a hl;rw [h1,qaa,h2]
theorem zhD(l:List Int)(a:Int)(hl:l.length<=100000000):F_slices_Contains_int (l,a,())=some ((decide (a∈l),()),()):=by
 rw [zfG];dsimp only
 obtain ⟨r,h1,h2⟩:=zg8 l a hl;have:F_slices_Index_int=F_slices_Index_uint64:=by rw [zhg,zcJ]
 rw [this,h1,qaa,h2]
structure WkL (d:WkD):Prop where
 w:d.1.2.1.length<=100000000
 p:d.1.2.2.1.length<=100000000
 o:d.2.1.length<=100000000
 t:d.2.2.1.length<=100000000
 q:d.2.2.2.1.length<=100000000
theorem zdk(d:WkD)(h:WkL d):F_evacuate_owned (d,())=some ((d,()),()):=by
 obtain ⟨⟨c,ws,ps,sp,bu,_⟩,old,taken,queue,sc,rp,_⟩:=d;rw [zjD];dsimp only
 rw [zbR ws h.w,qaa,zcA ps h.p,qaa,zbR old h.o,qaa,ziO taken h.t,qaa,zbR queue h.q,qaa]
theorem znd(x:Nat)(hx:x<18446744073709551616):F_header_Target ((x:Int),())=some ((P.tgtV x,P.okT x,()),()):=by
 rw [zkY];dsimp only
 obtain ⟨⟨⟨(l:List Int),(e:Int),_⟩,_⟩,hr,h1,h2⟩:=ziV x hx [2,32] (by simp)
 dsimp only at h1 h2
 rw [hr,qaa];dsimp only
 have hfit:P.fitL 64 [2,32]=true:=rfl
 unfold P.unpV at h1;unfold P.unpE at h2;rw [if_pos hfit]at h1 h2;have hs:P.sumW [2,32]=34:=rfl
 rw [hs,qbO]at h1 h2;by_cases hx:x<17179869184
 . have h0:x / 2 ^ 34=0:=Nat.div_eq_of_lt hx
   rw [if_pos h0]at h1 h2;have hu:P.zkQ x [2,32]=[((x % 4:Nat):Int),((x / 4 % 4294967296:Nat):Int)]:=by
    simp only [P.zkQ];have e1:x &&& P.zfE 2=x % 4:=by
     unfold P.zfE;rw [show min ((2:Int).toNat) 64=2 from rfl,qck]
    have e2:(x >>> (2:Int).toNat) &&& P.zfE 32=x / 4 % 4294967296:=by
     unfold P.zfE;rw [show min ((32:Int).toNat) 64=32 from rfl,qck,show (2:Int).toNat=2 from rfl,qbO]
    rw [e1,e2]
   rw [hu]at h1;rw [h1,h2];simp only [qaF,qby];rw [zaf.2 (show (0:Int)<=0/\(0:Int)<((0+1+1:Nat):Int) by omega),zaf.2 (show (0:Int)<=1/\(1:Int)<((0+1+1:Nat):Int) by omega)]
   simp only [show Int.toNat 0=0 from rfl,show Int.toNat 1=1 from rfl,List.getD_cons_zero,List.getD_cons_succ]
   rw [show ((0:Int) != 0)=false from rfl,qaf]
   have hq:x / 4 % 4294967296=x / 4:=Nat.mod_eq_of_lt (by omega)
   by_cases h4:x % 4=2
   . have ho:P.okT x=true:=by unfold P.okT;simp [h4];omega
     rw [show (((x % 4:Nat):Int) != 2)=false from by rw [h4];rfl]
     unfold P.tgtV;rw [ho,if_pos rfl,hq];rfl
   . have ho:P.okT x=false:=by unfold P.okT;simp [h4]
     rw [show (((x % 4:Nat):Int) != 2)=true from qaC.2 (by omega)]
     unfold P.tgtV;rw [ho];rfl
 . have h0:¬x / 2 ^ 34=0:=by
    intro q;rw [Nat.div_eq_zero_iff]at q;omega
   rw [if_neg h0]at h1 h2;have ho:P.okT x=false:=by unfold P.okT;simp;omega
   rw [h1,h2];unfold P.tgtV;rw [ho];rfl
theorem zld(a:Int)(ha:0<=a/\a<18446744073709551616):F_header_Forward (a,())=some ((P.fwdV a,P.fwdE a,()),()):=by
 rw [zjC];dsimp only
 rw [zfj,qaa];have o:P.zf1 32=4294967295:=rfl
 dsimp only;rw [o];unfold P.fwdV P.fwdE;by_cases h:a<4294967296
 . rw [qaj (show ¬a > 4294967295 by omega),if_pos h,if_pos h]
   obtain ⟨n,rfl⟩:∃ n:Nat,a=n:=⟨a.toNat,by omega⟩
   obtain ⟨⟨⟨(v:Int),(e:Int),_⟩,_⟩,hr,h1,h2⟩:=zuc [(2,2),(32,n)] (by simp) (by
    intro f hf;simp only [qap,qb8,or_false]at hf;rcases hf with rfl | rfl <;> dsimp only <;> omega)
   have hr:F_bits_Pack ([(2,2,()),(32,(n:Int),())],())=some ((v,e,()),()):=hr
   have hok:P.okF [(2,2),(32,n)]=true:=by
    unfold P.okF;have o2:P.zf1 2=3:=rfl
    simp only [qb2,List.all_nil,o2,o,Bool.and_true,qae,qab];omega
   rw [P.zuM (by rfl) hok]at h1 h2
   dsimp only at h1 h2
   rw [hr,h1,h2];simp only [P.zkT];have e1:((0:Nat) <<< (32:Int).toNat ||| n)=n:=by simp
   have e2:(n <<< (2:Int).toNat ||| 2)=n*4+2:=by
    rw [show (2:Int).toNat=2 from rfl,<-Nat.shiftLeft_add_eq_or_of_lt (by omega),Nat.shiftLeft_eq]
   rw [e1,e2];refine congrArg (fun z:Int=>(some ((z,0,()),()):Option Ae)) ?_
   omega
 . rw [qad (show a > 4294967295 by omega),if_neg h,if_neg h];rfl
theorem zqq(ws:List Int)(a v:Int)(hl:ws.length<=100000000)(ha:0<=a/\a<18446744073709551616):F_arena_Store (ws,a,v,())=some ((P.zaC ws a [v],P.zdo ws a [v],()),()):=by
 rw [znU];dsimp only
 rw [zqp ws a [v] hl (by simp) ha,qaa]
theorem zsp(ws:List Int)(t f:Int)(n:Nat)(hl:ws.length<=100000000)(hn:n<=100000000)(ht:0<=t/\t<18446744073709551616)(hf:0<=f/\f<18446744073709551616):
 F_arena_Move (ws,t,f,(n:Int),())=some ((P.zdw ws t f n,P.zvS ws t f n,()),()):=by
 rw [zpH];dsimp only
 rw [zc8 ws t n hl hn ht,qaa];dsimp only;unfold P.zdw P.zvS;rw [if_neg (show ¬(n:Int)<0 by omega),if_neg (show ¬(n:Int)<0 by omega),qac]
 cases h1:P.okA ws.length t n
 . rfl
 rw [zc8 ws f n hl hn hf,qaa];dsimp only;cases h2:P.okA ws.length f n
 . rfl
 rw [zeY ws hl,qaa];have a1:=P.zav.1 h1;have a2:=P.zav.1 h2;simp only [if_true,and_self];obtain ⟨i,hi⟩:∃ i:Nat,t-4096=(i:Int):=⟨(t-4096).toNat,by omega⟩
 obtain ⟨j,hj⟩:∃ j:Nat,f-4096=(j:Int):=⟨(f-4096).toNat,by omega⟩
 rw [hi,hj,W_id (n:=(j:Int)+n) (by omega)]
 simp only [qac];rw [qad (show 0<=(i:Int)/\(i:Int)<=ws.length/\(ws.length:Int)<=ws.length by omega),qad (show 0<=(j:Int)/\(j:Int)<=(j:Int)+n/\(j:Int)+n<=ws.length by omega),show ((ws.length:Int)-(i:Int)).toNat=ws.length-i from by omega,show ((j:Int)+n-j).toNat=n from by omega]
 have hlen:((ws.drop j).take n).length=n:=by rw [qau,qaI];omega
 rw [qa2 (l:=(ws.drop j).take n) (by omega),show min ((ws.drop j).take n).length (ws.length-i)=((ws.drop j).take n).length from by omega]
 have:Go.splice ws i ((ws.drop j).take n)=ws.take i++((ws.drop j).take n++ws.drop (i+((ws.drop j).take n).length)):=rfl
 rw [this];rfl
end Go.VI
namespace Go.VI
open Go
theorem zbh(h:HpD)(hs:0<=h.2.2.2.1/\h.2.2.2.1<=1):F_evacuate_newSpace (h,())=some ((1-h.2.2.2.1,()),()):=by
 rw [zgP];dsimp only
 rw [W_id (by omega)]
theorem zcZ(h:HpD)(i:Int):F_evacuate_isPage (h,i,())=some ((decide (0<=i/\i<h.2.2.1.length),()),()):=by
 rw [zid];dsimp only
 by_cases h0:i >= 0
 . rw [qad h0];by_cases h1:i<(h.2.2.1.length:Int)
   . rw [qad h1,qad (show 0<=i/\i<(h.2.2.1.length:Int) from ⟨h0,h1⟩)];rfl
   . rw [qaj h1,qaj (show ¬(0<=i/\i<(h.2.2.1.length:Int)) from fun c=>h1 c.2)];rfl
 . rw [qaj h0,qaj (show ¬(0<=i/\i<(h.2.2.1.length:Int)) from fun c=>h0 c.1)];rfl
def SpOK(h:HpD):Prop:=(0<=h.2.2.2.1/\h.2.2.2.1<=1)/\∀ k,k<h.2.2.1.length->0<=(h.2.2.1.getD k PG0).2.1/\(h.2.2.1.getD k PG0).2.1<=1
theorem zdU(d:WkD)(i:Int)(hs:SpOK d.1)(hl:d.2.2.1.length<=100000000)(hp:d.1.2.2.1.length<=100000000):F_evacuate_Promoted (d,i,())=some ((P.zeC (toWk d) i,()),()):=by
 obtain ⟨⟨c,ws,ps,sp,bu,_⟩,old,taken,queue,sc,rp,_⟩:=d;rw [zgQ];dsimp only at hl hp ⊢
 rw [zcZ,qaa,zhD taken i hl,qaa,zbh _ hs.1,qaa];dsimp only;have hpg:(toWk ((c,ws,ps,sp,bu,()),old,taken,queue,sc,rp,())).h.pages=ps.map toPg:=rfl
 have hsp:(toWk ((c,ws,ps,sp,bu,()),old,taken,queue,sc,rp,())).h.space=sp:=rfl
 have htk:(toWk ((c,ws,ps,sp,bu,()),old,taken,queue,sc,rp,())).taken=taken:=rfl
 unfold P.zeC;rw [hpg,hsp,htk];by_cases h1:0<=i/\i<(ps.length:Int)
 case neg=>
  rw [qaj h1];cases hg:(ps.map toPg)[i.toNat]? with
  | none=>rfl
  | some g=>
   have hlt:=(qar.1 hg).1;rw [qai]at hlt;rw [qaj (show ¬0<=i by omega)];rfl
 rw [qad h1];obtain ⟨k,rfl⟩:=qaM h1.1;have hk:k<ps.length:=by omega
 rw [qac,zaH hk,zaf.2 ⟨by omega,h1.2⟩,qad (show (0:Int)<=(k:Int) by omega)]
 dsimp only;have hsk:=hs.2 k hk;have hs0:=hs.1;dsimp only at hsk hs0
 generalize ps.getD k PG0=g at hsk ⊢
 obtain ⟨g1,g2,g3,g4,_⟩:=g;dsimp only at hsk ⊢
 have e1:(toPg (g1,g2,g3,g4,())).kind=g1:=rfl
 have e2:(toPg (g1,g2,g3,g4,())).space=g2:=rfl
 rw [e1,e2];by_cases ht:(k:Int)∈taken
 . rw [qad ht];simp only [qbz,qah,qaf,Bool.and_false]
 . rw [qaj ht];by_cases hg1:g1=1
   . subst hg1;by_cases hq:g2=sp
     . rw [qad hq,show (g2 == 1-sp)=false from qaO.2 (by omega)];rfl
     . rw [qaj hq,show (g2 == 1-sp)=true from qax.2 (by omega)];rfl
   . rw [qaO.2 hg1,qaj hg1];rfl
theorem zgq(d:WkD)(a:Int)(hl:d.2.2.2.1.length<=100000000):Tot (fun r=>toWk r.1.1=P.zei (toWk d) a) (F_evacuate_keep (d,a,())):=by
 obtain ⟨⟨⟨pw,np,_⟩,ws,ps,sp,bu,_⟩,old,taken,queue,sc,⟨r0,r1,r2,r3,r4,r5,_⟩,_⟩:=d;rw [zk0];dsimp only at hl ⊢
 refine zae (zak.2 (by simp;omega)) (zab ?_)
 unfold P.zei;rw [zkI];rfl
theorem zhG(h:HpD)(j:Nat)(hs:0<=h.2.2.2.1/\h.2.2.2.1<=1)(hj:j<h.2.2.1.length)(hp:h.2.2.1.length<=100000):
 Tot (fun r=>∃ qs:List PgD,r.2.1=(h.1,h.2.1,qs,h.2.2.2)/\qs.map toPg=P.spc (h.2.2.1.map toPg) j (P.zea (h.2.2.1.map toPg) j) (1-h.2.2.2.1)) (F_evacuate_setSpace (h,(j:Int),())):=by
 obtain ⟨⟨pw,np,_⟩,ws,ps,sp,bu,_⟩:=h;dsimp only at hs hj hp ⊢
 rw [zgO];dsimp only
 have hlm:(ps.map toPg).length=ps.length:=qai ..
 rw [zbh _ hs,qaa];dsimp only;have hw1:W ((j:Int)+1)=((j+1:Nat):Int):=by rw [W_id (by omega)];omega
 rw [hw1,qac];refine zae (zaf.2 ⟨by omega,by omega⟩) ?_
 refine zad (P:=fun (r:As)=>r.2.2.1.map toPg=P.spc (ps.map toPg) j (P.zea (ps.map toPg) j) (1-sp)) (zai (fun x=>∃ k:Nat,x.1.1=(k:Int)/\j+1<=k/\k<=ps.length/\x.2.2.1.map toPg=P.spc (ps.map toPg) j k (1-sp)/\∀ t y,j<t->t<k->(ps.map toPg)[t]?=some y->y.kind=3) (fun x=>((ps.length:Int)-x.1.1).toNat) ⟨j+1,rfl,by omega,by omega,?_,fun t y t1 t2=>by omega⟩ ?_) ?_
 . have:=P.zlq (ps:=ps.map toPg) (i:=j) (k:=j) (sp:=1-sp) (qan _) (zaH hj)
   rw [P.zqO]at this;rw [<-this,qa6];rfl
 . rintro ⟨⟨(k':Int),_⟩,_,(qs:List PgD),_⟩ ⟨k,e1,e2,e3,e4,e5⟩;dsimp only at e1 e4 ⊢
   subst e1;have hql:qs.length=ps.length:=by
    have:=congrArg List.length e4
    rw [P.zsN,qai,qai]at this;exact this
   have hkd:k<ps.length->toPg (qs.getD k PG0)=toPg (ps.getD k PG0):=fun hk=>by
    have h8:=P.zjk (i:=j) (k:=k) (sp:=1-sp) (zaH hk)
    rw [<-e4,zaH (by omega),if_neg (by omega)]at h8
    exact Option.some.inj h8
   have w:W ((k:Int)+1)=((k+1:Nat):Int):=by rw [W_id (by omega)];omega
   rw [zcZ,qaa,zbh _ hs,qaa];dsimp only;rw [w,qac];by_cases hk:k<ps.length
   . have hin:inB (k:Int) qs.length=true:=zaf.2 ⟨by omega,by omega⟩
     rw [qad (show 0<=(k:Int)/\(k:Int)<(qs.length:Int) by omega),hin]
     simp only [qah];have hkk:=hkd hk;refine zac (fun h8=>zab ?_) fun h8=>zab ?_
     . simp only [qax]at h8;simp only [qal];refine ⟨⟨k+1,rfl,by omega,by omega,?_,fun t y t1 t2 hy=>?_⟩,by omega⟩
       . rw [<-P.zlq (by omega) (zaH hk),qa6,e4,<-hkk];rfl
       . by_cases ht:t=k
         . subst ht;rw [zaH hk]at hy;rw [<-Option.some.inj hy,<-hkk];exact h8
         . exact e5 t y t1 (by omega) hy
     . simp only [qaO,ne_eq]at h8;simp only [qak];rw [e4,P.zji e2 (by rw [hlm];exact e3) e5 (fun y hy=>?_)]
       rw [zaH hk]at hy;rw [<-Option.some.inj hy,<-hkk];exact h8
   . rw [qaj (show ¬(0<=(k:Int)/\(k:Int)<(qs.length:Int)) by omega)]
     simp only [qah,qaf];refine zab ?_;simp only [qak];rw [e4,P.zji e2 (by rw [hlm];exact e3) e5 (fun y hy=>?_)]
     have:=(qar.1 hy).1
     rw [hlm]at this;omega
 . rintro ⟨_,_,(qs:List PgD),_⟩ hqs;exact zab ⟨qs,rfl,hqs⟩
abbrev CpD:=WkD×Int×Int×Int×Unit
theorem zy5{taken:List Int}(h0:¬taken=[]):∃ l,taken.getLast?=some l/\taken.getD (taken.length-1) 0=l:=by
 rcases qcw taken with e | ⟨pre,t,e⟩
 . exact absurd e h0
 . rw [qcy]at e;subst e;refine ⟨t,by simp,?_⟩
   rw [qaE,qay,qbH (by simp)];simp
theorem zgp(c:CpD)(hl:c.1.2.2.1.length<=100000):F_evacuate_copying_last (c,())=some ((c.1.2.2.1.getLast?.getD (-1),()),c,()):=by
 obtain ⟨⟨hh,old,taken,queue,sc,rp,_⟩,n,fr,to,_⟩:=c;dsimp only at hl ⊢
 rw [zeM];dsimp only
 by_cases h0:taken=[]
 . subst h0;rfl
 . obtain ⟨l,h1,h2⟩:=zy5 h0;have hpos:0<taken.length:=List.length_pos_iff.2 h0;rw [show ((taken.length:Int) == 0)=false from qaO.2 (by omega),qaf,W_id (by omega),zaf.2 ⟨by omega,by omega⟩,h1]
   rw [show ((taken.length:Int)-1).toNat=taken.length-1 by omega,h2];rfl
end Go.VI
namespace Go.VI
open Go
theorem znh(c:CpD)(hx:P.PlOK (toWk c.1))(hn:0<=c.2.1/\c.2.1<=100000):F_evacuate_copying_fits (c,())=some ((P.zcI (toWk c.1) c.2.1,()),c,()):=by
 have htk:c.1.2.2.1.length<=1000:=hx.tk
 obtain ⟨⟨⟨⟨pw,np,_⟩,ws,ps,sp,bu,_⟩,old,taken,queue,sc,rp,_⟩,n,fr,to,_⟩:=c;have hlast:∀ l,taken.getLast?=some l->∃ k:Nat,l=k/\∃ g,(ps.map toPg)[k]?=some g/\0<=g.used/\g.used<=pw:=hx.last
 have hpw:16<=pw/\pw<=64:=⟨hx.pw0,hx.pw1⟩
 dsimp only at hn htk
 rw [zeN];dsimp only
 rw [zgp _ (qaB htk (by decide)),qaa]
 dsimp only;rw [zcZ,qaa];dsimp only;have hre:P.zcI (toWk (((pw,np,()),ws,ps,sp,bu,()),old,taken,queue,sc,rp,())) n=(match taken.getLast? with | some l=>decide (((ps.map toPg).getD l.toNat P.Pg.zero).used+n<=pw) | none=>false):=rfl
 rw [hre];cases hl:taken.getLast? with
 | none=>
  rw [qaj (show ¬(0<=(none:Option Int).getD (-1)/\_) from fun c=>absurd c.1 (by decide))];rfl
 | some l=>
  obtain ⟨k,rfl,g,hg,g0,g1⟩:=hlast l hl;have hk:=(qar.1 hg).1;rw [qai]at hk;rw [zaH hk]at hg;have hg:=Option.some.inj hg;simp only [qcd];rw [qad (show 0<=(k:Int)/\(k:Int)<(ps.length:Int) by omega),zaf.2 ⟨by omega,by omega⟩]
  simp only [qah,qac];have hu:((ps.map toPg).getD k P.Pg.zero).used=(ps.getD k PG0).2.2.1:=by rw [zaB];rfl
  have hu2:(ps.getD k PG0).2.2.1=g.used:=by rw [<-hg];rfl
  have hw:∀ z w:Int,z=w->(some ((decide (z<=pw),()),((((pw,np,()),ws,ps,sp,bu,()),old,taken,queue,sc,rp,()),n,fr,to,()),()):Option _)=some ((decide (w<=pw),()),((((pw,np,()),ws,ps,sp,bu,()),old,taken,queue,sc,rp,()),n,fr,to,()),()):=fun z w q=>by rw [q]
  exact hw _ _ (by rw [hu,W_id (by omega)])
theorem zqm(ps:List PgD)(f sp:Int)(hp:ps.length<=100000)(hs:0<=sp/\sp<=1)(hf:f=P.zau (ps.map toPg) 1)(hf2:f = -1\/(1:Int)<=1/\zdr ps f 1):
 Tot (fun r=>(f<0->r.1.2.1=2)/\(0<=f->r.1.2.1=0/\r.1.1.map toPg=P.zb2 (ps.map toPg) f sp)) (F_page_Small (ps,f,sp,())):=by
 have hspb:P.zb4 sp=true:=qad (by omega)
 rw [zpA];dsimp only
 rw [zc6,qaa,hspb];simp only [qaf,qbz];by_cases hneg:f<0
 . rw [zkq];dsimp only
   rw [zaU,qaa,qaj (show ¬(0<=f/\_) from fun c=>by omega)]
   exact zab ⟨fun _=>rfl,fun c=>by omega⟩
 . obtain ⟨-,hfree⟩:=hf2.resolve_left (by omega)
   obtain ⟨K,rfl⟩:=qaM (show 0<=f by omega)
   have e2:K<ps.length:=by
    have h8:=hfree.2.2.1;omega
   refine zad (zub ps K 1 1 sp 0 0 (by omega) (by omega) hfree) fun r hr=>zab ⟨fun c=>by omega,fun _=>⟨hr.1,?_⟩⟩
   have e:ps=ps.take K++ps[K]'e2::ps.drop (K+1):=by rw [<-qaT,qcg]
   have e':=congrArg (fun l=>l.set K ((1,sp,0,0,()):PgD)) e
   rw [zsQ (by rw [qau];omega)]at e'
   have h1:r.1.1=ps.set K (1,sp,0,0,()):=by rw [hr.2,e'];simp
   obtain ⟨s1,s2,s3⟩:=P.zhV (ps:=ps.map toPg) (sp:=sp) hs.1 hs.2 (by rw [<-hf];omega)
   rw [h1,qa6,hf,s2,<-hf,qac];rfl
theorem znf(c:CpD)(hx:P.PlOK (toWk c.1)):
 Tot (fun r=>(P.zau (c.1.1.2.2.1.map toPg) 1<0->r.1.1=3)/\(0<=P.zau (c.1.1.2.2.1.map toPg) 1->r.1.1=0/\∃ qs:List PgD,r.2.1=(((c.1.1.1,c.1.1.2.1,qs,c.1.1.2.2.2),c.1.2.1,c.1.2.2.1++[P.zau (c.1.1.2.2.1.map toPg) 1],c.1.2.2.2),c.2)/\qs.map toPg=P.zb2 (c.1.1.2.2.1.map toPg) (P.zau (c.1.1.2.2.1.map toPg) 1) (1-c.1.1.2.2.2.1))) (F_evacuate_copying_take (c,())):=by
 obtain ⟨⟨⟨⟨pw,np,_⟩,ws,ps,sp,bu,_⟩,old,taken,queue,sc,rp,_⟩,n,fr,to,_⟩:=c;have hs:0<=sp/\sp<=1:=⟨hx.sp0,hx.sp1⟩
 have htk:taken.length<=1000:=hx.tk
 have hpl:ps.length<=64:=by have:=hx.np1;have e:(ps.map toPg).length=ps.length:=qai ..;rw [<-e];exact this
 rw [zeK];dsimp only
 refine zad (zlK (zsi ps 1 (by omega)) (zsl ps 1 (by omega))) ?_
 rintro ⟨⟨(f:Int),_⟩,_⟩ ⟨hf,hf2⟩;have hf:f=P.zau (ps.map toPg) 1:=hf
 have hf2:f = -1\/(1:Int)<=1/\zdr ps f 1:=hf2
 dsimp only;rw [zbh _ hs,qaa,<-hf];dsimp only;refine zad (zqm ps f (1-sp) (by omega) (by omega) hf hf2) ?_
 rintro ⟨⟨(qs:List PgD),(e:Int),_⟩,_⟩ ⟨q1,q2⟩;dsimp only at q1 q2 ⊢
 by_cases hneg:f<0
 . rw [q1 hneg];exact zab ⟨fun _=>rfl,fun c=>by omega⟩
 . obtain ⟨q3,q4⟩:=q2 (by omega)
   rw [q3];exact zac (fun c=>by simp at c) fun _=>zae (zak.2 (by simp;omega)) (zab ⟨fun c=>by omega,fun _=>⟨rfl,qs,rfl,q4⟩⟩)
end Go.VI
namespace Go.VI
open Go
theorem zkJ(pw np:Int)(ws:List Int)(ps:List PgD)(z:Ah)(old taken:List Int)(w:List Int×Int×(Int×Int×Int×Int×Int×Int×Unit)×Unit)(n fr to:Int)(hcf:confB pw np=true)(hpn:(ps.length:Int)=np)(htl:taken.length<=100000)(j:Nat)(hT:taken.getLast?=some (j:Int))(hj:j<ps.length)(hu:0<=(ps.getD j PG0).2.2.1/\(ps.getD j PG0).2.2.1+n<=pw)(hn:1<=n):
 ((F_evacuate_copying_last (((((pw,np,()),ws,ps,z),old,taken,w),n,fr,to,()),())).bind fun (r:Aw×CpD×Unit)=>
  bif inB r.1.1 r.2.1.1.1.2.2.1.length then (F_page_Address (r.2.1.1.1.1,r.1.1,(r.2.1.1.1.2.2.1.getD r.1.1.toNat PG0).2.2.1,())).bind
   fun (r_1:Ae)=>
   bif r_1.1.2.1 != 0 then some (r_1.1.2,r.2)
   else bif inB r.1.1 r.2.1.1.1.2.2.1.length then
   bif inB r.1.1 r.2.1.1.1.2.2.1.length then some ((0,()),(((r.2.1.1.1.1,r.2.1.1.1.2.1,r.2.1.1.1.2.2.1.set r.1.1.toNat ((r.2.1.1.1.2.2.1.getD r.1.1.toNat PG0).1,(r.2.1.1.1.2.2.1.getD r.1.1.toNat PG0).2.1,W ((r.2.1.1.1.2.2.1.getD r.1.1.toNat PG0).2.2.1+r.2.1.2.1),(r.2.1.1.1.2.2.1.getD r.1.1.toNat PG0).2.2.2.1,()),r.2.1.1.1.2.2.2),r.2.1.1.2),r.2.1.2.1,r.2.1.2.2.1,r_1.1.1,()),())
   else none
   else none
  else none)=some ((0,()),((((pw,np,()),ws,ps.set j ((ps.getD j PG0).1,(ps.getD j PG0).2.1,(ps.getD j PG0).2.2.1+n,(ps.getD j PG0).2.2.2.1,()),z),old,taken,w),n,fr,4096+(j:Int)*pw+(ps.getD j PG0).2.2.1,()),()):=by
 have c3:=zaT.1 hcf;rw [zgp _ htl,qaa];dsimp only;rw [hT];simp only [qcd];rw [zaf.2 ⟨by omega,by omega⟩]
 simp only [qah,qac];rw [zel pw np j _ hcf (by omega),qaa]
 dsimp only;rw [W_id (by omega)];rfl
theorem zle(c:CpD)(hx:P.PlOK (toWk c.1))(hcf:confB c.1.1.1.1 c.1.1.1.2.1=true)(hpn:(c.1.1.2.2.1.length:Int)=c.1.1.1.2.1)(hn:1<=c.2.1/\c.2.1<=c.1.1.1.1):
 Tot (fun r=>(P.plB (toWk c.1) c.2.1=false->r.1.1=3)/\(P.plB (toWk c.1) c.2.1=true->r.1.1=0/\toWk r.2.1.1=P.plW (toWk c.1) c.2.1/\r.2.1.2=(c.2.1,c.2.2.1,P.plA (toWk c.1) c.2.1,()))) (F_evacuate_copying_place (c,())):=by
 have htk:c.1.2.2.1.length<=1000:=hx.tk
 have hps:=fun hb=>P.zeD (n:=c.2.1) hx hb
 have c3:=zaT.1 hcf;have hfit:=znh c hx (by omega)
 have htake:=znf c hx;obtain ⟨⟨⟨⟨pw,np,_⟩,ws,ps,sp,bu,_⟩,old,taken,queue,sc,rp,_⟩,n,fr,to,_⟩:=c;dsimp only at *
 have hlm:(ps.map toPg).length=ps.length:=qai ..
 generalize hX:toWk (((pw,np,()),ws,ps,sp,bu,()),old,taken,queue,sc,rp,())=X at *
 have Xp:X.h.pages=ps.map toPg:=by rw [<-hX];rfl
 have Xt:X.taken=taken:=by rw [<-hX];rfl
 have Xpw:X.h.pw=pw:=by rw [<-hX];rfl
 have Xs:X.h.space=sp:=by rw [<-hX];rfl
 rw [zeg];dsimp only
 rw [hfit,qaa];dsimp only;cases hc:P.zcI X n
 ·
  simp only [Bool.not_false,qah];refine zad htake ?_;rintro ⟨⟨(e:Int),_⟩,(c':CpD),_⟩ ⟨q1,q2⟩;dsimp only at q1 q2 ⊢
  by_cases hneg:P.zau (ps.map toPg) 1<0
  . rw [q1 hneg];refine zab ⟨fun _=>rfl,fun h=>?_⟩
    unfold P.plB at h;rw [hc,Xp,qaj (by omega)]at h;cases h
  . obtain ⟨q3,qs,q4,q5⟩:=q2 (by omega)
    subst q4;subst q3
    have hb:P.plB X n=true:=by unfold P.plB;rw [Xp,qad (by omega),Bool.or_true]
    obtain ⟨j,y,a1,a2,a3,a4,a5,a6,a7⟩:=hps hb;obtain ⟨r1,r2,r3,r4,-⟩:=a7.resolve_left (fun h=>by rw [hc]at h;cases h.1)
    have eP:P.plPs X n=qs.map toPg:=by unfold P.plPs;rw [if_neg (by rw [hc];decide),Xp,Xs,q5]
    rw [eP]at a3 a4;rw [Xp]at r2 a2 a3;rw [qai]at a3;have hjq:j<qs.length:=by omega
    rw [zaH hjq]at a4;have a4:=Option.some.inj a4;have hu:(qs.getD j PG0).2.2.1=0:=by
     have:(toPg (qs.getD j PG0)).used=0:=by rw [a4,r4]
     exact this
    simp only [show ((0:Int) != 0)=false from rfl,qaf]
    rw [r2];have:=zkJ pw np ws qs (sp,bu,()) old (taken++[(j:Int)]) (queue,sc,rp,()) n fr to hcf (by omega) (by simp;omega) j (by simp) hjq (by omega) hn.1
    rw [this];refine zab ⟨fun h=>absurd (h.symm.trans hb) (by decide),fun _=>⟨rfl,?_,?_⟩⟩
    . unfold P.plW;rw [a1,eP,qac];unfold P.zgK P.plT;rw [if_neg (by rw [hc];decide),zaB,Xp,Xt,r2,<-hX]
      unfold toWk toHp;dsimp only;rw [qa6];rfl
    . unfold P.plA;rw [a1,eP,qac,zaB,Xpw];rfl
 ·
  simp only [qbz,qaf];have hb:P.plB X n=true:=by unfold P.plB;rw [hc];rfl
  obtain ⟨j,y,a1,a2,a3,a4,a5,a6,a7⟩:=hps hb;obtain ⟨r1,r2,r3,r4⟩:=a7.resolve_right (fun h=>by rw [hc]at h;cases h.1)
  rw [r2,Xp]at a4;rw [Xp,hlm]at a2;rw [zaH a2]at a4;have a4:=Option.some.inj a4;have hu:(ps.getD j PG0).2.2.1=y.used:=by rw [<-a4];rfl
  rw [Xt]at r3;rw [Xpw]at r4;rw [zkJ pw np ws ps (sp,bu,()) old taken (queue,sc,rp,()) n fr to hcf hpn (by omega) j r3 a2 (by omega) hn.1]
  refine zab ⟨fun h=>absurd (h.symm.trans hb) (by decide),fun _=>⟨rfl,?_,?_⟩⟩
  . unfold P.plW;rw [a1,r2,Xp,qac];unfold P.zgK P.plT;rw [if_pos hc,zaB,<-hX];unfold toWk toHp;dsimp only;rw [qa6];rfl
  . unfold P.plA;rw [a1,r2,Xp,qac,zaB,Xpw];rfl
end Go.VI
namespace Go.VI
open Go
structure SeeOK (X:P.Wk) (a:Int):Prop where
 c0:¬(a=0\/a∈X.queue)
 c1:¬¬a∈X.old
 c2:¬P.okT (P.evWd X a).toNat=true
 of0:P.ofE X.h.pw X.h.np a=0
 il:P.evI X a<(X.h.pages.length:Int)
 n0:P.zgf X a=false->1<=P.evN X a/\P.evN X a<=X.h.pw
 cp:P.zgf X a=false->P.plB X (P.evN X a)=true->(0<=P.plA X (P.evN X a)/\P.plA X (P.evN X a)<4294967296)/\P.okA X.h.words.length (P.plA X (P.evN X a)) (P.evN X a).toNat=true/\P.okA X.h.words.length a (P.evN X a).toNat=true
theorem zng(w:WkD)(n:Nat)(fr to:Int)(hl:w.1.2.1.length<=100000)(hn:1<=n/\n<=100000)(ht:0<=to/\to<4294967296)(hf:0<=fr/\fr<18446744073709551616)(ka:P.okA w.1.2.1.length to n=true)(kb:P.okA w.1.2.1.length fr n=true):
 F_evacuate_copying_move ((w,(n:Int),fr,to,()),())=some ((0,()),(((w.1.1,P.zaC (P.zdw w.1.2.1 to fr n) fr [P.fwdV to],w.1.2.2),w.2),(n:Int),fr,to,()),()):=by
 rw [zeL];dsimp only
 rw [zsp w.1.2.1 to fr n (by omega) (by omega) (by omega) hf,qaa]
 have hm:P.zvS w.1.2.1 to fr n=0:=by
  unfold P.zvS;rw [if_neg (by omega),qac,if_pos ⟨ka,kb⟩]
 have hlen:(P.zdw w.1.2.1 to fr n).length=w.1.2.1.length:=P.zlv (by omega) (by rw [qac];exact ka) (by rw [qac];exact kb)
 dsimp only;rw [hm,zld to (by omega),qaa]
 have he:P.fwdE to=0:=by unfold P.fwdE;rw [if_pos ht.2]
 dsimp only;rw [he,zqq _ fr _ (by omega) hf,qaa]
 have hs:P.zdo (P.zdw w.1.2.1 to fr n) fr [P.fwdV to]=0:=by
  unfold P.zdo;have:=P.zav.1 kb
  rw [hlen,if_pos (P.zav.2 (by simp only [qbL];omega))]
 dsimp only;rw [hs];rfl
theorem zqo(w:WkD)(a:Int)(hx:P.FwOK (toWk w))(hcf:confB w.1.1.1 w.1.1.2.1=true)(hpn:(w.1.2.2.1.length:Int)=w.1.1.2.1)(ha:0<=a/\a<18446744073709551616)(hS:SeeOK (toWk w) a)(hbig:P.zgf (toWk w) a=false):
 Tot (fun r=>(P.plB (toWk w) (P.evN (toWk w) a)=false->r.1.1=3)/\(P.plB (toWk w) (P.evN (toWk w) a)=true->r.1.1=0/\toWk r.2.1.1=P.zbq (toWk w) a/\r.2.1.2.2.2.1=P.plA (toWk w) (P.evN (toWk w) a))) (F_evacuate_copying_do ((w,P.evN (toWk w) a,a,0,()),())):=by
 have n0:=hS.n0 hbig;have cp:=hS.cp hbig;have hwl:=hx.wl;have hql:=hx.ql;have hpl:=zle (w,P.evN (toWk w) a,a,0,()) hx.pl hcf hpn n0;rw [zfH];dsimp only
 refine zad hpl ?_;rintro ⟨⟨(e:Int),_⟩,⟨(w':WkD),(rest:A7)⟩,_⟩ ⟨q1,q2⟩;dsimp only at q1 q2 ⊢
 cases hb:P.plB (toWk w) (P.evN (toWk w) a)
 . rw [q1 hb];exact zab ⟨fun _=>rfl,fun h=>absurd h (by decide)⟩
 . obtain ⟨rfl,q3,rfl⟩:=q2 hb;obtain ⟨t1,ka,kb⟩:=cp hb;obtain ⟨n,hn⟩:∃ n:Nat,P.evN (toWk w) a=n:=⟨(P.evN (toWk w) a).toNat,by omega⟩
   have hpw:(toWk w).h.pw<=64:=hx.pl.pw1
   simp only [show ((0:Int) != 0)=false from rfl,qaf]
   have hw':w'.1.2.1=(toWk w).h.words:=by
    have:(toWk w').h.words=(P.plW (toWk w) (P.evN (toWk w) a)).h.words:=by rw [q3]
    exact this
   have hq':w'.2.2.2.1=(toWk w).queue:=by
    have:(toWk w').queue=(P.plW (toWk w) (P.evN (toWk w) a)).queue:=by rw [q3]
    exact this
   have hr':w'.2.2.2.2.2.1.1=(toWk w).r0:=by
    have:(toWk w').r0=(P.plW (toWk w) (P.evN (toWk w) a)).r0:=by rw [q3]
    exact this
   rw [hn]at ka kb n0 t1 ⊢
   rw [qac]at ka kb;rw [zng w' n a (P.plA (toWk w) n) (by rw [hw'];exact hwl) (by omega) t1 ha (by rw [hw'];exact ka) (by rw [hw'];exact kb),qaa]
   simp only [show ((0:Int) != 0)=false from rfl,qaf]
   refine zae (zak.2 (by rw [hq'];simp;omega)) (zab ⟨fun h=>absurd h (by decide),fun _=>⟨rfl,?_,rfl⟩⟩)
   unfold P.zbq P.zkB;rw [<-q3,hn,<-hw',<-hq',<-hr',<-zkI];rfl
end Go.VI
namespace Go.VI
open Go
theorem zn6(w:WkD)(a:Int)(hx:P.FwOK (toWk w))(hcf:confB w.1.1.1 w.1.1.2.1=true)(hpn:(w.1.2.2.1.length:Int)=w.1.1.2.1)(hsp:SpOK w.1)(ha:0<=a/\a<18446744073709551616)(hS:SeeOK (toWk w) a):
 Tot (fun r=>r.1.2.2.1=P.evE (toWk w) a/\r.1.2.1=P.evA (toWk w) a/\toWk r.1.1=P.evW (toWk w) a) (F_evacuate_see (w,a,P.evN (toWk w) a,())):=by
 have hdo:=zqo w a hx hcf hpn ha hS;have htk:w.2.2.1.length<=1000:=hx.pl.tk
 have hql:w.2.2.2.1.length<=1000000:=hx.ql
 have hlm:(w.1.2.2.1.map toPg).length=w.1.2.2.1.length:=qai ..
 have hpl:w.1.2.2.1.length<=64:=by rw [<-hlm];exact hx.pl.np1
 have Xp:(toWk w).h.pages=w.1.2.2.1.map toPg:=rfl
 have hI:P.ofI w.1.1.1 w.1.1.2.1 a=P.evI (toWk w) a:=rfl
 have fin:∀ (e b:Int) (g:WkD) (c:Nat),P.evC (toWk w) a=c->e=(match c with | 1=>19 | 3=>19 | 6=>3 | _=>0)->b=(match c with | 0=>a | 2=>P.tgtV (P.evWd (toWk w) a).toNat | 4=>a | 5=>a | 7=>P.plA (toWk w) (P.evN (toWk w) a) | _=>0)->toWk g=(match c with | 0=>toWk w | 2=>toWk w | 4=>P.zei (toWk w) a | 5=>P.zei (P.zcK (toWk w) (P.evI (toWk w) a).toNat) a | 7=>P.zbq (toWk w) a | _=>P.Wk.zero) ->
  Tot (fun r:(WkD×Int×Int×Unit)×Unit=>r.1.2.2.1=P.evE (toWk w) a/\r.1.2.1=P.evA (toWk w) a/\toWk r.1.1=P.evW (toWk w) a) (some ((g,b,e,()),())):=fun e b g c hc h1 h2 h3=>by
  refine zab ?_;unfold P.evE P.evA P.evW;rw [hc];exact ⟨h1,h2,h3⟩
 have c3:¬(¬P.ofE (toWk w).h.pw (toWk w).h.np a=0\/((toWk w).h.pages.length:Int)<=P.evI (toWk w) a):=by
  have h1:=hS.of0;have h2:=hS.il;omega
 have hi0:0<=P.evI (toWk w) a:=by
  obtain ⟨_,q,_⟩:=P.zuQ (pw:=(toWk w).h.pw) (np:=(toWk w).h.np) (a:=a) hS.of0
  unfold P.evI;omega
 rw [zmn];dsimp only
 have hcd:(w.1.1:Ah)=(w.1.1.1,w.1.1.2.1,()):=rfl
 rw [hcd,ziT _ _ a ha,qaa];dsimp only;rw [hI,zdU w _ hsp (by omega) (by omega),qaa]
 dsimp only;cases hpr:P.zeC (toWk w) (P.evI (toWk w) a)
 case true=>
  simp only [qah];refine zad (zgq w a (by omega)) ?_
  rintro ⟨⟨(g:WkD),_⟩,_⟩ hg;refine fin _ _ g 4 ?_ rfl rfl hg;unfold P.evC;rw [if_neg hS.c0,if_neg hS.c1,if_neg hS.c2,if_neg c3,hpr,if_pos rfl]
 simp only [qaf];have c4:¬P.zeC (toWk w) (P.evI (toWk w) a)=true:=by rw [hpr];decide
 have hil:=hS.il;rw [Xp,hlm]at hil;obtain ⟨j,hj⟩:=qaM hi0;have hjl:j<w.1.2.2.1.length:=by omega
 have hBig:P.zgf (toWk w) a=((w.1.2.2.1.getD j PG0).1 == 2):=by
  unfold P.zgf;rw [hj,qac,qa9,qab,qax,Xp,zaB];exact Iff.rfl
 rw [hj,qac,zaf.2 ⟨by omega,by omega⟩,qah,<-hBig]
 cases hb:P.zgf (toWk w) a
 . simp only [qaf];refine zad (hdo hb) ?_;rintro ⟨⟨(e:Int),_⟩,⟨(g:WkD),(n1:Int),(n2:Int),(n3:Int),_⟩,_⟩ ⟨q1,q2⟩;dsimp only at q1 q2 ⊢
   cases hp:P.plB (toWk w) (P.evN (toWk w) a)
   . rw [q1 hp];refine fin _ _ _ 6 ?_ rfl rfl zfM;unfold P.evC;rw [if_neg hS.c0,if_neg hS.c1,if_neg hS.c2,if_neg c3,if_neg c4,hb,if_neg (by decide),hp,if_neg (by decide)]
   . obtain ⟨rfl,q3,rfl⟩:=q2 hp;refine fin _ _ _ 7 ?_ rfl rfl q3;unfold P.evC;rw [if_neg hS.c0,if_neg hS.c1,if_neg hS.c2,if_neg c3,if_neg c4,hb,if_neg (by decide),hp,if_pos rfl]
 . simp only [qah];refine zad (zhG w.1 j ⟨hx.pl.sp0,hx.pl.sp1⟩ hjl (by omega)) ?_
   rintro ⟨_,(h':HpD),_⟩ ⟨qs,rfl,q1⟩;refine zad (zgq _ a (by show w.2.2.2.1.length<=_;omega)) ?_
   rintro ⟨⟨(g:WkD),_⟩,_⟩ hg;refine fin _ _ g 5 ?_ rfl rfl ?_
   . unfold P.evC;rw [if_neg hS.c0,if_neg hS.c1,if_neg hS.c2,if_neg c3,if_neg c4,hb,if_pos rfl]
   . have hg:toWk g=_:=hg
     rw [hg];dsimp only;rw [hj,qac];unfold P.zcK;rw [Xp];have hs:(toWk w).h.space=w.1.2.2.2.1:=rfl
     rw [hs,<-q1];rfl
theorem zeX(h:HpD)(a:Int)(hl:h.2.1.length<=100000000)(hwb:WBo h.2.1)(ha:0<=a/\a<18446744073709551616)(he:P.zgS h.2.1 a=0):F_evacuate_copied (h,a,())=some ((P.tgtV (P.zaq h.2.1 a).toNat,P.okT (P.zaq h.2.1 a).toNat,()),()):=by
 rw [zie];dsimp only
 rw [zkK h.2.1 a hl ha,qaa];dsimp only;rw [he];obtain ⟨y,hy,hy2⟩:=P.zeQ hwb a;rw [hy];simp only [show ((0:Int) != 0)=false from rfl,qaf,qac]
 rw [znd y hy2,qaa]
end Go.VI
namespace Go.VI.P
open Go
theorem zgE{h:Hp}{x:Wk}{os:List Int}{D:Nat->Int->Prop}(C:CI h x os D){k:Nat}{g0:Pg}(hg:h.pages[k]?=some g0):
 ((k:Int)∈x.taken/\g0.kind=0/\∃ u,x.h.pages[k]?=some ⟨1,1-h.space,u,0⟩/\0<=u/\u<=h.pw) \/
 (¬(k:Int)∈x.taken/\∃ s,x.h.pages[k]?=some ⟨g0.kind,s,g0.used,g0.pins⟩/\(g0.kind=0->s=g0.space)/\(g0.kind≠0->s=h.space\/s=1-h.space) /\
  (g0.kind=2->s=if bs h k∈x.queue then 1-h.space else h.space)/\(g0.kind=3->s=if bs h (zbJ h.pages k)∈x.queue then 1-h.space else h.space)):=by
 by_cases ht:(k:Int)∈x.taken
 . obtain ⟨k1,g1,g,e0,e1,e2,e3,e4,e5,e6⟩:=C.inv.tk _ ht;obtain rfl:k=k1:=by omega
   rw [hg]at e1;injection e1 with e1;subst e1
   obtain ⟨u,l,f1,-⟩:=C.tile k ht;rw [f1]at e3;injection e3 with e3;subst e3
   exact .inl ⟨ht,e2,u,f1,e5,e6⟩
 . obtain ⟨s,e1,e2,e3,e4,e5⟩:=C.ppg k g0 hg ht;refine .inr ⟨ht,s,e1,e2,fun h0=>?_,e4,e5⟩
   have hm:=zbO _ _ _ _ (zam C.inv.ok).2.2.2.2.2.2 g0 (qba hg);rcases hm.2.2.2.2.2.2.2.2 with c | c | c | c
   . exact absurd c h0
   . rw [e3 c];split
     . exact .inr rfl
     . exact .inl rfl
   . rw [e4 c];split
     . exact .inr rfl
     . exact .inl rfl
   . rw [e5 c];split
     . exact .inr rfl
     . exact .inl rfl
theorem zzy{h:Hp}{x:Wk}{os:List Int}{D:Nat->Int->Prop}(C:CI h x os D)(hbu:x.h.bump=h.bump):okH x.h=true:=by
 have I:=C.inv;have hcf:=I.conf;obtain ⟨p1,p2,p3,p4,p5,p6⟩:=zaN (h:=h) (by unfold okP;rw [zeB];exact I.ok)
 have p7:=(zam I.ok).2.2.2.2.2.2;have p8:=zam I.ok;have hsp:zb4 (1-h.space)=true:=zd1.2 (by omega)
 have hs:∀ s,s=h.space\/s=1-h.space->zb4 s=true:=fun s c=>by
  rcases c with rfl | rfl
  . exact p4
  . exact hsp
 have hcase:∀ (k:Nat) (y:Pg),x.h.pages[k]?=some y->∃ g0,h.pages[k]?=some g0:=fun k y hy=>by
  have:=(qar.1 hy).1
  rw [I.pl]at this;exact ⟨h.pages[k],qas this⟩
 have hno2:∀ (k:Nat) (g0:Pg),h.pages[k]?=some g0->¬g0.kind=2->¬(x.h.pages.getD k Pg.zero).kind=2:=fun k g0 hg hk=>by
  rcases zgE C hg with ⟨-,-,u,e,-⟩ | ⟨-,s,e,-⟩
  . rw [zao e];show ¬(1:Int)=2;decide
  . rw [zao e];exact hk
 have hT:zbs x.h.pw x.h.np x.h.pages=true:=by
  rw [I.pw,I.np,za5];intro k y hy;obtain ⟨g0,hg⟩:=hcase k y hy;have hm:=zbO _ _ _ _ p7 g0 (qba hg);have hpo:=za5.1 p6 k g0 hg;rcases zgE C hg with ⟨-,-,u,e,u0,u1⟩ | ⟨hnt,s,e,s0,s1,s2,s3⟩
  . rw [e]at hy;injection hy with hy;subst hy
    unfold zbo;rw [if_neg (by show ¬(1:Int)=0;decide),if_pos (by show (1:Int)=1;rfl)]
    unfold zdg;dsimp only;rw [hsp,qad (show 0<=u/\u<=h.pw from ⟨u0,u1⟩)];decide
  . rw [e]at hy;injection hy with hy;subst hy
    rcases hm.2.2.2.2.2.2.2.2 with c | c | c | c
    . rw [s0 c];unfold zbo at hpo ⊢
      rw [if_pos c]at hpo ⊢
      exact hpo
    . unfold zbo at hpo ⊢
      rw [if_neg (by omega),if_pos c]at hpo
      rw [if_neg (by show ¬g0.kind=0;omega),if_pos (by show g0.kind=1;omega)]
      unfold zdg at hpo ⊢
      simp only [qae]at hpo ⊢;exact ⟨⟨hs s (s1 (by omega)),hpo.1.2⟩,hpo.2⟩
    . unfold zbo at hpo ⊢
      rw [if_neg (by omega),if_neg (by omega),if_pos c]at hpo
      rw [if_neg (by show ¬g0.kind=0;omega),if_neg (by show ¬g0.kind=1;omega),if_pos (by show g0.kind=2;omega)]
      unfold zcv at hpo ⊢
      simp only [qae]at hpo ⊢;obtain ⟨⟨⟨⟨o1,o2⟩,o3⟩,o4⟩,o5⟩:=hpo;refine ⟨⟨⟨⟨hs s (s1 (by omega)),o2⟩,o3⟩,by rw [I.pl];exact o4⟩,?_⟩
      obtain ⟨t1,t2,t3⟩:=zhr p7 hg c;rw [zbQ];intro t z1 z2 z hz;obtain ⟨y',y1,y2,-⟩:=t3 t (by omega) (by omega)
      have hhd:zbJ h.pages t=k:=by
       obtain ⟨d,rfl⟩:∃ d,t=k+d:=⟨t-k,by omega⟩
       refine ziu (by rw [zao hg];omega) d fun t2 w1 w2=>?_
       obtain ⟨y'',y1',y2',-⟩:=t3 t2 w1 (by omega)
       rw [zao y1'];exact y2'
      rcases zgE C y1 with ⟨-,w0,-⟩ | ⟨-,s',e',-,-,-,s3'⟩
      . omega
      . rw [e']at hz;injection hz with hz;subst hz
        refine ⟨y2,?_⟩;show s'=s
        rw [s3' y2,s2 c,hhd]
    . unfold zbo at hpo ⊢
      rw [if_neg (by omega),if_neg (by omega),if_neg (by omega),if_pos c]at hpo
      rw [if_neg (by show ¬g0.kind=0;omega),if_neg (by show ¬g0.kind=1;omega),if_neg (by show ¬g0.kind=2;omega),if_pos (by show g0.kind=3;omega)]
      unfold zet at hpo ⊢
      simp only [qae]at hpo ⊢;refine ⟨hpo.1,?_⟩;have ho:=hpo.2;unfold zg3 at ho ⊢
      rw [zcs]at ho ⊢
      obtain ⟨l,l1,l2,l3,l4⟩:=ho;have hkl:=(qar.1 hg).1;have hl:h.pages[l]?=some h.pages[l]:=qas (by omega)
      rw [zao hl]at l2 l4;generalize h.pages[l]=yl at hl l2 l4
      rcases zgE C hl with ⟨-,w0,-⟩ | ⟨-,s',e',-⟩
      . omega
      refine ⟨l,l1,by rw [zao e'];exact l2,fun m m1 m2=>?_,by rw [zao e'];exact l4⟩
      have hmm:h.pages[m]?=some h.pages[m]:=qas (by omega)
      have:=l3 m m1 m2
      rw [zao hmm]at this;exact hno2 m _ hmm this
 have hB:zgj x.h.pages x.h.bump=true:=by
  rw [hbu];unfold zgj at p5 ⊢
  have p5:=qat p5;refine qad (p5.imp id fun ⟨b0,b1,b2⟩=>⟨b0,by rw [I.pl];exact b1,?_⟩)
  obtain ⟨k,hk⟩:=qaM b0;rw [hk,qac]at b2 ⊢
  have hkl:k<h.pages.length:=by omega
  have hg:h.pages[k]?=some h.pages[k]:=qas hkl
  rw [zao hg]at b2;rcases zgE C hg with ⟨-,w0,-⟩ | ⟨-,s',e',-⟩
  . omega
  . rw [zao e'];exact b2
 have:=zuO (h:=x.h) (by rw [I.pw,I.np];exact p1) (by rw [I.wl,I.np,I.pw];exact p2) (by rw [I.pl,I.np];exact p3) (by rw [I.sp];exact p4) hB hT
 unfold okP at this;rw [zeB]at this;exact this
theorem mid_at{h:Hp}{x:Wk}{os:List Int}{D:Nat->Int->Prop}(C:CI h x os D)(hbu:x.h.bump=h.bump){a:Int}(ha:a∈zag h)(ht:okT (evWd x a).toNat=false):
 atE x.h a=0/\atH x.h a=atH h a/\evWd x a=zaq h.words a:=by
 have I:=C.inv;obtain ⟨e0,-⟩:=zce ha;obtain ⟨i,j,g,b⟩:=zas ha;have hw:evWd x a=zaq h.words a:=by
  rcases I.un a ha with c | c
  . exact c
  . rw [c.1]at ht;cases ht
 have hok:=zzy C hbu;have hpos:=b.pos;have hbd:=ztT e0;have hat:ofE h.pw h.np a=0/\atB h a=true:=by
  unfold atE at e0;rw [if_pos I.ok]at e0;split at e0
  . rename_i c;split at e0
    . rename_i c2;exact ⟨c,c2⟩
    . exact absurd e0 (by decide)
  . exact absurd e0 (by decide)
 have hin:okA h.words.length a 1=true:=by
  have:=b.upto
  have hcf:=I.conf;rw [zav];have h1:=b.ad;have h2:=b.il;have h3:=b.jl;have h4:=(zam I.ok).2.1;have h5:=(zam I.ok).2.2.1;have h6:((i:Int)+1)*h.pw<=h.np*h.pw:=qaV (by omega) (by omega)
  have h7:((i:Int)+1)*h.pw=i*h.pw+h.pw:=by rw [qbg,qbk]
  omega
 have hwA:za1 x.h a=za1 h a:=by
  have h1:evWd x a=(x.h.words.getD (a-4096).toNat 0):=by
   unfold evWd zaq;rw [if_pos (by rw [I.wl];exact hin)]
  have h2:zaq h.words a=(h.words.getD (a-4096).toNat 0):=by
   unfold zaq;rw [if_pos hin]
  unfold za1;rw [<-h1,<-h2,hw]
 have hnt:=I.begun b;obtain ⟨s,hpg⟩:∃ s,x.h.pages[i]?=some ⟨g.kind,s,g.used,g.pins⟩:=by
  rcases zgE C b.pg with ⟨c,-⟩ | ⟨-,s,e,-⟩
  . exact absurd c hnt
  . exact ⟨s,e⟩
 have hpo:zb0 x.h a=⟨g.kind,s,g.used,g.pins⟩:=by
  unfold zb0;rw [I.pw,I.np,b.oi,qac,zao hpg]
 have hpo':zb0 h a=g:=by
  unfold zb0;rw [b.oi,qac,zao b.pg]
 have hB:atB x.h a=true:=by
  have h2:=hat.2;unfold atB at h2 ⊢
  rw [hpo,hwA,I.pw,I.np];rw [hpo']at h2;exact h2
 obtain ⟨r1,r2⟩:=zoS hok (by rw [I.pw,I.np];exact hat.1) hB
 exact ⟨r1,by rw [r2,hwA,b.hd],hw⟩
end Go.VI.P
namespace Go.VI
open Go
theorem see_ok{h:P.Hp}{x:P.Wk}{os:List Int}{D:Nat->Int->Prop}(C:P.CI h x os D){a:Int}(ha:a∈P.zag h)(ht:P.okT (P.evWd x a).toNat=false)(hq:¬a∈x.queue)(hz:¬a=0):SeeOK x a:=by
 have I:=C.inv;obtain ⟨c1,c2,c3,c4,c5,c6,c7,c8,c9⟩:=I.conf;obtain ⟨i,j,g,b⟩:=P.zas ha;have hbp:=b.pos;have hbw:=b.wl;have hwl:=I.wl;have hpl:=I.pl;have hil:=b.il;have e0:P.evWd x a=P.zaq h.words a:=(I.un a ha).elim id (fun c=>by rw [ht]at c;exact absurd c.1 (by decide))
 obtain ⟨e1,e2,e3,-⟩:=P.zl6 ha e0;have hoi:P.evI x a=i:=by unfold P.evI;rw [I.pw,I.np];exact b.oi
 obtain ⟨y,f1,f2,f3⟩:=I.pg i g b.pg (I.begun b);refine ⟨fun c=>c.elim hz hq,fun c=>c (by rw [I.old];exact ha),by rw [ht];decide,?_,by rw [hoi,hpl];omega,fun hbig=>?_,fun hbig hb=>?_⟩
 . rw [I.pw,I.np];obtain ⟨e0,-⟩:=P.zce ha;unfold P.atE at e0;rw [if_pos I.ok]at e0;split at e0
   . rename_i c;exact c
   . exact absurd e0 (by decide)
 . have hk1:g.kind=1:=by
    rcases b.kd with ⟨k,-⟩ | ⟨k,-⟩
    . exact k
    . unfold P.zgf at hbig;rw [hoi,qac,P.zao f1]at hbig;have:=qa3 hbig
      omega
   rw [e2,I.pw];rcases b.kd with ⟨k,l,m⟩ | ⟨k,-⟩ <;> omega
 . obtain ⟨J,u,g0,eA,eN,u0,u1,hJ,-⟩:=P.zv3 C ha ht hbig hb;have hpp:=P.zaR (p:=(J:Int)) (P.zam I.ok).1 (by omega) hJ
   have hbsJ:P.bs h J=4096+(J:Int)*h.pw:=rfl
   rw [eA,e2];exact ⟨by omega,P.zav.2 (by omega),P.zav.2 (by omega)⟩
end Go.VI
namespace Go.VI
open Go
structure Coll (w:WkD) (h:P.Hp) (os:List Int) (D:Nat->Int->Prop):Prop where
 C:P.CI h (toWk w) os D
 bu:(toWk w).h.bump=h.bump
 wb:WBo w.1.2.1
theorem Coll.ok{w:WkD}{h:P.Hp}{os:List Int}{D:Nat->Int->Prop}(K:Coll w h os D):P.okH (toHp w.1)=true:=P.zzy K.C K.bu
theorem Coll.sp{w:WkD}{h:P.Hp}{os:List Int}{D:Nat->Int->Prop}(K:Coll w h os D):SpOK w.1:=by
 have I:=K.C.inv;obtain ⟨c1,c2,c3,c4,c5,c6,c7,c8,c9⟩:=I.conf;refine ⟨?_,fun k hk=>?_⟩
 . have:(toWk w).h.space=w.1.2.2.2.1:=rfl
   rw [<-this,I.sp];exact ⟨c8,c9⟩
 . have hm:=P.zbO _ _ _ _ (P.zam K.ok).2.2.2.2.2.2 (toPg (w.1.2.2.1.getD k PG0)) (qba (zaH hk));exact ⟨hm.1,hm.2.1⟩
theorem Coll.len{w:WkD}{h:P.Hp}{os:List Int}{D:Nat->Int->Prop}(K:Coll w h os D):confB w.1.1.1 w.1.1.2.1=true/\(w.1.2.2.1.length:Int)=w.1.1.2.1/\w.1.2.1.length<=4096/\w.1.2.2.1.length<=64/\w.2.1.length<=4096/\w.2.2.1.length<=1000/\w.2.2.2.1.length<=4096:=by
 have I:=K.C.inv;obtain ⟨c1,c2,c3,c4,c5,c6,c7,c8,c9⟩:=I.conf;obtain ⟨q1,q2⟩:=I.qlen;have hlm:(w.1.2.2.1.map toPg).length=w.1.2.2.1.length:=qai ..
 have e1:(w.1.2.2.1.map toPg).length=h.pages.length:=I.pl
 have e2:w.1.2.1.length=h.words.length:=I.wl
 have e3:w.2.1=P.zag h:=I.old
 have e4:w.1.1.2.1=h.np:=I.np
 have e5:w.2.2.2.1.length<=(P.zag h).length:=q1
 have e6:w.2.2.1.length<=1000:=I.plok.tk
 have h1:=(P.zam K.ok).1;refine ⟨by rw [<-zaF];exact h1,by omega,by omega,by omega,by rw [e3];exact q2,e6,by omega⟩
theorem Coll.wkl{w:WkD}{h:P.Hp}{os:List Int}{D:Nat->Int->Prop}(K:Coll w h os D):WkL w:=by
 obtain ⟨-,-,k1,k2,k3,k4,k5⟩:=K.len;exact ⟨by omega,by omega,by omega,by omega,by omega⟩
theorem Coll.hpw{w:WkD}{h:P.Hp}{os:List Int}{D:Nat->Int->Prop}(K:Coll w h os D):HpW w.1:=by
 obtain ⟨-,-,k1,k2,k3,k4,k5⟩:=K.len;exact ⟨by omega,by omega,K.wb⟩
theorem ziU{w:WkD}{h:P.Hp}{os:List Int}{D:Nat->Int->Prop}(K:Coll w h os D)(a:Int)(ha:0<=a/\a<18446744073709551616):
 Tot (fun r=>r.1.2.2.1=P.evE (toWk w) a/\r.1.2.1=P.evA (toWk w) a/\toWk r.1.1=P.evW (toWk w) a) (F_evacuate_Forward (w,a,())):=by
 have I:=K.C.inv;obtain ⟨l1,l2,l3,l4,l5,l6,l7⟩:=K.len;have hown:F_evacuate_owned (w,())=some ((w,()),()):=zdk w K.wkl
 have fin:∀ (e b:Int) (g:WkD) (c:Nat),P.evC (toWk w) a=c->e=(match c with | 1=>19 | 3=>19 | 6=>3 | _=>0)->b=(match c with | 0=>a | 2=>P.tgtV (P.evWd (toWk w) a).toNat | 4=>a | 5=>a | 7=>P.plA (toWk w) (P.evN (toWk w) a) | _=>0)->toWk g=(match c with | 0=>toWk w | 2=>toWk w | 4=>P.zei (toWk w) a | 5=>P.zei (P.zcK (toWk w) (P.evI (toWk w) a).toNat) a | 7=>P.zbq (toWk w) a | _=>P.Wk.zero) ->
  Tot (fun r:(WkD×Int×Int×Unit)×Unit=>r.1.2.2.1=P.evE (toWk w) a/\r.1.2.1=P.evA (toWk w) a/\toWk r.1.1=P.evW (toWk w) a) (some ((g,b,e,()),())):=fun e b g c hc h1 h2 h3=>by
  refine zab ?_;unfold P.evE P.evA P.evW;rw [hc];exact ⟨h1,h2,h3⟩
 rw [zdO];dsimp only
 rw [hown,zbX _ a (by omega),zbX _ a (by omega)]
 simp only [qaa];by_cases h0:a=0
 . rw [show (a == 0)=true from qax.2 h0,qah]
   exact fin _ _ _ 0 (by unfold P.evC;rw [if_pos (.inl h0)]) rfl rfl rfl
 rw [show (a == 0)=false from qaO.2 h0,qaf]
 by_cases hq:a∈w.2.2.2.1
 . rw [qad hq,qah];exact fin _ _ _ 0 (by unfold P.evC;rw [if_pos (.inr hq)]) rfl rfl rfl
 rw [qaj hq,qaf];have c0:¬(a=0\/a∈(toWk w).queue):=fun c=>c.elim h0 hq
 by_cases ho:a∈w.2.1
 case neg=>
  rw [qaj ho];exact fin _ _ _ 1 (by unfold P.evC;rw [if_neg c0,if_pos (show ¬a∈(toWk w).old from ho)]) rfl rfl zfM
 rw [qad ho];simp only [qbz,qaf];have c1:¬¬a∈(toWk w).old:=fun c=>c ho
 have hob:a∈P.zag h:=by rw [<-I.old];exact ho
 obtain ⟨e0,-⟩:=P.zce hob;have hof:P.ofE (toWk w).h.pw (toWk w).h.np a=0:=by
  rw [I.pw,I.np];unfold P.atE at e0;rw [if_pos I.ok]at e0;split at e0
  . rename_i c;exact c
  . exact absurd e0 (by decide)
 have hwb:P.WB (toWk w).h.words:=K.wb;have hle:P.zgS w.1.2.1 a=0:=(P.zwL hwb K.ok hof).2.1
 rw [zeX w.1 a (by omega) K.wb ha hle,qaa]
 dsimp only;have hev:(P.zaq w.1.2.1 a).toNat=(P.evWd (toWk w) a).toNat:=rfl
 rw [hev];cases ht:P.okT (P.evWd (toWk w) a).toNat
 case true=>
  simp only [qah];exact fin _ _ _ 2 (by unfold P.evC;rw [if_neg c0,if_neg c1,if_pos ht]) rfl rfl rfl
 simp only [qaf];obtain ⟨m1,m2,m3⟩:=P.mid_at K.C K.bu hob ht;obtain ⟨o1,o2,o3,o4⟩:=P.zl6 hob m3;refine zad (zfi w.1 K.hpw a ha) ?_;rintro ⟨⟨⟨(k:Int),(n:Int),(m:Int),_⟩,(e:Int),_⟩,_⟩ ⟨q1,q2⟩;dsimp only at q1 q2 ⊢
 have q1:e=P.atE (toWk w).h a:=q1
 have q2:toHd (k,n,m,())=P.atH (toWk w).h a:=q2
 rw [q1,m1];simp only [show ((0:Int) != 0)=false from rfl,qaf]
 obtain ⟨-,a2,a3,a4,a5,a6⟩:=P.zjU m1;rw [<-q2]at a2 a3 a4 a5;have a2:P.zaz k n m=true:=a2
 have a3:0<=m:=a3
 have a4:m<4294967296:=a4;have hn:n+1=P.evN (toWk w) a:=by
  rw [o2];unfold P.osz;rw [<-m2,<-q2];rfl
 rw [zdx k n m ⟨a3,a4⟩,qaa,P.zcq a2,hn];refine zad (zn6 w a I.fwok l1 l2 K.sp ha (see_ok K.C hob ht hq h0)) fun r hr=>zab hr
end Go.VI
namespace Go.VI
open Go Go.Proofs
theorem zjr(h:P.Hp)(i:Int):(P.zaK h i).length<=64:=by
 cases h1:P.okH h with
 | false=>rw [(P.zpl (i:=i) h1).2];simp
 | true=>exact P.zfY h1
end Go.VI
namespace Go.VI.P
open Go
end Go.VI.P
namespace Go.VI
open Go Go.Proofs
theorem ztS(h:HpD)(hw:HpW h){x:Int}(hx:P.atE (toHp h) x=0):∃ k n m e,F_r05_At (h,x,())=some (((k,n,m,()),e,()),())/\F_r03_Size ((k,n,m,()),())=some ((P.osz (toHp h) x,()),())/\4096<=x/\x<=100004096/\1<=P.osz (toHp h) x/\P.osz (toHp h) x<=256:=by
 obtain ⟨i,j,g,b⟩:=P.zmS hx;have p1:=b.pos;have p2:=b.wl;have p3:(toHp h).words.length<=100000000:=hw.wl
 obtain ⟨⟨⟨⟨(k:Int),(n:Int),(m:Int),_⟩,(e:Int),_⟩,_⟩,hF,-,hH⟩:=zgG h hw x (by omega)
 dsimp only at hH
 obtain ⟨-,a2,a3,a4,a5,a6⟩:=P.zjU hx;have ek:(P.atH (toHp h) x).k=k:=(congrArg P.Hd.k hH).symm
 have en:(P.atH (toHp h) x).n=n:=(congrArg P.Hd.n hH).symm
 have em:(P.atH (toHp h) x).m=m:=(congrArg P.Hd.m hH).symm
 rw [ek,en,em]at a2;rw [em]at a3 a4;have eo:P.osz (toHp h) x=n+1:=by unfold P.osz;rw [en]
 have v:=P.zay a2;exact ⟨k,n,m,e,hF,by rw [zcl k n m ⟨a3,a4⟩,P.zcq a2,eo],p1.2,by omega,p1.1,by omega⟩
end Go.VI
namespace Go.VI
open Go Go.Proofs
abbrev Z3:Int×Int×Int×Unit:=(0,0,0,())
abbrev FX:=Aw×Unit×A7×Unit
abbrev FY:=Unit×Unit×A7×Unit⊕Unit×Unit×A7×Unit
theorem tot_all{n:Nat}{g:FX->Option (FX⊕FY)}(hn:n<=1000000000)(h:∀ k:Nat,k<n->Tot (fun r=>r = .inl (((k:Int)+1,()),(),Z3,())) (g (((k:Int),()),(),Z3,()))):
 Tot (fun (r:FY)=>r = .inr ((),(),Z3,())) (rl FX FY (fun x=>bif decide (x.1.1<(n:Int)) then g x else some (Sum.inr (Sum.inr ((),(),(x.2.2.1.1,x.2.2.1.2.1,x.2.2.1.2.2.1,()),())))) ((0,()),(),Z3,())):=by
 refine zai (fun x=>∃ k:Nat,x=(((k:Int),()),(),Z3,())/\k<=n) (fun x=>((n:Int)-x.1.1).toNat) ⟨0,rfl,by omega⟩ ?_
 rintro _ ⟨k,rfl,hk⟩;dsimp only;refine zac (fun h1=>?_) fun h1=>zab rfl
 simp only [qab]at h1;refine (h k (by omega)).mono ?_
 rintro _ rfl;exact ⟨⟨k+1,by rw [show ((k+1:Nat):Int)=(k:Int)+1 by omega],by omega⟩,by dsimp only;omega⟩
theorem zsm:Tot (fun r=>r.1.1=Z3) (F_cmp_Or_audit_Finding ([Z3,Z3],())):=by
 rw [zbA];dsimp only
 refine zad (P:=fun r=>r = .inr ((),(),Z3,())) (tot_all (n:=2) (by omega) fun k hk=>?_) ?_
 . have hk2:k=0\/k=1:=by omega
   rcases hk2 with rfl | rfl
   . exact zae (by decide) (zac (fun c=>by simp at c) fun _=>zab (by rw [W_id (by dsimp only;omega)]))
   . exact zae (by decide) (zac (fun c=>by simp at c) fun _=>zab (by rw [W_id (by dsimp only;omega)]))
 . rintro _ rfl;exact zab rfl
abbrev PtD:=Int×A7×Unit
def ofHd(x:P.Hd):Int×Int×Int×Unit:=(x.k,x.n,x.m,())
def mkp(h:HpD)(x:Int):PtD:=(x,ofHd (P.atH (toHp h) x),())
theorem zrO{α:Type}{f:Int->α}{l:List Int}{k:Nat}{d:α}(hk:k<l.length):(l.map f).getD k d=f (l.getD k 0):=by
 rw [qay,qbd,getD_some hk];rfl
theorem zm2(h:HpD)(hw:HpW h)(i:Int)(he:P.zbp (toHp h) i=0):Tot (fun r=>r.1.1=(P.zaK (toHp h) i).map (mkp h)/\r.1.2.1=0) (F_audit_partsOf (h,i,())):=by
 rw [zfu];dsimp only
 try simp only [zar]
 rw [zmW h hw i,qaa,he];dsimp only;have hax:∀ x∈P.zaK (toHp h) i,P.atE (toHp h) x=0:=fun x hx=>P.ze9 hx
 have hll:=zjr (toHp h) i;generalize P.zaK (toHp h) i=l at *
 refine zac (fun c=>by simp at c) fun _=>?_
 refine zad (P:=fun r=>∃ y,r = .inr y/\y.2.1.1=l.map (mkp h)) (zai (fun x=>∃ k:Nat,x.1.2.2.2.1=(k:Int)/\k<=l.length/\x.2.1.1=(l.take k).map (mkp h)) (fun x=>((l.length:Int)-x.1.2.2.2.1).toNat) ⟨0,rfl,by omega,rfl⟩ ?_) ?_
 . rintro ⟨⟨q1,q2,q3,(k':Int),_⟩,⟨(acc:List PtD),_⟩,_⟩ ⟨k,e1,e2,e3⟩;dsimp only at e1 e3 ⊢
   subst e1;refine zac (fun h4=>?_) fun h4=>zab ?_
   . simp only [qab]at h4;have hk:k<l.length:=by omega
     have w:W ((k:Int)+1)=((k+1:Nat):Int):=by rw [W_id (by omega)];omega
     rw [w,qac];have hxa:=hax _ (zaE (d:=0) hk)
     obtain ⟨-,-,-,-,-,-,b1,b2,-,-⟩:=ztS h hw hxa;refine zae (zaf.2 ⟨by omega,h4⟩) (zad (zfi h hw (l.getD k 0) (by omega)) ?_)
     rintro ⟨⟨(hd:A7),(e':Int),_⟩,_⟩ ⟨he',hH⟩;dsimp only at he' hH ⊢
     rw [hxa]at he'
     subst he'
     have hd2:hd=ofHd (P.atH (toHp h) (l.getD k 0)):=by rw [<-hH];rfl
     have hacc:acc.length<=64:=by rw [e3,qai,qau];omega
     refine zac (fun c=>by simp at c) fun _=>zae (zak.2 (by rw [qbL];omega)) (zab ?_)
     simp only [qal];refine ⟨⟨k+1,rfl,by omega,?_⟩,by omega⟩
     rw [P.zbc (getD_some hk),qa1,<-e3,hd2];rfl
   . simp only [qag]at h4;simp only [qak];rw [qa2 (by omega)]at e3
     exact ⟨_,rfl,e3⟩
 . rintro _ ⟨⟨_,⟨y,_⟩,_⟩,rfl,hy⟩;exact zab ⟨hy,rfl⟩
theorem zm5(pw np kind k n m:Int)(hm:0<=m/\m<4294967296):F_audit_belongs ((pw,np,()),kind,(k,n,m,()),())=some ((bif kind == 2 then k != 0 else decide (P.zaP k n m<=P.zev pw np),()),()):=by
 rw [zk1];dsimp only
 rw [zdx k n m hm,zeW];cases (kind == 2) <;> rfl
theorem zkH(h:HpD)(a:Int)(h0:4096<=a)(h1:a<4096+(h.2.1.length:Int))(hl:h.2.1.length<=100000000):F_audit_word (h,a,())=some ((P.zaq (toHp h).words a,()),()):=by
 rw [zpE];dsimp only
 rw [U_id (n:=a-4096) (by omega),zaf.2 (show 0<=a-4096/\a-4096<(h.2.1.length:Int) by omega),qah]
 have e:P.zaq (toHp h).words a=h.2.1.getD (a-4096).toNat 0:=by
  unfold P.zaq;rw [if_pos (P.zav.2 (by show _/\_<=4096+((h.2.1.length:Nat):Int);omega))];rfl
 rw [e]
theorem zsj(h:HpD)(hc:confB h.1.1 h.1.2.1=true)(hn:(h.2.2.1.length:Int)=h.1.2.1)(i:Nat)(hi:i<h.2.2.1.length)(n:Int)(h0:0<=n)(h1:n<=4)(hk:n=if (h.2.2.1.getD i PG0).1=2 then P.zat h.1.1 h.1.2.1 (h.2.2.1.getD i PG0).2.2.1 else if (h.2.2.1.getD i PG0).1=3 then 0 else 1):
 F_audit_span (h,(i:Int),())=some ((4096+(i:Int)*h.1.1,4096+(i:Int)*h.1.1+n*h.1.1,()),()):=by
 have c2:=zaT.1 hc;have k1:0<=n*h.1.1:=qbj h0 (by omega)
 have k2:n*h.1.1<=4*64:=qb4 h1 (by omega) (by omega) (by omega)
 have k3:0<=(i:Int)*h.1.1:=qbj (by omega) (by omega)
 have k4:(i:Int)*h.1.1<=64*64:=qb4 (by omega) (by omega) (by omega) (by omega)
 rw [zpF];dsimp only
 rw [zaf.2 (show 0<=(i:Int)/\(i:Int)<(h.2.2.1.length:Int) by omega),qah,qac,zhF,zel _ _ _ _ hc (by omega),Int.add_zero]
 simp only [qaa];generalize (h.2.2.1.getD i PG0)=g at *
 by_cases e2:g.1=2
 . rw [if_pos e2]at hk;rw [<-hk,show (g.1 == 2)=true by simpa using e2,qah,W_id (n:=n*h.1.1) (by omega),U_id (n:=n*h.1.1) (by omega),U_id (by omega)]
 . rw [if_neg e2]at hk;rw [show (g.1 == 2)=false by simpa using e2,qaf]
   by_cases e3:g.1=3
   . rw [if_pos e3]at hk;rw [show (g.1 == 3)=true by simpa using e3,qah,<-hk,W_id (n:=n*h.1.1) (by omega),U_id (n:=n*h.1.1) (by omega),U_id (by omega)]
   . rw [if_neg e3]at hk;rw [show (g.1 == 3)=false by simpa using e3,qaf,<-hk,W_id (n:=n*h.1.1) (by omega),U_id (n:=n*h.1.1) (by omega),U_id (by omega)]
end Go.VI
namespace Go.VI
open Go Go.Proofs
theorem zlc(k n m i:Int)(hm:0<=m/\m<4294967296):Tot (fun r=>r.1.1=P.ptrB k n m i) (F_header_Pointer ((k,n,m,()),i,())):=by
 rw [zjB];dsimp only
 rw [zc7 k n m hm,qaa];dsimp only;simp only [cor];unfold P.ptrB;refine zac (fun h=>zab ?_) fun h=>?_
 . symm
   simp only [qaY,qao,qab]at h;rcases h with h | h | h
   . rw [h];rfl
   . rw [qaj (show ¬0<=i by omega)];simp
   . rw [qaj (show ¬i<n by omega)];simp
 simp only [qaP,qaw,qag]at h;obtain ⟨hv,h0,h1⟩:=h;have c:=P.zay hv;rw [hv,qad (show 0<=i by omega),qad (show i<n by omega)]
 refine zae ?_ (zab ?_)
 . rw [qaj h0];cases (k == 2) <;> cases (k == 1) <;> rfl
 simp only [qaU];by_cases k2:k=2
 . subst k2;rfl
 by_cases k1:k=1
 . subst k1;obtain ⟨mm,rfl⟩:=qaM hm.1;obtain ⟨j,rfl⟩:=qaM (show 0<=i by omega)
   have hmin:min j IntKind.u32.bits=j:=by
    have:IntKind.u32.bits=32:=rfl
    have:=(c.2.2.2.2.1 rfl).1
    omega
   have hp:0<2 ^ j:=qce (by omega)
   have e1:(2:Int) ^ j=((2 ^ j:Nat):Int):=by rw [qci];rfl
   have hle:mm / 2 ^ j<=mm:=Nat.div_le_self _ _
   have e:=zoR (mm / 2 ^ j) 1 (by omega) (by omega)
   rw [Nat.and_one_is_mod]at e;have key:zcg IntKind.u32 (fun (x1 x2:BitVec IntKind.u32.bits)=>x1 &&& x2) ((mm:Int).fdiv (2 ^ min (Int.toNat (j:Int)) IntKind.u32.bits)) 1=((mm / 2 ^ j % 2:Nat):Int):=by
    rw [qac,hmin,e1,zdS mm (2 ^ j) hp];exact e
   simp only [qac]at key;simp only [qac];rw [key,Nat.testBit_eq_decide_div_mod_eq];have:(((1:Int) == 2)=false):=rfl
   rw [this,Bool.false_or];have:(((1:Int) == 1)=true):=rfl
   rw [this,qah];generalize mm / 2 ^ j % 2=z
   rw [qa9];simp
   omega
 . have e1:(k == 2)=false:=by simp [k2]
   have e2:(k == 1)=false:=by simp [k1]
   rw [e1,e2,qaj k2,qaj k1];rfl
theorem zj5(k n m:Int)(hm:0<=m/\m<4294967296)(hn:n<=1000000):Tot (fun r=>r.1.1=P.zgM k n m) (F_header_Pointers ((k,n,m,()),())):=by
 rw [zic];dsimp only
 rw [zc7 k n m hm,qaa];dsimp only;cases hv:P.zaz k n m
 . rw [P.zw8 hv];exact zac (fun _=>zab rfl) fun c=>by cases c
 . have c:=P.zay hv;rw [P.zsU hv];refine zac (fun c=>by cases c) fun _=>?_
   refine zad (P:=fun r=>r.2.1.1=P.zdc k n m n.toNat) (zai (fun x=>∃ j:Nat,x.1.2.1=(j:Int)/\j<=n.toNat/\x.2.1.1=P.zdc k n m j/\x.2.1.1.length<=j) (fun x=>(n-x.1.2.1).toNat) ⟨0,rfl,by omega,rfl,by simp⟩ ?_) fun r hr=>zab hr
   rintro ⟨⟨_,(i:Int),_⟩,⟨(l:List Int),_⟩,_⟩ ⟨j,e1,e2,e3,e4⟩;dsimp only at e1 e2 e3 e4 ⊢
   subst e1;refine zac (fun h=>?_) fun h=>zab ?_
   . simp only [qab]at h;have w:W ((j:Int)+1)=j+1:=W_id (by omega)
     rw [w];refine zad (zlc k n m j hm) ?_;rintro ⟨⟨(b:Bool),_⟩,_⟩ hb;dsimp only at hb ⊢
     have hs:=P.zlY k n m j;rw [<-hb]at hs;refine zae (zax fun _=>zak.2 (by simp;omega)) (zac (fun h2=>zab ?_) fun h2=>zab ?_)
     . rw [if_pos h2]at hs;simp only [qal];exact ⟨⟨j+1,by omega,by omega,by rw [hs,e3],by simp;omega⟩,by omega⟩
     . rw [if_neg (by rw [h2];decide)]at hs
       simp only [qal];exact ⟨⟨j+1,by omega,by omega,by rw [hs,e3],by omega⟩,by omega⟩
   . simp only [qag]at h;simp only [qak];rw [e3,show j=n.toNat by omega]
theorem T_less(x y:Int):F_cmp_Less_uint64 (x,y,())=some ((decide (x<y),()),()):=by
 rw [zif,zhm];simp
theorem zpN{l:List Int}(hp:l.Pairwise (fun a b=>a<b)){s t:Nat}(hst:s<=t)(ht:t<l.length):l.getD s 0<=l.getD t 0:=by
 by_cases e:s=t
 . subst e;exact qb6 _
 . have hs:s<l.length:=by omega
   have:=(List.pairwise_iff_getElem.1 hp) s t hs ht (by omega)
   rw [qay,qay,qas hs,qas ht];exact Int.le_of_lt this
theorem zzm(l:List Int)(hl:l.length<=1000000)(hp:l.Pairwise (fun a b=>a<b))(v:Int):Tot (fun r=>(r.1.2.1=true↔v∈l)) (F_slices_BinarySearch_uint64 (l,v,())):=by
 rw [zdh];dsimp only
 refine zad (P:=fun r=>∃ a:Nat,r.1.1=(a:Int)/\a<=l.length/\(∀ t,t<a->l.getD t 0<v)/\∀ t,a<=t->t<l.length->v<=l.getD t 0) (zai (fun x=>∃ a b:Nat,x.1.1=(a:Int)/\x.1.2.1=(b:Int)/\a<=b/\b<=l.length/\(∀ t,t<a->l.getD t 0<v)/\∀ t,b<=t->t<l.length->v<=l.getD t 0) (fun x=>(x.1.2.1-x.1.1).toNat) ⟨0,l.length,rfl,rfl,by omega,by omega,fun t h=>by omega,fun t h1 h2=>by omega⟩ ?_) ?_
 . rintro ⟨⟨(i:Int),(j:Int),_⟩,_⟩ ⟨a,b,e1,e2,e3,e4,e5,e6⟩;dsimp only at e1 e2 ⊢
   subst e1 e2;refine zac (fun h1=>?_) fun h1=>zab ?_
   . simp only [qab]at h1;have d1:(2:Int) ^ min (Int.toNat 1) IntKind.u64.bits=2:=by decide
     have hmid:W ((U (W ((a:Int)+(b:Int)))).fdiv (2 ^ min (Int.toNat 1) IntKind.u64.bits))=(((a+b) / 2:Nat):Int):=by
      rw [d1,W_id (n:=(a:Int)+b) (by omega),U_id (by omega),Int.fdiv_eq_ediv_of_nonneg _ (by omega),W_id (by omega)];omega
     rw [hmid];have hm:(a+b) / 2<l.length:=by omega
     have hm2:(a+b) / 2<b:=by omega
     have hm3:a<=(a+b) / 2:=by omega
     generalize (a+b) / 2=c at *
     rw [qac,T_less,qaa,W_id (n:=(c:Int)+1) (by omega)]
     dsimp only;refine zae (by decide) (zae (zaf.2 ⟨by omega,by omega⟩) (zab ?_))
     simp only [qal];by_cases hlt:l.getD c 0<v
     . rw [qad hlt,qah,qah];exact ⟨⟨c+1,b,by omega,rfl,by omega,e4,fun t ht=>by have:=zpN hp (show t<=c by omega) hm;omega,e6⟩,by omega⟩
     . rw [qaj hlt,qaf,qaf];exact ⟨⟨a,c,rfl,rfl,by omega,by omega,e5,fun t h1 h2=>by have:=zpN hp h1 h2;omega⟩,by omega⟩
   . simp only [qag]at h1;simp only [qak];exact ⟨a,rfl,by omega,e5,fun t h2 h3=>e6 t (by omega) h3⟩
 . rintro ⟨⟨(i:Int),_⟩,_⟩ ⟨a,e1,e2,e3,e4⟩;dsimp only at e1 ⊢
   subst e1;have nan:∀ y:Int,F_slices_isNaN_uint64 (y,())=some ((false,()),()):=fun y=>by rw [zfF];simp
   rw [qac];have hmem:v∈l->a<l.length/\l.getD a 0=v:=fun hv=>by
    obtain ⟨t,ht,e⟩:=qcv.1 hv;have et:l.getD t 0=v:=by rw [qay,qas ht];exact e
    have h1:¬t<a:=fun c=>by have:=e3 t c;omega
    have h2:=e4 a (qan _) (by omega)
    have h3:=zpN hp (show a<=t by omega) ht
    exact ⟨by omega,by omega⟩
   by_cases h1:a<l.length
   . have hin:inB (a:Int) l.length=true:=zaf.2 ⟨by omega,by omega⟩
     have hd:decide ((a:Int)<(l.length:Int))=true:=qad (by omega)
     rw [hin,hd];cases hb:(l.getD a 0 == v) with
     | true=>
      simp only [qah];exact zab ⟨fun _=>by rw [qax]at hb;rw [<-hb];exact zaE h1,fun _=>rfl⟩
     | false=>
      simp only [qah,qaf,nan,qaa];exact zab ⟨fun c=>(by cases c),fun hv=>(by have e:=(hmem hv).2;rw [e]at hb;simp at hb)⟩
   . have hd:decide ((a:Int)<(l.length:Int))=false:=qaj (by omega)
     rw [hd];simp only [qah,qaf];exact zab ⟨fun c=>(by cases c),fun hv=>absurd (hmem hv).1 h1⟩
theorem zqk(l:List Int)(hl:l.length<=1000000)(hp:l.Pairwise (fun a b=>a<b))(v:Int):Tot (fun r=>(r.1.1=true↔(v=0\/v∈l))) (F_audit_isReference (l,v,())):=by
 rw [zgR];dsimp only
 refine zad (zzm l hl hp v) ?_;rintro ⟨⟨_,(b:Bool),_⟩,_⟩ hb;dsimp only at hb ⊢
 refine zab ?_;cases b with
 | true=>exact ⟨fun _=>.inr (hb.1 rfl),fun _=>rfl⟩
 | false=>
  simp only [qaf,qax];exact ⟨.inl,fun h=>h.resolve_right fun c=>by have:=hb.2 c;cases this⟩
theorem zql(h:HpD)(hl:h.2.2.1.length<=100000000)(hc:confB h.1.1 h.1.2.1=true)(hn:(P.zaZ (toHp h).pages:Int)<=h.1.2.1 / 4):Tot (fun r=>r.1.1=Z3) (F_audit_checkCrowd (h,())):=by
 have c2:=zaT.1 hc;rw [zdP];dsimp only
 have hlm:(toHp h).pages.length=h.2.2.1.length:=qai ..
 refine zad (P:=fun r=>r.1.1=(P.zaZ (toHp h).pages:Int)) (zai (fun x=>∃ k:Nat,x.1.2.1=(k:Int)/\k<=h.2.2.1.length/\x.1.1=(P.zaZ ((toHp h).pages.take k):Int)/\x.1.1<=(k:Int)) (fun x=>((h.2.2.1.length:Int)-x.1.2.1).toNat) ⟨0,rfl,by omega,rfl,by show (0:Int)<=0;omega⟩ ?_) ?_
 . rintro ⟨⟨(s:Int),(k':Int),_⟩,_⟩ ⟨k,e1,e2,e3,e4⟩;dsimp only at e1 e3 e4 ⊢
   subst e1;refine zac (fun h1=>?_) fun h1=>zab ?_
   . simp only [qab]at h1;have hk:k<h.2.2.1.length:=by omega
     have hs0:0<=s:=by omega
     rw [qac,W_id (n:=(k:Int)+1) (by omega),W_id (n:=s+1) (by omega)]
     have ht:=P.zhy (zaH hk);refine zae (zaf.2 ⟨by omega,h1⟩) (zab ?_)
     simp only [qal];generalize hg:h.2.2.1.getD k PG0=g at *
     have ht:P.zaZ ((toHp h).pages.take (k+1))=P.zaZ ((toHp h).pages.take k)+if g.1=1/\0<g.2.2.2.1 then 1 else 0:=ht
     by_cases hq:g.1=1/\0<g.2.2.2.1
     . rw [if_pos hq]at ht;rw [show (g.1 == 1)=true by simpa using hq.1,qad (show g.2.2.2.1 > 0 from hq.2)]
       exact ⟨⟨k+1,by omega,by omega,by simp only [qah];omega,by simp only [qah];omega⟩,by omega⟩
     . rw [if_neg hq]at ht;have:(bif (g.1 == 1) then decide (g.2.2.2.1 > 0) else false)=false:=by
        cases hb:(g.1 == 1) with
        | false=>rfl
        | true=>rw [qah];exact qaj fun c=>hq ⟨by simpa using hb,c⟩
       rw [this];exact ⟨⟨k+1,by omega,by omega,by simp only [qaf];omega,by simp only [qaf];omega⟩,by omega⟩
   . simp only [qag]at h1;simp only [qak];rw [qa2 (by omega)]at e3
     exact e3
 . rintro ⟨⟨(s:Int),_⟩,_⟩ e;dsimp only at e ⊢
   refine zae (show (!(4:Int) == 0)=true from by decide) (zac (fun c=>?_) fun _=>zab rfl)
   exfalso
   simp only [qab]at c;rw [qbE (by omega),W_id (by omega)]at c
   omega
end Go.VI
namespace Go.VI
open Go Go.Proofs
theorem zvJ(h:P.Hp):(P.zag h).Pairwise (fun a b=>a<b) :=
 (P.zee h).imp_of_mem fun {x y} hx hy hxy=>by
  obtain ⟨i,j,g,b⟩:=P.zas hx;have:=b.pos
  omega
namespace P
def zcR(h:Hp)(g:Pg):Int:=if g.kind=2 then zat h.pw h.np g.used else if g.kind=3 then 0 else 1
end P
end Go.VI
namespace Go.VI
open Go Go.Proofs
namespace P
end P
theorem zvp(f:A7)(hf:¬f.1=0):Tot (fun r=>r.1.1=f) (F_cmp_Or_audit_Finding ([Z3,f],())):=by
 obtain ⟨f1,f2,f3,_⟩:=f;have hf:¬f1=0:=hf
 have hne:(f1 == 0)=false:=by simpa using hf
 rw [zbA];dsimp only
 refine zad (P:=fun r=>r = .inl ((),(),(f1,f2,f3,()),())) (zai (fun x=>x=((0,()),(),Z3,())\/x=((1,()),(),Z3,())) (fun x=>(1-x.1.1).toNat) (.inl rfl) ?_) ?_
 . rintro _ (rfl | rfl)
   . refine zac (fun _=>zae rfl (zac (fun c=>by simp at c) fun _=>zab ⟨.inr rfl,by decide⟩)) fun c=>by simp at c
   . refine zac (fun _=>zae rfl (zac (fun _=>zab rfl) fun c=>?_)) fun c=>by simp at c
     exfalso
     have c:(!(f1 == 0&&(f2 == 0&&(f3 == 0&&true))))=false:=c
     rw [hne]at c;cases c
 . rintro _ rfl;exact zab rfl
end Go.VI
namespace Go.VI
open Go Go.Proofs
theorem zla(h:HpD)(hl:h.2.2.1.length<=100000000)(hc:confB h.1.1 h.1.2.1=true):Tot (fun r=>toFd r.1.1=if h.1.2.1 / 4<(P.zaZ (toHp h).pages:Int) then ⟨7,0,0⟩ else P.Fd.none) (F_audit_checkCrowd (h,())):=by
 by_cases hn:(P.zaZ (toHp h).pages:Int)<=h.1.2.1 / 4
 . refine (zql h hl hc hn).mono ?_;rintro ⟨⟨f,_⟩,_⟩ hf;have hf:f=Z3:=hf
   subst hf;rw [if_neg (by omega)];rfl
 have c2:=zaT.1 hc;rw [zdP];dsimp only
 have hlm:(toHp h).pages.length=h.2.2.1.length:=qai ..
 refine zad (P:=fun r=>r.1.1=(P.zaZ (toHp h).pages:Int)) (zai (fun x=>∃ k:Nat,x.1.2.1=(k:Int)/\k<=h.2.2.1.length/\x.1.1=(P.zaZ ((toHp h).pages.take k):Int)/\x.1.1<=(k:Int)) (fun x=>((h.2.2.1.length:Int)-x.1.2.1).toNat) ⟨0,rfl,by omega,rfl,by show (0:Int)<=0;omega⟩ ?_) ?_
 . rintro ⟨⟨(s:Int),(k':Int),_⟩,_⟩ ⟨k,e1,e2,e3,e4⟩;dsimp only at e1 e3 e4 ⊢
   subst e1;refine zac (fun h1=>?_) fun h1=>zab ?_
   . simp only [qab]at h1;have hk:k<h.2.2.1.length:=by omega
     have hs0:0<=s:=by omega
     rw [qac,W_id (n:=(k:Int)+1) (by omega),W_id (n:=s+1) (by omega)]
     have ht:=P.zhy (zaH hk);refine zae (zaf.2 ⟨by omega,h1⟩) (zab ?_)
     simp only [qal];generalize hg:h.2.2.1.getD k PG0=g at *
     have ht:P.zaZ ((toHp h).pages.take (k+1))=P.zaZ ((toHp h).pages.take k)+if g.1=1/\0<g.2.2.2.1 then 1 else 0:=ht
     by_cases hq:g.1=1/\0<g.2.2.2.1
     . rw [if_pos hq]at ht;rw [show (g.1 == 1)=true by simpa using hq.1,qad (show g.2.2.2.1 > 0 from hq.2)]
       exact ⟨⟨k+1,by omega,by omega,by simp only [qah];omega,by simp only [qah];omega⟩,by omega⟩
     . rw [if_neg hq]at ht;have:(bif (g.1 == 1) then decide (g.2.2.2.1 > 0) else false)=false:=by
        cases hb:(g.1 == 1) with
        | false=>rfl
        | true=>rw [qah];exact qaj fun c=>hq ⟨by simpa using hb,c⟩
       rw [this];exact ⟨⟨k+1,by omega,by omega,by simp only [qaf];omega,by simp only [qaf];omega⟩,by omega⟩
   . simp only [qag]at h1;simp only [qak];rw [qa2 (by omega)]at e3
     exact e3
 . rintro ⟨⟨(s:Int),_⟩,_⟩ e;dsimp only at e ⊢
   refine zae (show (!(4:Int) == 0)=true from by decide) (zac (fun _=>zab ?_) fun c=>?_)
   . rw [if_pos (by omega)];rfl
   exfalso
   simp only [qag]at c;rw [qbE (by omega),W_id (by omega)]at c
   omega
theorem ziN(h:HpD)(hok:P.okH (toHp h)=true)(i:Nat)(hi:i<h.2.2.1.length)(l:List Int)(hl:l.length<=100000)(hm:∀ x∈l,0<=(P.atH (toHp h) x).m/\(P.atH (toHp h) x).m<4294967296)(hx0:∀ x∈l,¬x=0)
 (hk12:∀ x∈l,(h.2.2.1.getD i PG0).1=1\/(h.2.2.1.getD i PG0).1=2) :
 Tot (fun r=>toFd r.1.1=if P.clsV (toHp h) i l=0 then P.Fd.none else ⟨5,i,P.clsV (toHp h) i l⟩) (F_audit_checkClasses (h,(i:Int),l.map (mkp h),())):=by
 rw [zf8];dsimp only
 have hll:(l.map (mkp h)).length=l.length:=qai ..
 refine zad (P:=fun r=>(∃ f,r = .inl ((),(),f,())/\¬P.clsV (toHp h) i l=0/\f=(5,(i:Int),P.clsV (toHp h) i l,()))\/(r = .inr ((),(),Z3,())/\P.clsV (toHp h) i l=0)) (zai (fun x=>∃ k:Nat,x=(((k:Int),()),(),Z3,())/\k<=l.length/\P.zmD (P.clsB (toHp h) i) (l.drop k)=P.clsV (toHp h) i l) (fun x=>((l.length:Int)-x.1.1).toNat) ⟨0,rfl,by omega,rfl⟩ ?_) ?_
 . rintro _ ⟨k,rfl,hk,e3⟩;dsimp only;refine zac (fun h4=>?_) fun h4=>zab ?_
   . simp only [qab]at h4;have hk':k<l.length:=by omega
     rw [qac,qac,zrO hk',W_id (n:=(k:Int)+1) (by omega)]
     rw [P.zvc (getD_some hk')]at e3;have hmx:=hm _ (zaE (d:=0) hk')
     have h0x:=hx0 _ (zaE (d:=0) hk')
     have h12:=hk12 _ (zaE (d:=0) hk')
     generalize l.getD k 0=x at *
     refine zae (zaf.2 ⟨by omega,by omega⟩) (zae (zaf.2 ⟨by omega,by omega⟩) ?_)
     unfold mkp ofHd;dsimp only;rw [zm5 _ _ _ _ _ _ hmx,qaa];have hC:P.clsB (toHp h) i x = !(bif (h.2.2.1.getD i PG0).1 == 2 then (P.atH (toHp h) x).k != 0 else decide (P.zaP (P.atH (toHp h) x).k (P.atH (toHp h) x).n (P.atH (toHp h) x).m<=P.zev h.1.1 h.1.2.1)):=by
      unfold P.clsB;rw [zpj];show (decide ((h.2.2.1.getD i PG0).1=1) && !decide (_<=P.zev h.1.1 h.1.2.1) || decide ((h.2.2.1.getD i PG0).1=2)&&_)=_
      rcases h12 with e | e
      . rw [e];simp
      . rw [e];by_cases q:(P.atH (toHp h) x).k=0 <;> simp [q]
     rw [hC]at e3;dsimp only;refine zac (fun c=>zab ?_) fun c=>zab ?_
     . rw [if_pos c]at e3;exact .inl ⟨_,rfl,by rw [<-e3];exact h0x,by rw [<-e3]⟩
     . rw [if_neg (by rw [c];decide)]at e3
       exact ⟨⟨k+1,rfl,by omega,e3⟩,by dsimp only;omega⟩
   . simp only [qag]at h4;rw [P.zrT (by omega)]at e3
     exact .inr ⟨rfl,e3.symm⟩
 . rintro _ (⟨f,rfl,h1,rfl⟩ | ⟨rfl,h1⟩)
   . exact zab (by rw [if_neg h1];rfl)
   . exact zab (by rw [if_pos h1];rfl)
namespace P
theorem zkD(all:List Int)(x:Hd):∀ (l:List Int) (k t:Nat) (f:Int),l[t]?=some f->(ptrB x.k x.n x.m ((k+t:Nat):Int)=true/\¬f=0/\¬f∈all)->(∀ (s:Nat) (g:Int),s<t->l[s]?=some g->ptrB x.k x.n x.m ((k+s:Nat):Int)=true->g=0\/g∈all)->za0 all x k l=some (k+t)
 | [],k,t,f,h,_,_=>by simp at h
 | c::l,k,0,f,h,hb,_=>by
  simp only [qcm,Option.some.injEq]at h;subst h;rw [qa7]at hb ⊢
  rw [za0,if_pos hb]
 | c::l,k,t+1,f,h,hb,hs=>by
  rw [qbr]at h;rw [za0,if_neg,zkD all x l (k+1) t f h (by rwa [show k+1+t=k+(t+1) from by omega]) fun s g hst hg hp=>hs (s+1) g (by omega) (by rw [qbr];exact hg) (by rwa [show k+(s+1)=k+1+s from by omega])]
  . rw [show k+1+t=k+(t+1) from by omega]
  . rintro ⟨a1,a2,a3⟩;rcases hs 0 c (by omega) rfl a1 with e | e
    . exact a2 e
    . exact a3 e
theorem zyE(k n m:Int):(zgM k n m).Pairwise (fun a b=>a<b):=by
 unfold zgM;split
 . unfold zdc;refine List.Pairwise.filter _ ?_;rw [List.pairwise_map];exact (List.pairwise_lt_range (n:=n.toNat)).imp fun h=>by simp only [Int.ofNat_eq_natCast];omega
 . exact List.Pairwise.nil
theorem zyF{k n m i:Int}(h:ptrB k n m i=true):i∈zgM k n m:=by
 obtain ⟨v,i0,i1⟩:=zxa h;rw [zsU v];unfold zdc;refine qbM.2 ⟨qav.2 ⟨i.toNat,qbG.2 (by omega),by simp only [Int.ofNat_eq_natCast];omega⟩,h⟩
end P
end Go.VI
namespace Go.VI
open Go Go.Proofs
theorem zhC(h:HpD)(hw:HpW h):Tot (fun r=>toFd r.1.1=P.zbu (toHp h)) (F_audit_checkPointers (h,())):=by
 rw [zfI];dsimp only
 try simp only [zar]
 rw [zg7 h hw,qaa];dsimp only;have hol:=zs2 (toHp h);have hup:=zvJ (toHp h);have hwl:=hw.wl;have hO:P.zbu (toHp h)=P.zbZ (toHp h) (P.zag (toHp h)) (P.zag (toHp h)):=rfl
 rw [hO];have hob:∀ x∈P.zag (toHp h),P.atE (toHp h) x=0/\P.getH (toHp h) x=P.atH (toHp h) x/\((P.zbB (toHp h) x).length:Int)=(P.atH (toHp h) x).n/\∀ t:Nat,(t:Int)<(P.atH (toHp h) x).n->(P.zbB (toHp h) x)[t]?=some (P.zaq (toHp h).words (x+1+t)):=fun x hx=>⟨(P.zce hx).1,(P.zpp hx).2,P.zoL hx,fun t ht=>P.zl8 hx ht⟩
 generalize P.zag (toHp h)=l at *
 refine zad (P:=fun r=>(∃ f,r = .inl ((),(),f,())/\toFd f=P.zbZ (toHp h) l l)\/(r = .inr ((),(),Z3,())/\P.zbZ (toHp h) l l=P.Fd.none)) (zai (fun x=>∃ k:Nat,x=(((k:Int),()),(),Z3,())/\k<=l.length/\P.zbZ (toHp h) l (l.drop k)=P.zbZ (toHp h) l l) (fun x=>((l.length:Int)-x.1.1).toNat) ⟨0,rfl,by omega,rfl⟩ ?_) ?_
 . rintro _ ⟨k,rfl,hkl,e3⟩;dsimp only;refine zac (fun h4=>?_) fun h4=>zab ?_
   rotate_left
   . simp only [qag]at h4;rw [P.zuH (by omega)]at e3
     exact .inr ⟨rfl,e3.symm⟩
   simp only [qab]at h4;have hk:k<l.length:=by omega
   rw [qac,W_id (n:=(k:Int)+1) (by omega)]
   rw [P.zw9 (getD_some hk)]at e3;obtain ⟨hxa,hxg,hfl,hff⟩:=hob _ (zaE (d:=0) hk)
   obtain ⟨-,-,-,-,-,-,b1,b2,-,-⟩:=ztS h hw hxa;obtain ⟨i0,j0,g0,bg⟩:=P.zmS hxa;have bwl:=bg.wl;have hwe:(toHp h).words.length=h.2.1.length:=rfl
   obtain ⟨-,a2,a3,a4,a5,a6⟩:=P.zjU hxa;unfold P.osz at bwl;rw [hxg]at e3;generalize l.getD k 0=x at *
   refine zae (zaf.2 ⟨by omega,by omega⟩) (zad (zsn h hw x (by omega)) ?_)
   rintro ⟨⟨⟨(hk':Int),(n:Int),(m:Int),_⟩,(e':Int),_⟩,_⟩ ⟨-,hH⟩;dsimp only at hH ⊢
   rw [hxg]at hH;have ek:(P.atH (toHp h) x).k=hk':=(congrArg P.Hd.k hH).symm
   have en:(P.atH (toHp h) x).n=n:=(congrArg P.Hd.n hH).symm
   have em:(P.atH (toHp h) x).m=m:=(congrArg P.Hd.m hH).symm
   have hnone:=P.zgl l (P.atH (toHp h) x) (P.zbB (toHp h) x) 0;have hsome:=P.zkD l (P.atH (toHp h) x) (P.zbB (toHp h) x) 0;rw [ek,en,em]at hnone hsome;rw [en]at bwl a5 a6 hfl hff;rw [em]at a3 a4;refine zad (zj5 hk' n m ⟨a3,a4⟩ (by omega)) ?_
   rintro ⟨⟨(ps:List Int),_⟩,_⟩ hps;have hps:ps=P.zgM hk' n m:=hps
   have hpm:∀ i∈ps,P.ptrB hk' n m i=true:=fun i hi=>P.zqR (by rw [<-hps];exact hi)
   have hin:∀ i,P.ptrB hk' n m i=true->i∈ps:=fun i hi=>by rw [hps];exact P.zyF hi
   have hpu:ps.Pairwise (fun a b=>a<b):=by rw [hps];exact P.zyE hk' n m
   have hpl:ps.length<=1000000:=by
    rw [hps];unfold P.zgM
    split
    . unfold P.zdc;have:=qbN (fun i=>P.ptrB hk' n m i) ((List.range n.toNat).map Int.ofNat)
      rw [qai,qcx]at this;omega
    . simp
   clear hps;dsimp only;refine zad (P:=fun r=>(∃ f,r = .inl ((),(),f,())/\∃ t:Nat,t<ps.length/\(¬P.zaq (toHp h).words (x+1+ps.getD t 0)=0/\¬P.zaq (toHp h).words (x+1+ps.getD t 0)∈l)/\(∀ s,s<t->P.zaq (toHp h).words (x+1+ps.getD s 0)=0\/P.zaq (toHp h).words (x+1+ps.getD s 0)∈l)/\f=(6,P.ofI h.1.1 h.1.2.1 (x+1+ps.getD t 0),x+1+ps.getD t 0,()))\/(r = .inr ((),(),Z3,())/\∀ s,s<ps.length->P.zaq (toHp h).words (x+1+ps.getD s 0)=0\/P.zaq (toHp h).words (x+1+ps.getD s 0)∈l))
    (zai (fun y=>∃ t:Nat,y=(((t:Int),()),(),Z3,())/\t<=ps.length/\∀ s,s<t->P.zaq (toHp h).words (x+1+ps.getD s 0)=0\/P.zaq (toHp h).words (x+1+ps.getD s 0)∈l) (fun y=>((ps.length:Int)-y.1.1).toNat) ⟨0,rfl,by omega,fun s hs=>by omega⟩ ?_) ?_
   . rintro _ ⟨t,rfl,htl,hgood⟩;dsimp only;refine zac (fun h5=>?_) fun h5=>zab ?_
     rotate_left
     . simp only [qag]at h5;exact .inr ⟨rfl,fun s hs=>hgood s (by omega)⟩
     simp only [qab]at h5;have ht:t<ps.length:=by omega
     rw [qac,W_id (n:=(t:Int)+1) (by omega)]
     have hpi:=hpm _ (zaE (d:=0) ht)
     obtain ⟨-,i1,i2⟩:=P.zxa hpi;rw [U_id (n:=x+1) (by omega),U_id (n:=ps.getD t 0) (by omega),U_id (n:=x+1+ps.getD t 0) (by omega),zkH h (x+1+ps.getD t 0) (by omega) (by omega) hwl,qaa]
     refine zae (zaf.2 ⟨by omega,by omega⟩) (zad (zqk l (by omega) hup _) ?_)
     rintro ⟨⟨(b:Bool),_⟩,_⟩ hb;dsimp only at hb ⊢
     refine zac (fun c=>?_) fun c=>zab ?_
     . have hnb:¬(P.zaq (toHp h).words (x+1+ps.getD t 0)=0\/P.zaq (toHp h).words (x+1+ps.getD t 0)∈l):=fun q=>by rw [hb.2 q]at c;cases c
       rw [zd4];dsimp only;rw [ziT _ _ _ (by omega)]
       exact zab (.inl ⟨_,rfl,t,ht,⟨fun q=>hnb (.inl q),fun q=>hnb (.inr q)⟩,hgood,rfl⟩)
     . have hbt:b=true:=by simpa using c
       exact ⟨⟨t+1,rfl,by omega,fun s hs=>by
        by_cases e:s=t
        . subst e;exact hb.1 hbt
        . exact hgood s (by omega)⟩,by dsimp only;omega⟩
   . rintro _ (⟨f,rfl,t,ht,hbad,hgood,rfl⟩ | ⟨rfl,hgood⟩)
     . have hpi:=hpm _ (zaE (d:=0) ht)
       obtain ⟨-,i1,i2⟩:=P.zxa hpi;obtain ⟨q,hq⟩:=qaM i1;have hbf:P.za0 l (P.atH (toHp h) x) 0 (P.zbB (toHp h) x)=some (0+q):=by
        refine hsome q (P.zaq (toHp h).words (x+1+q)) (hff q (by omega)) ⟨by rw [qaG,<-hq];exact hpi,by rw [<-hq];exact hbad⟩ fun s g hs hg hp=>?_
        rw [hff s (by omega)]at hg
        injection hg with hg
        rw [<-hg];rw [qaG]at hp;obtain ⟨u,hu,eu⟩:=qcv.1 (hin _ hp);have eu:ps.getD u 0=(s:Int):=by rw [qay,qas hu];exact eu
        have hut:u<t:=qbU fun c=>by
         have:=zpN hpu (show t<=u by omega) hu
         omega
        have:=hgood u hut
        rw [eu]at this;exact this
       rw [hbf]at e3;refine zab (.inl ⟨_,rfl,?_⟩);rw [<-e3];show _=P.zsV (toHp h) _
       unfold P.zsV toFd;rw [show x+1+((0+q:Nat):Int)=x+1+ps.getD t 0 by omega]
       rfl
     . have hbf:P.za0 l (P.atH (toHp h) x) 0 (P.zbB (toHp h) x)=none:=hnone.2 fun s g hg hp=>by
        have hs:(s:Int)<n:=by
         have:=(qar.1 hg).1
         omega
        rw [hff s hs]at hg;injection hg with hg
        rw [<-hg];rw [qaG]at hp;obtain ⟨u,hu,eu⟩:=qcv.1 (hin _ hp);have eu:ps.getD u 0=(s:Int):=by rw [qay,qas hu];exact eu
        have:=hgood u hu
        rw [eu]at this;exact this
       rw [hbf]at e3;exact zab ⟨⟨k+1,rfl,by omega,e3⟩,by dsimp only;omega⟩
 . rintro _ (⟨f,rfl,hf⟩ | ⟨rfl,hf⟩)
   . exact zab hf
   . exact zab (by rw [hf];rfl)
end Go.VI
namespace Go.VI.P
open Go
theorem ziD{h:Hp}(hok:okH h=true){k:Nat}{g:Pg}(hg:h.pages[k]?=some g)(e:g.kind=2):1<=zat h.pw h.np g.used/\zat h.pw h.np g.used<=4/\(k:Int)+zat h.pw h.np g.used<=h.pages.length /\
 ∀ t:Nat,k<t->(t:Int)<k+zat h.pw h.np g.used->∃ y,h.pages[t]?=some y/\y.kind=3/\y.space=g.space:=by
 obtain ⟨p1,p2,p3,p4,p5,p6⟩:=zaN (zf2 hok);have:=za5.1 p6 k g hg
 unfold zbo at this;rw [if_neg (by omega),if_neg (by omega),if_pos e]at this
 unfold zcv at this;simp only [qae,qab]at this;obtain ⟨⟨⟨⟨q1,q2⟩,q3⟩,q4⟩,q5⟩:=this;refine ⟨q2,zyZ _ _ _,q4,fun t t1 t2=>?_⟩
 have hl:t<h.pages.length:=by omega
 have hy:h.pages[t]?=some h.pages[t]:=qas hl
 exact ⟨_,hy,zbQ.1 q5 t (by omega) (by omega) _ hy⟩
theorem zvx{h:Hp}(hok:okH h=true){j:Nat}{y:Pg}(hy:h.pages[j]?=some y)(e:y.kind=3):∃ (k:Nat) (g:Pg),k<j/\h.pages[k]?=some g/\g.kind=2/\(j:Int)<k+zat h.pw h.np g.used:=by
 obtain ⟨p1,p2,p3,p4,p5,p6⟩:=zaN (zf2 hok);have:=za5.1 p6 j y hy
 unfold zbo at this;rw [if_neg (by omega),if_neg (by omega),if_neg (by omega),if_pos e]at this
 unfold zet zg3 at this;rw [qae]at this;obtain ⟨l,l1,l2,-,l4⟩:=(zcs h.pw h.np h.pages j 1).1 this.2;have hj:=(qar.1 hy).1;have hl:h.pages[l]?=some (h.pages.getD l Pg.zero):=by
  rw [qay,qas (show l<h.pages.length by omega)];rfl
 exact ⟨l,_,l1,hl,l2,by omega⟩
theorem zwZ{h:Hp}(hok:okH h=true){k:Nat}{g:Pg}(hg:h.pages[k]?=some g):0<=zcR h g/\zcR h g<=4/\(k:Int)+zcR h g<=h.pages.length:=by
 have hk:=(qar.1 hg).1;unfold zcR;by_cases e2:g.kind=2
 . rw [if_pos e2];have:=ziD hok hg e2;omega
 . rw [if_neg e2];split <;> omega
theorem zpR{h:Hp}(hok:okH h=true){k j:Nat}{g:Pg}(hg:h.pages[k]?=some g)(h1:k<=j)(h2:(j:Int)<k+zcR h g):zbJ h.pages j=k:=by
 have hgd:h.pages.getD k Pg.zero=g:=zao hg
 have h3:¬g.kind=3:=fun c=>by
  unfold zcR at h2;rw [if_neg (by omega),if_pos c]at h2;omega
 obtain ⟨d,rfl⟩:∃ d,j=k+d:=⟨j-k,by omega⟩
 refine ziu (by rw [hgd];exact h3) d fun t t1 t2=>?_
 have e2:g.kind=2:=qbU fun e2=>by
  unfold zcR at h2;rw [if_neg e2]at h2;split at h2 <;> omega
 have hsp:zcR h g=zat h.pw h.np g.used:=by unfold zcR;rw [if_pos e2]
 obtain ⟨y,y1,y2,-⟩:=(ziD hok hg e2).2.2.2 t t1 (by omega)
 rw [zao y1];exact y2
def SpOk(h:Hp)(k:Nat):Prop:=(pgAt h k).kind=0\/(pgAt h k).space=h.space
def UseP(h:Hp)(k:Nat)(p:Int):Prop:=(∃ x∈zaK h k,x<=p/\p<x+zd9 h x)\/zaq h.words p=0
def InSp(h:Hp)(k:Nat)(p:Int):Prop:=4096+(k:Int)*h.pw<=p/\p<4096+(k:Int)*h.pw+zcR h (pgAt h k)*h.pw
def zzo(h:Hp)(k:Nat):Prop:=SpOk h k/\zbp h k=0/\clsV h k (zaK h k)=0/\∀ p,InSp h k p->UseP h k p
def zzI(h:Hp)(k:Nat)(F:Fd):Prop :=
 (¬SpOk h k/\F=⟨2,k,0⟩)\/(SpOk h k/\¬zbp h k=0/\F=⟨3,k,0⟩)\/(SpOk h k/\zbp h k=0/\¬clsV h k (zaK h k)=0/\F=⟨5,k,clsV h k (zaK h k)⟩) \/
 (SpOk h k/\zbp h k=0/\clsV h k (zaK h k)=0/\∃ p,InSp h k p/\¬UseP h k p/\(∀ q,InSp h k q->q<p->UseP h k q)/\F=⟨4,ofI h.pw h.np p,p⟩)
theorem zkA(h:Hp)(i:Nat):∀ (l:List Bool) (k t:Nat),l[t]?=some false->¬zkS h i ((k+t:Nat):Int)=0->(∀ (s:Nat) (b:Bool),s<t->l[s]?=some b->b=true\/zkS h i ((k+s:Nat):Int)=0)->zdf h i k l=4096+(i:Int)*h.pw+((k+t:Nat):Int)
 | [],k,t,ht,_,_=>by simp at ht
 | c::l,k,0,ht,hx,_=>by
  simp only [qcm,Option.some.injEq]at ht;subst ht;rw [qa7]at hx ⊢
  rw [zdf,if_pos ⟨rfl,hx⟩]
 | c::l,k,t+1,ht,hx,hs=>by
  rw [qbr]at ht;rw [zdf,if_neg,zkA h i l (k+1) t ht (by rwa [show k+1+t=k+(t+1) from by omega]) fun s b hst hb=>?_]
  . rw [show k+1+t=k+(t+1) from by omega]
  . have:=hs (s+1) b (by omega) (by rw [qbr];exact hb)
    rwa [show k+(s+1)=k+1+s from by omega]at this
  . rintro ⟨a1,a2⟩;rcases hs 0 c (by omega) rfl with e | e
    . rw [a1]at e;cases e
    . exact a2 e
theorem zmO{h:Hp}(hok:okH h=true){j i:Nat}(hj:j<h.pages.length)(hi:zbJ h.pages j=i)(hu:∀ t:Nat,(t:Int)<h.pw->UseP h i (4096+(j:Int)*h.pw+t)):zhw h j=0:=by
 obtain ⟨p1,p2,p3,-⟩:=zam hok;have c:=zaj p1;unfold zhw;rw [zhx h j (by omega),hi]
 intro t b hb;have ht:(t:Int)<h.pw:=by
  have:=(qar.1 hb).1
  rw [zlI]at this;omega
 rw [zfL h j _ ht]at hb;injection hb with hb
 subst hb;rcases hu t ht with e | e
 . exact .inl (zhQ.2 e)
 . right
   rw [qaG,zeP p1 (by omega) ht];exact e
theorem zv1{h:Hp}(hok:okH h=true){j i:Nat}(hj:j<h.pages.length)(hi:zbJ h.pages j=i){t:Nat}(ht:(t:Int)<h.pw)(hn:¬UseP h i (4096+(j:Int)*h.pw+t))(hu:∀ s:Nat,s<t->UseP h i (4096+(j:Int)*h.pw+s)):zhw h j=4096+(j:Int)*h.pw+t:=by
 obtain ⟨p1,p2,p3,-⟩:=zam hok;have c:=zaj p1;unfold zhw;rw [hi];have hub:zo3 h j (zaK h i) t=false:=by
  cases hb:zo3 h j (zaK h i) t with
  | false=>rfl
  | true=>exact absurd (.inl (zhQ.1 hb)) hn
 rw [zkA h j _ 0 t (by rw [zfL h j _ ht,hub]) (by rw [qaG,zeP p1 (by omega) ht];exact fun e=>hn (.inr e)) fun s b hs hb=>?_,qaG]
 rw [zfL h j _ (by omega)]at hb
 injection hb with hb
 subst hb;rcases hu s hs with e | e
 . exact .inl (zhQ.2 e)
 . right
   rw [qaG,zeP p1 (by omega) (by omega)];exact e
theorem zoq{h:Hp}{k:Nat}(h1:SpOk h k)(h2:zbp h k=0)(h3:clsV h k (zaK h k)=0)(h4:zhw h k=0):(zed h k).fault=0:=by
 unfold zed;rw [if_neg (by rintro ⟨a,b⟩;exact h1.elim a b),if_neg (by simpa using h2),if_neg (by simpa using h3),if_neg (by simpa using h4)];rfl
theorem zg2(h:Hp):∀ (n i:Nat),(∀ j,i<=j->j<i+n->(zed h j).fault=0)->zaD h i n=Fd.none
 | 0,i,_=>rfl
 | n+1,i,hh=>by
  rw [zaD,if_neg (by have:=hh i (qan _) (by omega);simpa using this)]
  exact zg2 h n (i+1) fun j h1 h2=>hh j (by omega) (by omega)
theorem zfW(h:Hp):∀ (n i j:Nat),i<=j->j<i+n->¬(zed h j).fault=0->(∀ t,i<=t->t<j->(zed h t).fault=0)->zaD h i n=zed h j
 | 0,i,j,_,_,_,_=>by omega
 | n+1,i,j,h1,h2,hb,hg=>by
  rw [zaD];by_cases e:i=j
  . subst e;rw [if_pos hb]
  . rw [if_neg (by have:=hg i (qan _) (by omega);simpa using this)]
    exact zfW h n (i+1) j (by omega) (by omega) hb fun t t1 t2=>hg t (by omega) t2
theorem ztz{pw:Int}(hp:0<=pw){k j:Nat}{n:Int}(h1:k<=j)(h2:(j:Int)<k+n){t:Nat}(ht:(t:Int)<pw):4096+(k:Int)*pw<=4096+(j:Int)*pw+t/\4096+(j:Int)*pw+t<4096+(k:Int)*pw+n*pw:=by
 have a:=qaV (show (k:Int)<=j by omega) hp
 have b:=qaV (show (j:Int)+1<=k+n by omega) hp
 rw [qbg,qbk,qbg]at b;omega
theorem zmb{h:Hp}(hok:okH h=true){k:Nat}(hk:k<=h.pages.length)(hn:∀ j,j<k->zzo h j):∀ j,j<k->(zed h j).fault=0:=fun j hj=>by
 obtain ⟨p1,p2,p3,-⟩:=zam hok;have c:=zaj p1;obtain ⟨n1,n2,n3,n4⟩:=hn j hj;have hy:h.pages[j]?=some h.pages[j]:=qas (by omega)
 generalize h.pages[j]=y at hy
 refine zoq n1 n2 n3 ?_;by_cases e:y.kind=3
 . obtain ⟨i,g,i1,i2,i3,i4⟩:=zvx hok hy e;have hsp:zcR h g=zat h.pw h.np g.used:=by unfold zcR;rw [if_pos i3]
   obtain ⟨-,-,-,m4⟩:=hn i (by omega)
   refine zmO hok (by omega) (zpR hok i2 (by omega) (by rw [hsp];exact i4)) fun t ht=>m4 _ ?_
   have:=ztz (pw:=h.pw) (by omega) (show i<=j by omega) i4 ht
   unfold InSp;rw [zdM i2,hsp];exact this
 . have hs1:1<=zcR h y:=by
    unfold zcR;by_cases e2:y.kind=2
    . rw [if_pos e2];exact (ziD hok hy e2).1
    . rw [if_neg e2,if_neg e];omega
   refine zmO hok (by omega) (zpR hok hy (qan _) (by omega)) fun t ht=>n4 _ ?_
   have:=ztz (pw:=h.pw) (by omega) (qan j) (show (j:Int)<j+zcR h y by omega) ht
   unfold InSp;rw [zdM hy];exact this
theorem ztH{h:Hp}(hok:okH h=true){k:Nat}(hk:k<h.pages.length)(hn:∀ j,j<k->zzo h j){F:Fd}(hF:zzI h k F):zaD h 0 h.pages.length=F/\¬F.fault=0:=by
 obtain ⟨p1,p2,p3,-⟩:=zam hok;have c:=zaj p1;have hb:=zmb hok (by omega) hn
 have key:∀ j,k<=j->j<h.pages.length->zed h j=F->¬F.fault=0->(∀ t,k<=t->t<j->(zed h t).fault=0)->zaD h 0 h.pages.length=F/\¬F.fault=0:=fun j j1 j2 e q ht=>by
  refine ⟨?_,q⟩;rw [zfW h _ 0 j (by omega) (by omega) (by rw [e];exact q) fun t t1 t2=>?_,e]
  by_cases hlt:t<k
  . exact hb t hlt
  . exact ht t (by omega) t2
 rcases hF with ⟨a,rfl⟩ | ⟨a,b,rfl⟩ | ⟨a,b,d,rfl⟩ | ⟨a,b,d,p,q1,q2,q3,rfl⟩
 . refine key k (qan _) hk ?_ (show ¬(2:Int)=0 by decide) fun t t1 t2=>by omega
   unfold zed;rw [if_pos ⟨fun e=>a (.inl e),fun e=>a (.inr e)⟩]
 . refine key k (qan _) hk ?_ (show ¬(3:Int)=0 by decide) fun t t1 t2=>by omega
   unfold zed;rw [if_neg (by rintro ⟨u,v⟩;exact a.elim u v),if_pos b]
 . refine key k (qan _) hk ?_ (show ¬(5:Int)=0 by decide) fun t t1 t2=>by omega
   unfold zed;rw [if_neg (by rintro ⟨u,v⟩;exact a.elim u v),if_neg (by simpa using b),if_pos d]
 . have hg:h.pages[k]?=some h.pages[k]:=qas hk
   generalize h.pages[k]=g at hg
   have hpg:=zdM hg;obtain ⟨s1,s2,s3⟩:=zwZ hok hg;have q1':=q1;unfold InSp at q1'
   rw [hpg]at q1'
   have hk0:0<=(k:Int)*h.pw:=qbj (by omega) (by omega)
   have hle:((k:Int)+zcR h g)*h.pw<=h.np*h.pw:=qaV (by omega) (by omega)
   rw [qbg]at hle;obtain ⟨j,t,ep,j1,t1⟩:=zop p1 (p:=p) (by omega) (by omega)
   have l1:(k:Int)*h.pw<((j:Int)+1)*h.pw:=by rw [qbg ((j:Int)),qbk];omega
   have l2:(j:Int)*h.pw<((k:Int)+zcR h g)*h.pw:=by rw [qbg ((k:Int))];omega
   have l1:=Int.lt_of_mul_lt_mul_right l1 (by omega)
   have l2:=Int.lt_of_mul_lt_mul_right l2 (by omega)
   have inS:∀ (j' s:Nat),k<=j'->(j':Int)<k+zcR h g->(s:Int)<h.pw->InSp h k (4096+(j':Int)*h.pw+s):=fun j' s a1 a2 a3=>by
    unfold InSp;rw [hpg];exact ztz (by omega) a1 a2 a3
   have three:∀ j',k<=j'->(j':Int)<k+zcR h g->SpOk h j'/\zbp h j'=0/\clsV h j' (zaK h j')=0:=fun j' a1 a2=>by
    by_cases e:j'=k
    . subst e;exact ⟨a,b,d⟩
    . have e2:g.kind=2:=qbU fun e2=>by
       unfold zcR at a2;rw [if_neg e2]at a2;split at a2 <;> omega
      have hsp:zcR h g=zat h.pw h.np g.used:=by unfold zcR;rw [if_pos e2]
      obtain ⟨y,y1,y2,y3⟩:=(ziD hok hg e2).2.2.2 j' (by omega) (by omega)
      obtain ⟨z1,z2⟩:=zxv hok y1 (.inr y2);refine ⟨.inr ?_,z1,by rw [z2];rfl⟩
      rw [zdM y1,y3];have a':=a;unfold SpOk at a'
      rw [hpg]at a'
      exact a'.resolve_left (by omega)
   have hlow:∀ (j' s:Nat),k<=j'->(j':Int)<k+zcR h g->(s:Int)<h.pw->(j'<j\/(j'=j/\s<t))->UseP h k (4096+(j':Int)*h.pw+s):=fun j' s a1 a2 a3 a4=>by
    refine q3 _ (inS j' s a1 a2 a3) ?_;rcases a4 with a4 | ⟨rfl,a4⟩
    . have:=qaV (show (j':Int)+1<=j by omega) (show 0<=h.pw by omega)
      rw [qbg,qbk]at this;omega
    . omega
   have hof:ofI h.pw h.np p=j:=by
    obtain ⟨o1,o2,o3⟩:=zs1 (p:=(j:Int)) (o:=(t:Int)) p1 (by unfold inPg;exact qad ⟨by omega,by omega,by omega,t1⟩)
    rw [ep,(zl7 p1 o1).1];exact o2
   obtain ⟨w1,w2,w3⟩:=three j (by omega) l2
   have hd:zhw h j=p:=by
    rw [ep];exact zv1 hok (by omega) (zpR hok hg (by omega) l2) t1 (by rw [<-ep];exact q2) fun s hs=>hlow j s (by omega) l2 (by omega) (.inr ⟨rfl,hs⟩)
   refine key j (by omega) (by omega) ?_ (show ¬(4:Int)=0 by decide) fun j' a1 a2=>?_
   . unfold zed;rw [if_neg (by rintro ⟨u,v⟩;exact w1.elim u v),if_neg (by simpa using w2),if_neg (by simpa using w3),hd,if_pos (by omega),hof]
   . obtain ⟨v1,v2,v3⟩:=three j' a1 (by omega)
     exact zoq v1 v2 v3 (zmO hok (by omega) (zpR hok hg a1 (by omega)) fun s hs=>hlow j' s a1 (by omega) hs (.inl a2))
end Go.VI.P
