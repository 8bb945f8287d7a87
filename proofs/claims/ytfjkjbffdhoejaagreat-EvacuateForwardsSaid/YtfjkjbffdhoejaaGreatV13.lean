import Derived.Test.YtfjkjbffdhoejaaGreatV06
import Derived.Test.YtfjkjbffdhoejaaGreatV08
import Derived.Test.YtfjkjbffdhoejaaGreatV09
import Derived.Test.YtfjkjbffdhoejaaGreatV10
import Derived.Test.YtfjkjbffdhoejaaGreatV11
import Derived.Test.YtfjkjbffdhoejaaGreatV12
set_option linter.unusedSimpArgs false
set_option linter.unusedVariables false
set_option maxRecDepth 100000
set_option maxHeartbeats 4000000
noncomputable section
namespace Go.VI
open Go
namespace P
end P
theorem zsW{α:Type}{A C:List α}{b v:α}{i:Nat}(hA:A.length=i):(A++b::C).set i v=A++v::C:=by
 subst hA;rw [List.set_append_right _ _ (qao _),qbG,List.set_cons_zero]
theorem zds.nat{ps:List PgD}{j n:Nat}(h:zds ps j n):j+n<=ps.length/\∀ m,j<=m->m<j+n->(ps.getD m PG0).1=0:=by
 obtain ⟨-,-,h3,h4⟩:=h;exact ⟨by omega,fun m a b=>by have:=h4 (m:Int) (by omega) (by omega);rwa [qac]at this⟩
theorem zvZ{ps:List PgD}{j n:Nat}(hf:zds ps j n):P.zbe (((ps.take (j+n)).drop j).map toPg)=0:=by
 rw [P.zrP,qaN];intro x hx;obtain ⟨y,hy,rfl⟩:=qav.1 hx;obtain ⟨m,hm,e⟩:=qb5.1 hy;rw [qaK,qau]at hm;rw [qcj,qcd]at e;have:=hf.nat.2 (j+m) (by omega) (by omega)
 rw [qax,qaq (by omega),qb7,e]at this
 exact qad this
theorem zst(ps:List PgD)(hl:ps.length<=100000000):Tot (fun r=>r.1.1=(P.zbe (ps.map toPg):Int)) (F_page_InUse (ps,())):=by
 rw [zpG];dsimp only
 refine zad (P:=fun r=>r.1.1=(P.zbe (ps.map toPg):Int)) (zai (fun x=>∃ k:Nat,x.1.2.1=(k:Int)/\k<=ps.length/\x.1.1=(P.zbe ((ps.map toPg).take k):Int)) (fun x=>((ps.length:Int)-x.1.2.1).toNat) ⟨0,rfl,by omega,by simp [P.zbe]⟩ ?_) fun r hr=>zab hr
 rintro ⟨⟨(n:Int),(i:Int),_⟩,_⟩ ⟨k,e,hk,e2⟩;dsimp only at e e2 ⊢
 subst e e2;have hle:=P.ziz ((ps.map toPg).take k);rw [qau]at hle;refine zac (fun h=>?_) fun h=>zab ?_
 . simp only [qab]at h;have hk:k<ps.length:=by omega
   have w2:W ((k:Int)+1)=k+1:=W_id (by omega)
   have w1:W ((P.zbe ((ps.map toPg).take k):Int)+1)=P.zbe ((ps.map toPg).take k)+1:=W_id (by omega)
   refine zae (zag.2 ⟨by omega,h⟩) (zab ?_)
   rw [w1,w2,qac];simp only [qam];refine ⟨⟨k+1,by omega,by omega,?_⟩,by omega⟩
   rw [P.zoH (zaF hk)];have:(toPg (ps.getD k PG0)).kind=(ps.getD k PG0).1:=rfl
   rw [this];cases hc:((ps.getD k PG0).1 != 0)
   . simp only [qaB]at hc;rw [if_pos hc];simp
   . simp only [qaC,ne_eq]at hc;rw [if_neg hc];simp
 . simp only [qag]at h;simp only [qal];rw [qa3 (by rw [qaj];omega)]
theorem zm9(ps:List PgD)(i:Int)(h0:0<=i)(hi:i<=ps.length)(hl:ps.length<=1000000):Tot (fun r=>zds ps i r.1.1) (F_page_freeFrom (ps,i,())):=by
 rw [zfA];dsimp only
 refine zad (P:=fun r=>zds ps i r.1.1) (zai (fun x=>zds ps i x.1.1) (fun x=>((ps.length:Int)-i-x.1.1).toNat) ⟨h0,by dsimp only;omega,by dsimp only;omega,fun j a b=>by dsimp only at b;omega⟩ ?_) fun r hr=>zab hr
 rintro ⟨⟨(n:Int),_⟩,_⟩ ⟨f1,f2,f3,f4⟩;dsimp only at f1 f2 f3 f4 ⊢
 rw [W_id (n:=i+n) (by omega),W_id (n:=n+1) (by omega)]
 refine zae (zaz fun h=>?_) (zac (fun h=>zab ?_) fun h=>zab ?_)
 . simp only [qab]at h;exact zag.2 ⟨by omega,h⟩
 . simp only [cand,qae,qab,qaz]at h;simp only [qam];exact ⟨⟨f1,by omega,by omega,fun j a b=>if c:j<i+n then f4 j a c else by rw [show j=i+n by omega];exact h.2⟩,by omega⟩
 . simp only [qal];exact ⟨f1,f2,f3,f4⟩
theorem zna(ps:List PgD)(hl:ps.length<=1000000):Tot (fun r=>RunsP ps r.1.1/\r.1.1.length<=ps.length+1) (F_page_Runs (ps,())):=by
 rw [zkr];dsimp only
 refine zad (P:=fun r=>RunsP ps r.2.1.1/\r.2.1.1.length<=ps.length+1) (zai (fun x=>0<=x.1.2.1/\x.1.2.1<=(ps.length:Int)+1/\(x.2.1.1.length:Int)<=x.1.2.1/\RunsP ps x.2.1.1) (fun x=>((ps.length:Int)+1-x.1.2.1).toNat) ⟨by simp,by dsimp only;omega,by simp,fun r hr=>by simp at hr⟩ ?_) fun r hr=>zab hr
 rintro ⟨⟨_,(i:Int),_⟩,⟨(rs:List Ag),_⟩,_⟩ ⟨h0,h1,h2,h3⟩;dsimp only at h0 h1 h2 h3 ⊢
 refine zac (fun h=>?_) fun _=>zab (by simp only [qal];exact ⟨h3,by omega⟩)
 simp only [qab]at h;refine zad (zm9 ps i h0 (by omega) hl) ?_
 rintro ⟨⟨(n:Int),_⟩,_⟩ hf;obtain ⟨f1,f2,f3,f4⟩:=id hf;dsimp only at f1 f2 f3 f4 hf ⊢
 rw [W_id (n:=i+n) (by omega),W_id (n:=i+n+1) (by omega)]
 refine zae (zaz fun _=>zak.2 (by simp only [qaJ,qbM];omega)) (zac (fun h4=>zab ?_) fun h4=>zab ?_)
 . simp only [qab]at h4;simp only [qam];refine ⟨⟨by omega,by omega,by simp;omega,fun r hr=>?_⟩,by omega⟩
   rcases qak.1 hr with hr | hr
   . exact h3 r hr
   . simp at hr;subst hr;exact ⟨by dsimp only;omega,hf⟩
 . simp only [qam];exact ⟨⟨by omega,by omega,by omega,h3⟩,by omega⟩
theorem zsu(ps:List PgD)(k:Int)(hl:ps.length<=1000000):Tot (fun r=>r.1.1 = -1\/1<=k/\zds ps r.1.1 k) (F_page_First (ps,k,())):=by
 rw [zic];dsimp only
 refine zac (fun _=>zab (.inl rfl)) fun hk=>?_
 simp only [qag]at hk;refine zad (zna ps hl) ?_;rintro ⟨⟨(rs:List Ag),_⟩,_⟩ ⟨h0,hr⟩;dsimp only at h0 hr ⊢
 refine zad (P:=fun r=>match r with
  | .inl x=>1<=k/\zds ps x.1.1 k
  | .inr _=>True) (zai (fun x=>0<=x.1.2.1/\x.1.2.1<=(rs.length:Int)) (fun x=>((rs.length:Int)-x.1.2.1).toNat) (by simp) ?_) ?_
 . rintro ⟨⟨(a:Int),(i:Int),_⟩,_⟩ ⟨i0,i1⟩;dsimp only at i0 i1 ⊢
   refine zac (fun h=>?_) fun _=>zab trivial
   simp only [qab]at h;have w1:W (i+1)=i+1:=W_id (by omega)
   rw [w1];have hb:inB i rs.length=true:=zag.2 ⟨i0,h⟩
   refine zae hb (zac (fun hc=>zab ?_) fun _=>zab ?_)
   . simp only [qab]at hc;obtain ⟨k1,k2,k3,k4,k5⟩:=h0 _ (zaJ (d:=(0,0,())) (show i.toNat<rs.length by omega))
     simp only [qal];exact ⟨by omega,k2,by omega,by omega,fun j a b=>k5 j a (by omega)⟩
   . simp only [qam];omega
 . rintro r hr;refine zaR (fun a ha=>?_) fun b hb=>zab (.inl rfl)
   subst ha;exact zab (.inr hr)
theorem zuf(ps:List PgD)(j n:Nat)(a1 a2 a3 a4:Int)(hl:ps.length<=1000000)(h1:1<=n)(hf:zds ps j n):
 Tot (fun r=>r.1.2.1=0/\r.1.1=ps.take j++((a1,a2,a3,a4,())::List.replicate (n-1) (3,a2,0,0,()))++ps.drop (j+n)) (F_page_take (ps,(j:Int),(n:Int),(a1,a2,a3,a4,()),())):=by
 obtain ⟨g1,g2⟩:=hf.nat;rw [zkq];dsimp only
 have w1:W ((ps.length:Int)-n)=ps.length-n:=W_id (by omega)
 have w2:W ((j:Int)+n)=((j+n:Nat):Int):=by rw [W_id (by omega)];omega
 have w3:W ((j:Int)+1)=j+1:=W_id (by omega)
 rw [w1,w2,w3,zaV,qaa,qac,qac];refine zac (fun h=>?_) fun _=>zae (qad (by omega)) (zad (zst _ (by rw [qaK,qau];omega)) ?_)
 . have:decide (0<=(j:Int)/\(j:Int)<=(ps.length:Int)-n)=true:=qad (by omega)
   rw [this]at h;cases h
 rintro ⟨⟨(u:Int),_⟩,_⟩ hu;have hu:u=(P.zbe (((ps.take (j+n)).drop j).map toPg):Int):=hu
 rw [zvZ hf]at hu;subst hu;refine zac (fun h=>by simp at h) fun _=>?_
 rw [zcF ps (by omega),qaa]
 dsimp only;refine zae (zag.2 ⟨by omega,by omega⟩) (zad (P:=fun r=>r.2.2.1=ps.take j++((a1,a2,a3,a4,())::List.replicate (n-1) (3,a2,0,0,()))++ps.drop (j+n)) (zai (fun x=>∃ m:Nat,x.1.1=(j:Int)+1+m/\m+1<=n/\x.2.2.1=ps.take j++((a1,a2,a3,a4,())::List.replicate m (3,a2,0,0,()))++ps.drop (j+1+m)) (fun x=>((j:Int)+n-x.1.1).toNat) ?_ ?_) fun r hr=>zab ⟨rfl,hr⟩)
 . refine ⟨0,by dsimp only;omega,h1,?_⟩
   dsimp only;have e:ps=ps.take j++ps[j]'(by omega)::ps.drop (j+1):=by rw [<-qaU,qcm]
   have e2:=congrArg (fun l=>l.set j (a1,a2,a3,a4,())) e
   rw [zsW (by rw [qau];omega)]at e2
   rw [e2];simp
 . rintro ⟨⟨(i:Int),_⟩,_,(qs:List PgD),_⟩ ⟨m,e1,e2,e3⟩;dsimp only at e1 e2 e3 ⊢
   subst e1;have hq:qs.length=ps.length:=by rw [e3];simp only [qaD,qau,qaJ,qbf,qaK];omega
   refine zac (fun h=>?_) fun h=>zab ?_
   . simp only [qab]at h;rw [W_id (n:=(j:Int)+1+m+1) (by omega)]
     refine zae (zag.2 ⟨by omega,by omega⟩) (zab ?_)
     simp only [qam];refine ⟨⟨m+1,by omega,by omega,?_⟩,by omega⟩
     rw [e3,show ((j:Int)+1+m).toNat=j+1+m by omega,qaU (show j+1+m<ps.length by omega),zsW (by simp only [qaD,qau,qaJ,qbf];omega),List.replicate_succ']
     simp [Nat.add_assoc]
   . simp only [qag]at h;simp only [qal];obtain rfl:m=n-1:=by omega
     rw [e3,show j+1+(n-1)=j+n by omega]
end Go.VI
namespace Go.VI
open Go Go.Proofs
def first{α:Type}:Tree α->Option α
 | .leaf a=>some a
 | .need _ k=>first k
 | .br _ a _=>first a
 | _=>none
def outW(o:Option Out):List Wr:=(o.getD (.ret,0,[])).2.2
def entC(E:Entry)(r:Rden E.rs×Oden E.ps):Ent:=(⟨E.f,E.sh,E.ps,E.rs,fun _=>some r⟩:Entry).ent
abbrev AdR:=Ag×Unit
abbrev AtR:=Av×Unit
abbrev SzR:=Ao×Unit
def WA(d:Pden psP)(v:Int):List Wr:=outW (first (runCode te tblP [] 46 (cAt [1,1,1,0] c81) 0 67 (hdP d v)))
theorem cA_eq(d:Pden psP)(v:Int):rcP (cAt [1,1,1,0] c81) 0 67 (hdP d v)=cond (inB d.2.1 d.1.2.2.1.length) (cond (decide (v<(d.1.2.2.1.getD d.2.1.toNat (0,0,0,0,())).2.2.1)) (some (.normal,579,WA d v)) (some (.exit 0,579,WA d v))) none:=by kernel_rfl
def ppA(d:Pden psP)(v:Int):List Wr:=frzW (WA d v++hdP d v)
def WB(d:Pden psP)(v:Int)(r:AdR):List Wr:=outW (runCode te [entC E_page_Address r] [] 46 (cAt [1,1,1,1,1,0] c81) 1 579 (ppA d v)).ev
theorem cB_eq(d:Pden psP)(v:Int):rcP (cAt [1,1,1,1,1,0] c81) 1 579 (ppA d v)=(F_page_Address (d.1.1,d.2.1,v,())).bind fun r=>some (.normal,1219,WB d v r):=by kernel_rfl
def ppB(d:Pden psP)(v:Int)(r:AdR):List Wr:=frzW (WB d v r++ppA d v)
def WC(d:Pden psP)(v:Int)(r:AdR)(q:AtR):List Wr:=outW (runCode te [entC E_object_At q] [] 46 (cAt [1,1,1,1,1,1,0] c81) 1 1219 (ppB d v r)).ev
theorem cC_eq(d:Pden psP)(v:Int)(r:AdR):rcP (cAt [1,1,1,1,1,1,0] c81) 1 1219 (ppB d v r)=(F_object_At (d.1,r.1.1,())).bind fun q=>some (.normal,1795,WC d v r q):=by kernel_rfl
def pp2(d:Pden psP)(v:Int)(r:AdR)(q:AtR):List Wr:=frzW (WC d v r q++ppB d v r)
def WY(d:Pden psP)(v:Int)(r:AdR)(q:AtR):List Wr:=(za4 te tblP ops81 46 1795 (zby ops81) none (List.range 5) (pp2 d v r q) []).ev.getD []
theorem wY_eq(d:Pden psP)(v:Int)(r:AdR)(q:AtR):(za4 te tblP ops81 46 1795 (zby ops81) none (List.range 5) (pp2 d v r q) []).ev=some (WY d v r q):=by kernel_rfl
theorem yP_eq(d:Pden psP)(v:Int)(r:AdR)(q:AtR):(zjJ 31).evs (look (frzW (WY d v r q++pp2 d v r q)))=some ():=by kernel_rfl
def xP(r:AdR)(q:AtR):Tden tsW:=(r.1.1,(q.1.1,(q.1.2.1,())),())
theorem xP_eq(d:Pden psP)(v:Int)(r:AdR)(q:AtR):(zoG tsW [.tmp 32,.tmp 35]).evs (look (frzW (WY d v r q++pp2 d v r q)))=some (xP r q):=by kernel_rfl
def WT(b:Bool)(d:Pden psP)(v:Int)(r:AdR)(q:AtR):List Wr:=(za4 te tblP ops81 46 1795 (zby ops81) none (List.range' 6 5) (kbW 36 b::frzW (WY d v r q++pp2 d v r q)) []).ev.getD []
theorem wTt_eq(d:Pden psP)(v:Int)(r:AdR)(q:AtR):(za4 te tblP ops81 46 1795 (zby ops81) none (List.range' 6 5) (kbW 36 true::frzW (WY d v r q++pp2 d v r q)) []).ev=some (WT true d v r q):=by kernel_rfl
theorem wTf_eq(d:Pden psP)(v:Int)(r:AdR)(q:AtR):(za4 te tblP ops81 46 1795 (zby ops81) none (List.range' 6 5) (kbW 36 false::frzW (WY d v r q++pp2 d v r q)) []).ev=some (WT false d v r q):=by kernel_rfl
def pp3(b:Bool)(d:Pden psP)(v:Int)(r:AdR)(q:AtR):List Wr:=frzW (WT b d v r q++(kbW 36 b::frzW (WY d v r q++pp2 d v r q)))
theorem cF_eq(d:Pden psP)(v:Int)(r:AdR)(q:AtR):rcP (cAt [1,1,1,1,1,1,1,0,1] c81) 1 (1795+64*11) (pp3 false d v r q)=some (.ret,2499,[]):=by kernel_rfl
theorem cT_eq(d:Pden psP)(v:Int)(r:AdR)(q:AtR):rcP (cAt [1,1,1,1,1,1,1,0,1] c81) 1 (1795+64*11) (pp3 true d v r q)=cond (errB (xP r q)) (some (.ret,2499,[])) (some (.normal,2499,[])):=by kernel_rfl
def pp4(d:Pden psP)(v:Int)(r:AdR)(q:AtR):List Wr:=frzW ([]++pp3 true d v r q)
def WE(d:Pden psP)(v:Int)(r:AdR)(q:AtR)(u:SzR):List Wr:=outW (runCode te [entC E_header_Size u] [] 46 (cAt [1,1,1,1,1,1,1,1] c81) 1 2499 (pp4 d v r q)).ev
theorem cE_eq(d:Pden psP)(v:Int)(r:AdR)(q:AtR):rcP (cAt [1,1,1,1,1,1,1,1] c81) 1 2499 (pp4 d v r q)=(F_header_Size (q.1.1,())).bind fun u=>some (.normal,2819,WE d v r q u):=by kernel_rfl
theorem vE_eq(d:Pden psP)(v:Int)(r:AdR)(q:AtR)(u:SzR):(zyG 4).evs (look (frzW (WE d v r q u++pp4 d v r q)))=some (IntKind.i64.wrap (v+u.1.1)):=by kernel_rfl
theorem uE_eq(d:Pden psP)(v:Int)(r:AdR)(q:AtR)(u:SzR):zct zk5 (WE d v r q u++([]++(WT true d v r q++(kbW 36 true::(WY d v r q++(WC d v r q++(WB d v r++WA d v)))))))=true:=by kernel_rfl
theorem zyz(d:Pden psP)(v:Int):zcr d v=cond (inB d.2.1 d.1.2.2.1.length) (cond (decide (v<(d.1.2.2.1.getD d.2.1.toNat (0,0,0,0,())).2.2.1)) ((F_page_Address (d.1.1,d.2.1,v,())).bind fun r=>(F_object_At (d.1,r.1.1,())).bind fun q=>
 cond (errB (xP r q)) (some (.inl (xP r q,none))) ((F_header_Size (q.1.1,())).bind fun u=>some (.inl (xP r q,some (IntKind.i64.wrap (v+u.1.1)))))) (some (.inr ()))) none:=by
 unfold zcr;rw [cA_eq];cases inB d.2.1 d.1.2.2.1.length with
 | false=>rfl
 | true=>
 cases decide (v<(d.1.2.2.1.getD d.2.1.toNat (0,0,0,0,())).2.2.1) with
 | false=>rfl
 | true=>
 simp only [qah,qaa];rw [show frzW (WA d v++hdP d v)=ppA d v from rfl,cB_eq]
 cases F_page_Address (d.1.1,d.2.1,v,()) with
 | none=>rfl
 | some r=>
 simp only [qaa];rw [show frzW (WB d v r++ppA d v)=ppB d v r from rfl,cC_eq]
 cases F_object_At (d.1,r.1.1,()) with
 | none=>rfl
 | some q=>
 simp only [qaa];rw [show frzW (WC d v r q++ppB d v r)=pp2 d v r q from rfl,wY_eq]
 simp only [qaa];rw [yP_eq];simp only [qaa];rw [xP_eq];simp only [qaa,tailP];rw [wTf_eq];simp only [qaa];rw [show frzW (WT false d v r q++(kbW 36 false::frzW (WY d v r q++pp2 d v r q)))=pp3 false d v r q from rfl,cF_eq]
 simp only [qaa];rw [wTt_eq];simp only [qaa];rw [show frzW (WT true d v r q++(kbW 36 true::frzW (WY d v r q++pp2 d v r q)))=pp3 true d v r q from rfl,cT_eq]
 cases he:errB (xP r q) with
 | true=>rfl
 | false=>
 simp only [qaf,qaa];rw [show frzW ([]++pp3 true d v r q)=pp4 d v r q from rfl,cE_eq]
 cases F_header_Size (q.1.1,()) with
 | none=>rfl
 | some u=>
 simp only [qaa];rw [vE_eq];simp only [qaa];rw [uE_eq]
 rfl
end Go.VI
namespace Go.VI
open Go
theorem zlM{α:Type}{P Q:α->Prop}{o:Option α}(h:Tot P o)(k:Tot Q o):Tot (fun r=>P r/\Q r) o:=by
 obtain ⟨r,rfl,h⟩:=h;obtain ⟨s,e,k⟩:=k;cases e;exact ⟨r,rfl,h,k⟩
namespace P
theorem zw7{ps:List Pg}{i:Nat}(hg:∀ r∈zbg ps i,r.1+r.2<(i:Int)):∀ m:Nat,(∀ t:Nat,t<m->∃ x,ps[i+t]?=some x/\x.kind=0)->zbg ps (i+m)=if m=0 then zbg ps i else zbg ps i++[((i:Int),(m:Int))]:=by
 intro m;induction m with
 | zero=>intro _;rfl
 | succ m ih=>
  intro hfree;obtain ⟨x,hx,h0⟩:=hfree m (by omega)
  rw [show i+(m+1)=i+m+1 from by omega,zcV hx,ih (fun t ht=>hfree t (by omega)),if_neg (show ¬(m+1=0) from by omega)]
  rcases Nat.eq_zero_or_pos m with hz | hp
  . subst hz;rw [if_pos rfl];rcases zgK (zbg ps i) with e | ⟨pre,r,e⟩
    . rw [e,zdL h0];simp
    . have:=hg r (by rw [e];simp)
      rw [e,zdM h0 (by omega)];simp
  . rw [if_neg (show ¬(m=0) from by omega),zde h0 (by simp only;omega)]
    simp
end P
theorem zm0(ps:List PgD)(i:Int)(h0:0<=i)(hi:i<=ps.length)(hl:ps.length<=1000000):Tot (fun r=>zds ps i r.1.1/\(i+r.1.1<ps.length->¬(ps.getD (i+r.1.1).toNat PG0).1=0)) (F_page_freeFrom (ps,i,())):=by
 rw [zfA];dsimp only
 refine zad (P:=fun r=>zds ps i r.1.1/\(i+r.1.1<ps.length->¬(ps.getD (i+r.1.1).toNat PG0).1=0)) (zai (fun x=>zds ps i x.1.1) (fun x=>((ps.length:Int)-i-x.1.1).toNat) ⟨h0,by dsimp only;omega,by dsimp only;omega,fun j a b=>by dsimp only at b;omega⟩ ?_) fun r hr=>zab hr
 rintro ⟨⟨(n:Int),_⟩,_⟩ ⟨f1,f2,f3,f4⟩;dsimp only at f1 f2 f3 f4 ⊢
 rw [W_id (n:=i+n) (by omega),W_id (n:=n+1) (by omega)]
 refine zae (zaz fun h=>?_) (zac (fun h=>zab ?_) fun h=>zab ?_)
 . simp only [qab]at h;exact zag.2 ⟨by omega,h⟩
 . simp only [cand,qae,qab,qaz]at h;simp only [qam];exact ⟨⟨f1,by omega,by omega,fun j a b=>if c:j<i+n then f4 j a c else by rw [show j=i+n by omega];exact h.2⟩,by omega⟩
 . simp only [cand,qbC,qag,qaI,ne_eq]at h;simp only [qal];exact ⟨⟨f1,f2,f3,f4⟩,fun c=>h.resolve_left (fun q=>q c)⟩
theorem zud(ps:List PgD)(hl:ps.length<=1000000):Tot (fun r=>r.1.1.map toR=P.zlW (ps.map toPg)) (F_page_Runs (ps,())):=by
 rw [zkr];dsimp only
 have hlm:(ps.map toPg).length=ps.length:=qaj ..
 refine zad (P:=fun r=>r.2.1.1.map toR=P.zlW (ps.map toPg)) (zai (fun x=>∃ j k:Nat,x.1.2.1=(k:Int)/\k<=ps.length+1/\j<=ps.length/\(j=k\/j=ps.length)/\j<=k/\(∀ r∈P.zbg (ps.map toPg) j,r.1+r.2<(k:Int))/\x.2.1.1.map toR=P.zbg (ps.map toPg) j) (fun x=>((ps.length:Int)+1-x.1.2.1).toNat) ⟨0,0,rfl,by omega,by omega,.inl rfl,by omega,fun r hr=>by simp [P.zbg]at hr,rfl⟩ ?_) fun r hr=>zab hr
 rintro ⟨⟨_,(i:Int),_⟩,⟨(rs:List Ag),_⟩,_⟩ ⟨j,k,e1,e2,e3,e4,e5,e6,e7⟩;dsimp only at e1 e7 ⊢
 subst e1;have hrl:=P.zlt (ps.map toPg) j;rw [<-e7,qaj]at hrl;refine zac (fun h=>?_) fun h=>zab ?_
 . simp only [qab]at h;obtain rfl:j=k:=by omega
   refine zad (zm0 ps j (by omega) (by omega) hl) ?_
   rintro ⟨⟨(n:Int),_⟩,_⟩ ⟨hf,hs⟩;obtain ⟨m,rfl⟩:=qaP (show 0<=n from hf.2.1)
   obtain ⟨g1,g2⟩:=zds.nat (n:=m) hf
   dsimp only at hs ⊢
   rw [W_id (n:=(j:Int)+m) (by omega),W_id (n:=(j:Int)+m+1) (by omega)]
   have hadd:=P.zw7 e6 m fun t ht=>⟨_,zaF (ps:=ps) (show j+t<ps.length by omega),g2 (j+t) (by omega) (by omega)⟩
   have hend:∃ j',j'<=ps.length/\(j'=j+m+1\/j'=ps.length)/\j'<=j+m+1/\P.zbg (ps.map toPg) j'=P.zbg (ps.map toPg) (j+m):=by
    by_cases c:j+m<ps.length
    . refine ⟨j+m+1,by omega,.inl rfl,by omega,?_⟩
      have:=hs (by omega)
      rw [show ((j:Int)+m).toNat=j+m by omega]at this
      rw [P.zcV (zaF (ps:=ps) c),P.zeD this]
    . exact ⟨j+m,by omega,.inr (by omega),by omega,rfl⟩
   obtain ⟨j',k1,k2,k3,k4⟩:=hend;have hgap:∀ r∈P.zbg (ps.map toPg) j',r.1+r.2<((j+m+1:Nat):Int):=fun r hr=>by
    rw [k4]at hr;have:=P.zpf _ (j+m) r hr
    omega
   refine zae (zaz fun _=>zak.2 (by simp only [qaJ,qbM];omega)) (zac (fun h4=>zab ?_) fun h4=>zab ?_)
   . simp only [qab]at h4;simp only [qam];refine ⟨⟨j',j+m+1,by omega,by omega,k1,k2,k3,hgap,?_⟩,by omega⟩
     rw [k4,hadd,if_neg (by omega),qa2,e7];rfl
   . simp only [qag]at h4;simp only [qam];refine ⟨⟨j',j+m+1,by omega,by omega,k1,k2,k3,hgap,?_⟩,by omega⟩
     rw [k4,hadd,if_pos (by omega),e7]
 . simp only [qag]at h;simp only [qal];rw [e7,P.zlW,hlm,show j=ps.length by omega]
theorem zsr(ps:List PgD)(k:Int)(hl:ps.length<=1000000):Tot (fun r=>r.1.1=P.zau (ps.map toPg) k) (F_page_First (ps,k,())):=by
 rw [zic];dsimp only
 rw [P.zhy];refine zac (fun h=>zab ?_) fun hk=>?_
 . simp only [qab]at h;rcases P.zfj (k:=k) (P.zlW (ps.map toPg)) with e | ⟨r,-,-,h1,-⟩
   . exact e.symm
   . omega
 simp only [qag]at hk;refine zad (zlM (zud ps hl) (zna ps hl)) ?_;rintro ⟨⟨(rs:List Ag),_⟩,_⟩ ⟨h0,-,hlen⟩;dsimp only at h0 hlen ⊢
 rw [<-h0];refine zad (P:=fun r=>match r with
  | .inl x=>x.1.1=P.zaY k (rs.map toR)
  | .inr _=>P.zaY k (rs.map toR) = -1) (zai (fun x=>∃ i:Nat,x.1.2.1=(i:Int)/\i<=rs.length/\P.zaY k ((rs.map toR).drop i)=P.zaY k (rs.map toR)) (fun x=>((rs.length:Int)-x.1.2.1).toNat) ⟨0,rfl,by omega,rfl⟩ ?_) ?_
 . rintro ⟨⟨(a:Int),(j:Int),_⟩,_⟩ ⟨i,e,hi,he⟩;dsimp only at e ⊢
   subst e;refine zac (fun h=>?_) fun h=>zab ?_
   . simp only [qab]at h;have hi:i<rs.length:=by omega
     have w1:W ((i:Int)+1)=i+1:=W_id (by omega)
     have hat:(rs.map toR)[i]?=some (toR (rs.getD i (0,0,()))):=by
      rw [qbc,qax,qaq hi];rfl
     rw [P.zkw hat]at he;rw [w1,qac];refine zae (zag.2 ⟨by omega,h⟩) (zac (fun hc=>zab ?_) fun hc=>zab ?_)
     . simp only [qab]at hc;rw [if_pos ⟨by omega,show k<=(rs.getD i (0,0,())).2.1 by omega⟩]at he
       simp only [qal];exact he
     . simp only [qag]at hc;rw [if_neg (by simp only [toR];omega)]at he
       simp only [qam];exact ⟨⟨i+1,by omega,by omega,he⟩,by omega⟩
   . simp only [qag]at h;rw [P.ziD (by rw [qaj];omega)]at he
     simp only [qal];exact he.symm
 . rintro r hr;refine zaR (fun a ha=>?_) fun b hb=>zab ?_
   . subst ha;exact zab hr
   . subst hb;exact hr.symm
theorem zes(pw np p o:Int)(hc:confB pw np=true)(h:0<=p/\p<np/\0<=o/\o<pw):F_page_Address ((pw,np,()),p,o,())=some ((4096+p*pw+o,0,()),()):=by
 have c2:=zaT.1 hc;have kp:=P.zaM (pw:=pw) (np:=np) (by rw [zaD];exact hc) (p:=p) (by omega) (by omega)
 have cp:=P.conf_prod (pw:=pw) (np:=np) (by rw [zaD];exact hc)
 rw [zmo];dsimp only
 rw [zbJ,qaa,hc,zaV,qaa,zaV,qaa];dsimp only;rw [W_id (n:=np-1) (by omega),W_id (n:=pw-1) (by omega),qad (show 0<=p/\p<=np-1 by omega),qad (show 0<=o/\o<=pw-1 by omega)]
 simp only [qbA,qaf];have v1:W (p*pw)=p*pw:=W_id (by omega)
 have v2:W (p*pw+o)=p*pw+o:=W_id (by omega)
 have v3:U (p*pw+o)=p*pw+o:=U_id (by omega)
 have v4:U (4096+(p*pw+o))=4096+(p*pw+o):=U_id (by omega)
 rw [v1,v2,v3,v4,Int.add_assoc]
end Go.VI
namespace Go.VI
open Go Go.Proofs
def itm(h:P.Hp)(a:Int):Tden tsW:=(a,(((P.atH h a).k,(P.atH h a).n,(P.atH h a).m,()),(P.atE h a,())),())
theorem zlC(h:P.Hp)(a:Int):errB (itm h a) = !decide (P.atE h a=0):=by
 show (P.atE h a != 0)=_
 by_cases e:P.atE h a=0 <;> simp [e]
def zzt(h:P.Hp)(w:Option (List Int))(L:List (Tden tsW)):Prop:=match w with
 | some l=>L=l.map (itm h)/\∀ x∈l,P.atE h x=0
 | none=>∃ (l:List Int) (a:Int),L=l.map (itm h)++[itm h a]/\(∀ x∈l,P.atE h x=0)/\P.atE h a=19
theorem zzt.cons{h:P.Hp}{w:Option (List Int)}{L:List (Tden tsW)}{a:Int}(k:zzt h w L)(ha:P.atE h a=0):zzt h (w.map (a :: ·)) (itm h a::L):=by
 cases w with
 | some l=>exact ⟨by rw [k.1];rfl,fun x hx=>by rcases qas.1 hx with rfl | hx;exact ha;exact k.2 x hx⟩
 | none=>
  obtain ⟨l,b,e1,e2,e3⟩:=k;exact ⟨a::l,b,by rw [e1];rfl,fun x hx=>by rcases qas.1 hx with rfl | hx;exact ha;exact e2 x hx,e3⟩
theorem zyX{x:Tden tsW}{L:List (Tden tsW)}(hx:errB x=false)(h:okL L=true):okL (x::L)=true:=by
 cases L with
 | nil=>rfl
 | cons y r=>simp only [okL,hx,Bool.not_false,qaY];exact h
theorem at_page{h:P.Hp}(h1:P.okH h=true){j:Nat}{o:Int}(hj:(j:Int)<h.np)(ho:0<=o/\o<h.pw):(P.atE h (4096+j*h.pw+o)=0\/P.atE h (4096+j*h.pw+o)=19)/\P.zb5 h (4096+j*h.pw+o)=P.pgAt h j/\P.ofK h.pw h.np (4096+j*h.pw+o)=o:=by
 have c:=(P.zan h1).1;obtain ⟨a1,a2,a3⟩:=P.zs6 c (p:=(j:Int)) (o:=o) (qad ⟨by omega,by omega,by omega,by omega⟩)
 obtain ⟨b1,b2,b3⟩:=P.zma c a1;rw [a2]at b1;rw [a3]at b2;refine ⟨?_,?_,b2⟩
 . unfold P.atE;rw [if_pos h1,if_pos b3];cases P.atB h (4096+j*h.pw+o) <;> simp
 . unfold P.zb5 P.pgAt;rw [b1]
theorem zyg(h:HpD)(hw:HpW h)(h1:P.okH (toHp h)=true)(j:Nat)(hj:j<h.2.2.1.length):∃ L,listP (h,(j:Int),())=some L/\L.length<=1002 /\
 ((P.zbx (toHp h) j=0/\L=(P.zaQ (toHp h) j).map (itm (toHp h))/\∀ x∈P.zaQ (toHp h) j,P.atE (toHp h) x=0)\/(P.zbx (toHp h) j=19/\∃ (l:List Int) (a:Int),L=l.map (itm (toHp h))++[itm (toHp h) a]/\(∀ x∈l,P.atE (toHp h) x=0)/\P.atE (toHp h) a=19)):=by
 have hlm:(toHp h).pages.length=h.2.2.1.length:=qaj ..
 have hin:¬((j:Int)<0\/(toHp h).pages.length<=(j:Int)):=by rw [hlm];omega
 obtain ⟨p1,p2,p3,p4,p5,p6⟩:=P.zaN (zf9 h1);have hat:(toHp h).pages[j]?=some (toPg (h.2.2.1.getD j PG0)):=zaF hj
 have hpg:P.pgAt (toHp h) (j:Int)=toPg (h.2.2.1.getD j PG0):=by
  unfold P.pgAt;rw [qac];exact P.zam hat
 have hub:=fun hk=>zwS p1 p6 hat hk
 have hsm:=fun hk=>P.zls p6 hat hk
 have hok:=P.za0.1 p6 j _ hat;have cp:=P.zaj p1;have hnp:(toHp h).np=h.1.2.1:=rfl
 have hpw:(toHp h).pw=h.1.1:=rfl
 have hjn:(j:Int)<h.1.2.1:=by rw [<-hnp];omega
 have hcB:confB h.1.1 h.1.2.1=true:=by rw [<-zaD];exact p1
 generalize hG:h.2.2.1.getD j PG0=G at hpg hub hsm hok
 obtain ⟨gk,gs,gu,gp,_⟩:=G;have hub:gk=1\/gk=2->0<=gu/\gu<=1000:=hub
 have hsm:gk=1->_:=hsm
 have hk:(P.pgAt (toHp h) (j:Int)).kind=gk:=by rw [hpg];rfl
 have hu:(P.pgAt (toHp h) (j:Int)).used=gu:=by rw [hpg];rfl
 have hkc:(gk=0\/gk=3)/\gu=0\/gk=1\/gk=2:=by
  unfold P.zbn at hok;have e:(toPg (gk,gs,gu,gp,())).kind=gk:=rfl
  have e2:(toPg (gk,gs,gu,gp,())).used=gu:=rfl
  rw [e]at hok;by_cases k0:gk=0
  . rw [if_pos k0]at hok;unfold P.zrX at hok;have:=qat hok
    rw [e2]at this;exact .inl ⟨.inl k0,this.2.1⟩
  . by_cases k1:gk=1
    . exact .inr (.inl k1)
    . by_cases k2:gk=2
      . exact .inr (.inr k2)
      . by_cases k3:gk=3
        . rw [if_neg k0,if_neg k1,if_neg k2,if_pos k3]at hok;unfold P.zd6 at hok;have:=qat (qbp.1 hok).1
          rw [e2]at this;exact .inl ⟨.inr k3,this.1⟩
        . rw [if_neg k0,if_neg k1,if_neg k2,if_neg k3]at hok;cases hok
 have step:∀ o:Nat,zcr (h,(j:Int),()) (o:Int)=cond (decide ((o:Int)<gu)) ((F_page_Address (h.1,(j:Int),(o:Int),())).bind fun r=>(F_object_At (h,r.1.1,())).bind fun q=>
  cond (errB (xP r q)) (some (.inl (xP r q,none))) ((F_header_Size (q.1.1,())).bind fun u=>some (.inl (xP r q,some (IntKind.i64.wrap ((o:Int)+u.1.1)))))) (some (.inr ())):=fun o=>by
  rw [zyz];dsimp only;rw [zag.2 ⟨by omega,by omega⟩,qah,qac]
  have:h.2.2.1.getD j (0,0,0,0,())=(gk,gs,gu,gp,()):=hG
  rw [this]
 have up:∀ (f o:Nat),gu.toNat-o<=f->(o=0\/gk=1)->o<=2000->(gk=1\/gk=2)->∃ n L,zco (zcr (h,(j:Int),())) n (o:Int)=some L/\okL L=true/\L.length<=f+1/\zzt (toHp h) (P.zcL (toHp h) j (decide (gk=2)) gu.toNat o) L:=by
  intro f;induction f with
  | zero=>
   intro o hf ho ho2 hk12;refine ⟨1,[],?_,rfl,by simp,?_⟩
   . simp only [zco];rw [step o,qai (by have:=hub hk12;omega)];rfl
   . rw [P.zcd (by omega)];exact ⟨rfl,by simp⟩
  | succ f ih=>
   intro o hf ho ho2 hk12;have hgu:=hub hk12;by_cases hlt:o<gu.toNat
   . have hop:(o:Int)<h.1.1:=by
      rcases ho with rfl | k1
      . rw [<-hpw];omega
      . have h2:=(hsm k1).2.1.2;have e2:(toPg (gk,gs,gu,gp,())).used=gu:=rfl
        rw [e2]at h2;rw [<-hpw];omega
     have hA:=zes h.1.1 h.1.2.1 (j:Int) (o:Int) hcB ⟨by omega,hjn,by omega,hop⟩
     obtain ⟨ead,-⟩:=P.zhE p1 (p:=(j:Int)) (o:=(o:Int)) (qad ⟨by omega,hjn,by omega,by rw [hpw];exact hop⟩)
     obtain ⟨e19,epo,eok⟩:=at_page h1 (j:=j) (o:=(o:Int)) hjn ⟨by omega,by rw [hpw];exact hop⟩
     have hab:=P.zmU (toHp h).pw (toHp h).np j o;rw [ead]at hab;have hq:=zfp h hw _ hab;generalize ha:4096+(j:Int)*(toHp h).pw+(o:Int)=a at *
     have ha':4096+(j:Int)*h.1.1+(o:Int)=a:=ha
     rw [ha']at hA;obtain ⟨⟨⟨⟨k',n,m,_⟩,e,_⟩,_⟩,hF,he,hH⟩:=hq;have hA2:F_page_Address (h.1,(j:Int),(o:Int),())=some ((a,0,()),()):=hA
     have ek:(P.atH (toHp h) a).k=k':=(congrArg P.Hd.k hH).symm
     have en:(P.atH (toHp h) a).n=n:=(congrArg P.Hd.n hH).symm
     have em:(P.atH (toHp h) a).m=m:=(congrArg P.Hd.m hH).symm
     have he:e=P.atE (toHp h) a:=he
     have hx:xP ((a,0,()),()) (((k',n,m,()),e,()),())=itm (toHp h) a:=by
      unfold xP itm;rw [ek,en,em,<-he]
     have hst:=step o;rw [qad (by omega),qah,hA2,qaa,hF,qaa,hx,zlC]at hst
     by_cases e0:P.atE (toHp h) a=0
     . rw [qad e0]at hst;simp only [qbA,qaf]at hst;obtain ⟨-,a2,a3,a4,a5,a6⟩:=P.zjT e0;rw [ek,en,em]at a2;rw [em]at a3 a4;rw [en]at a5 a6;rw [zdA k' n m ⟨a3,a4⟩,qaa,P.zcv a2]at hst;have w:IntKind.i64.wrap ((o:Int)+(n+1))=((o+(n.toNat+1):Nat):Int):=by
        show W _=_
        rw [W_id (by omega)];omega
       dsimp only at hst
       rw [w]at hst;have hes:errB (itm (toHp h) a)=false:=by rw [zlC,qad e0];rfl
       rcases hk12 with k1 | k2
       . obtain ⟨N,L,g1,g2,g3,g4⟩:=ih (o+(n.toNat+1)) (by omega) (.inr k1) (by omega) (.inl k1)
         have hdf:decide (gk=2)=false:=qai (by omega)
         rw [hdf]at g4;refine ⟨N+1,itm (toHp h) a::L,?_,zyX hes g2,by simp;omega,?_⟩
         . simp only [zco];rw [hst];dsimp only;rw [g1];rfl
         . rw [hdf];have hws:=P.zey (h:=toHp h) (i:=(j:Int)) (u:=gu.toNat) (o:=o) hlt (by rw [ead];exact e0)
           rw [ead,en]at hws;rw [hws];exact g4.cons e0
       . have ho0:o=0:=by omega
         subst ho0;have hdt:decide (gk=2)=true:=qad k2
         have hfull:gu=n+1:=by
          have hB:P.atB (toHp h) a=true:=by
           unfold P.atE at e0;rw [if_pos h1]at e0;split at e0
           . cases hb:P.atB (toHp h) a with
             | true=>rfl
             | false=>rw [hb]at e0;simp at e0
           . omega
          unfold P.atB at hB;rw [epo,hk,hu]at hB;rw [if_neg (by omega)]at hB
          simp only [qae,qab]at hB;have hn2:(P.atH (toHp h) a).n=P.dN (P.zaX (toHp h) a):=by unfold P.atH;rw [if_pos e0];rfl
          rw [en]at hn2;omega
         refine ⟨2,[itm (toHp h) a],?_,rfl,by simp,?_⟩
         . simp only [zco];rw [hst];dsimp only;rw [step,qai (by omega)];rfl
         . rw [hdt];have hws:=P.zgF (h:=toHp h) (i:=(j:Int)) (u:=gu.toNat) (o:=0) hlt (by rw [ead];exact e0)
           rw [ead]at hws;rw [hws];exact ⟨rfl,by simpa using e0⟩
     . rw [qai e0]at hst;simp only [Bool.not_false,qah]at hst;refine ⟨1,[itm (toHp h) a],?_,rfl,by simp,?_⟩
       . simp only [zco];rw [hst]
       . rw [P.zd4 hlt (by rw [ead];exact e0)]
         exact ⟨[],a,rfl,by simp,e19.resolve_left e0⟩
   . refine ⟨1,[],?_,rfl,by simp,?_⟩
     . simp only [zco];rw [step o,qai (by omega)];rfl
     . rw [P.zcd hlt];exact ⟨rfl,by simp⟩
 rcases hkc with ⟨k03,hu0⟩ | hk12
 . refine ⟨[],?_,by simp,.inl ?_⟩
   . unfold listP;have:zco (zcr (h,(j:Int),())) 1 ((0:Nat):Int)=some []:=by
      simp only [zco];rw [step 0,qai (by omega)];rfl
     rw [show (0:Int)=((0:Nat):Int) from rfl,zrK this];rfl
   . obtain ⟨e1,e2⟩:=P.zf3 h1 hin (by rw [hk];exact k03)
     rw [e1,e2];exact ⟨rfl,rfl,by simp⟩
 . obtain ⟨n,L,g1,g2,g3,g4⟩:=up 1001 0 (by have:=hub hk12;omega) (.inl rfl) (by omega) hk12
   refine ⟨L,?_,g3,?_⟩
   . unfold listP;rw [show (0:Int)=((0:Nat):Int) from rfl,zrK g1,qaa,g2];rfl
   . have hW:P.zeI (toHp h) (j:Int)=P.zcL (toHp h) j (decide (gk=2)) gu.toNat 0:=by
      unfold P.zeI;rw [hk,hu]
     have hnk:¬((P.pgAt (toHp h) (j:Int)).kind=0\/(P.pgAt (toHp h) (j:Int)).kind=3):=by rw [hk];omega
     rw [<-hW]at g4;cases hq:P.zeI (toHp h) (j:Int) with
     | none=>
      rw [hq]at g4;exact .inr ⟨(P.zq6 h1 hin hnk hq).1,g4⟩
     | some l=>
      rw [hq]at g4;obtain ⟨e1,e2⟩:=P.zq5 h1 hin hnk hq;rw [e1,e2];exact .inl ⟨rfl,g4.1,g4.2⟩
end Go.VI
namespace Go.VI
open Go Go.Proofs
theorem lenH_eq(d:Pden psH):lenH d=(d.1.2.2.1.length:Int):=by kernel_rfl
theorem zy2(d:Pden psH)(n v:Int):nextH d n v=IntKind.i64.wrap (v+1):=by kernel_rfl
theorem zoD{h:P.Hp}:∀ {l:List Int},(∀ x∈l,P.atE h x=0)->zeo (l.map (itm h))=false
 | [],_=>rfl
 | [a],hl=>by
  show errB (itm h a)=false
  rw [zlC,qad (hl a (by simp))];rfl
 | a::b::l,hl=>zoD (l:=b::l) fun x hx=>hl x (qaF _ hx)
def zpZ(h:P.Hp)(k:Nat):List Int:=(List.range' k (h.pages.length-k)).flatMap fun (t:Nat)=>P.zaQ h t
theorem X_listH(h:HpD)(hw:HpW h):∃ L,listH (h,())=some L/\L.length<=100000/\(
 (P.okH (toHp h)=false/\L=[xErr]) \/
 (P.okH (toHp h)=true/\P.zck (toHp h)=0/\L=(P.zbf (toHp h)).map (itm (toHp h))/\∀ x∈P.zbf (toHp h),P.atE (toHp h) x=0) \/
 (P.okH (toHp h)=true/\P.zck (toHp h)=19/\∃ (l:List Int) (a:Int),L=l.map (itm (toHp h))++[itm (toHp h) a]/\(∀ x∈l,P.atE (toHp h) x=0)/\P.atE (toHp h) a=19)):=by
 obtain ⟨⟨⟨b,_⟩,_⟩,hF,hb⟩:=zcG h hw;have hb:b=P.okH (toHp h):=hb
 subst hb;unfold listH;dsimp only;rw [hF,qaa,lenH_eq];dsimp only;cases h1:P.okH (toHp h) with
 | false=>exact ⟨[xErr],rfl,by simp,.inl ⟨rfl,rfl⟩⟩
 | true=>
 simp only [qah];have hlm:(toHp h).pages.length=h.2.2.1.length:=qaj ..
 obtain ⟨p1,p2,p3,p4,p5,p6⟩:=P.zaN (zf9 h1);have cp:=P.zaj p1;have hn64:h.2.2.1.length<=64:=by omega
 have up:∀ (f k:Nat),k+f=h.2.2.1.length->∃ L,pagesH (h,()) (h.2.2.1.length:Int) (f+1) (k:Int)=some L/\L.length<=1002*f /\
  (((∀ t,k<=t->t<h.2.2.1.length->P.zbx (toHp h) (t:Nat)=0)/\L=(zpZ (toHp h) k).map (itm (toHp h))/\∀ x∈zpZ (toHp h) k,P.atE (toHp h) x=0)\/((∃ t,k<=t/\t<h.2.2.1.length/\¬P.zbx (toHp h) (t:Nat)=0)/\∃ (l:List Int) (a:Int),L=l.map (itm (toHp h))++[itm (toHp h) a]/\(∀ x∈l,P.atE (toHp h) x=0)/\P.atE (toHp h) a=19)):=by
  intro f;induction f with
  | zero=>
   intro k hk;refine ⟨[],?_,by simp,.inl ⟨fun t h1 h2=>by omega,?_,?_⟩⟩
   . simp only [pagesH];rw [qai (by omega)];rfl
   . unfold zpZ;rw [show (toHp h).pages.length-k=0 by omega];rfl
   . unfold zpZ;rw [show (toHp h).pages.length-k=0 by omega];simp
  | succ f ih=>
   intro k hk;obtain ⟨Lp,q1,q2,q3⟩:=zyg h hw h1 k (by omega)
   have w:IntKind.i64.wrap ((k:Int)+1)=((k+1:Nat):Int):=by
    show W _=_
    rw [W_id (by omega)];omega
   have hst:pagesH (h,()) (h.2.2.1.length:Int) (f+1+1) (k:Int)=cond (zeo Lp) (some Lp) ((pagesH (h,()) (h.2.2.1.length:Int) (f+1) ((k+1:Nat):Int)).map (Lp ++ ·)):=by
    rw [pagesH,qad (by omega),qah]
    dsimp only;rw [q1,qaa,zy2,w]
   rcases q3 with ⟨e0,eL,eA⟩ | ⟨e19,l,a,eL,eA,ea⟩
   . obtain ⟨L,g1,g2,g3⟩:=ih (k+1) (by omega)
     rw [eL,zoD eA,qaf,g1,<-eL]at hst;have hfr:zpZ (toHp h) k=P.zaQ (toHp h) (k:Nat)++zpZ (toHp h) (k+1):=by
      unfold zpZ;rw [show (toHp h).pages.length-k=((toHp h).pages.length-(k+1))+1 by omega,qcs];rfl
     refine ⟨Lp++L,hst,by simp;omega,?_⟩
     rcases g3 with ⟨z1,z2,z3⟩ | ⟨⟨t,t1,t2,t3⟩,l,a,z2,z3,z4⟩
     . refine .inl ⟨fun t t1 t2=>?_,by rw [hfr,qa2,eL,z2],fun x hx=>?_⟩
       . by_cases hh:t=k
         . subst hh;exact e0
         . exact z1 t (by omega) t2
       . rw [hfr]at hx;rcases qak.1 hx with hx | hx
         . exact eA x hx
         . exact z3 x hx
     . refine .inr ⟨⟨t,by omega,t2,t3⟩,P.zaQ (toHp h) (k:Nat)++l,a,by rw [eL,z2];simp,fun x hx=>?_,z4⟩
       rcases qak.1 hx with hx | hx
       . exact eA x hx
       . exact z3 x hx
   . have he:zeo Lp=true:=by
      rw [eL,zec,zlC,qai (by omega)];rfl
     rw [he,qah]at hst;exact ⟨Lp,hst,by omega,.inr ⟨⟨k,by omega,by omega,by omega⟩,l,a,eL,eA,ea⟩⟩
 obtain ⟨L,g1,g2,g3⟩:=up h.2.2.1.length 0 (by omega)
 have hf0:zpZ (toHp h) 0=P.zbC (toHp h) (toHp h).pages.length:=by
  unfold zpZ P.zbC;rw [List.range_eq_range',Nat.sub_zero]
 refine ⟨L,g1,by omega,.inr ?_⟩
 rcases g3 with ⟨z1,z2,z3⟩ | ⟨⟨t,t1,t2,t3⟩,l,a,z2,z3,z4⟩
 . obtain ⟨s1,s2⟩:=P.zlQ h1 (fun t ht=>z1 t (by omega) (by rw [<-hlm];exact ht))
   refine .inl ⟨trivial,s1,?_,?_⟩
   . rw [s2,<-hf0];exact z2
   . rw [s2,<-hf0];exact z3
 . obtain ⟨s1,s2⟩:=P.zqS h1 (by rw [hlm];exact t2) t3
   exact .inr ⟨trivial,s1,l,a,z2,z3,z4⟩
end Go.VI
namespace Go.VI
open Go Go.Proofs
abbrev LS:=Unit×A9×A9×Ao×AU×Unit
def lf(kp:A7×Unit->Option A5)(y:Tden tsW)(x:LS):Option (LS⊕LS) :=
 bif y.2.1.2.1 != 0 then some (Sum.inr ((),(x.2.1.1,()),([],()),(y.2.1.2.1,()),((),()),()))
 else (kp ((y.2.1.1.1,y.2.1.1.2.1,y.2.1.1.2.2.1,()),())).bind fun (r:A5)=>
  bif bif r.1.1 then zaA (x.2.1.1.length + [y.1].length) 8 else true then
   bif r.1.1 then some (Sum.inl ((),(x.2.1.1++[y.1],()),(x.2.2.1.1,()),(x.2.2.2.1.1,()),((),()),()))
   else some (Sum.inl ((),(x.2.1.1,()),(x.2.2.1.1,()),(x.2.2.2.1.1,()),((),()),()))
  else none
theorem lf_ok{h:P.Hp}{kp:A7×Unit->Option A5}{kb:Int->Bool}(hk:∀ k n m,kp ((k,n,m,()),())=some ((kb k,()),())){R:List (Tden tsW)}:∀ (l acc:List Int) (c:List Int) (e:Int),(∀ x∈l,P.atE h x=0)->acc.length+l.length<=200000 ->
 ziB (lf kp) (l.map (itm h)++R) ((),(acc,()),(c,()),(e,()),((),()),())=ziB (lf kp) R ((),(acc++l.filter (fun a=>kb (P.atH h a).k),()),(c,()),(e,()),((),()),())
 | [],acc,c,e,_,_=>by simp
 | a::l,acc,c,e,ha,hl=>by
  have h0:=ha a (by simp)
  have he:(P.atE h a != 0)=false:=by rw [h0];rfl
  have hst:lf kp (itm h a) ((),(acc,()),(c,()),(e,()),((),()),())=some (.inl ((),(acc++[a].filter (fun a=>kb (P.atH h a).k),()),(c,()),(e,()),((),()),())):=by
   unfold lf itm;dsimp only;rw [he,qaf,hk,qaa];have hs:zaA (acc.length+1) 8=true:=zak.2 (by simp at hl;omega)
   cases hb:kb (P.atH h a).k with
   | true=>simp [hs,hb]
   | false=>simp [hb]
  simp only [qaX,qaM,ziB];rw [hst];dsimp only;rw [lf_ok hk l _ c e (fun x hx=>ha x (by simp [hx])) (by have:=qbH (fun a=>kb (P.atH h a).k) [a];simp at hl this ⊢;omega)]
  rw [qaR,<-List.filter_append];rfl
theorem zzJ{h:P.Hp}{kp:A7×Unit->Option A5}{kb:Int->Bool}(hk:∀ k n m,kp ((k,n,m,()),())=some ((kb k,()),())){l:List Int}(hl:∀ x∈l,P.atE h x=0)(hn:l.length<=200000):
 ziB (lf kp) (l.map (itm h)) ((),([],()),([],()),(0,()),((),()),())=some (.inl ((),(l.filter (fun a=>kb (P.atH h a).k),()),([],()),(0,()),((),()),())):=by
 have:=lf_ok hk (R:=[]) l [] [] 0 hl (by simpa using hn)
 rw [qaW]at this;rw [this];rfl
theorem zzI{h:P.Hp}{kp:A7×Unit->Option A5}{kb:Int->Bool}(hk:∀ k n m,kp ((k,n,m,()),())=some ((kb k,()),())){l:List Int}{y:Tden tsW}(hy:y.2.1.2.1≠0)(hl:∀ x∈l,P.atE h x=0)(hn:l.length<=200000):
 ziB (lf kp) (l.map (itm h)++[y]) ((),([],()),([],()),(0,()),((),()),())=some (.inr ((),(l.filter (fun a=>kb (P.atH h a).k),()),([],()),(y.2.1.2.1,()),((),()),())):=by
 rw [lf_ok hk (R:=[y]) l [] [] 0 hl (by simpa using hn)]
 have:(y.2.1.2.1 != 0)=true:=by simpa using hy
 simp only [ziB,lf,this,qah,qaS]
theorem anyK(k n m:Int):F_walk_isAny ((k,n,m,()),())=some ((true,()),()):=by rw [zpw]
theorem objK(k n m:Int):F_walk_isObject ((k,n,m,()),())=some ((k != 0,()),()):=by rw [zkU]
theorem objs_eq(h:P.Hp)(l:List Int):l.filter (fun a=>(P.atH h a).k != 0)=P.zca h l:=by
 unfold P.zca;congr 1
 funext a
 by_cases e:(P.atH h a).k=0 <;> simp [e]
theorem zwl(h:HpD)(hw:HpW h):F_walk_list_c_walk_inHeap_S1_walk_isObject (h,())=some ((P.zaf (toHp h),P.zck (toHp h),()),(h,())):=by
 have hnf:F_walk_list_c_walk_inHeap_S1_walk_isObject (h,())=((listH (h,())).bind fun L=>ziB (lf F_walk_isObject) L ((),([],()),([],()),(0,()),((),()),())).bind fun r=>Sum.elim (fun (x:LS)=>some ((x.2.1.1,0,()),(h,()))) (fun (y:LS)=>some ((y.2.2.1.1,y.2.2.2.1.1,()),(h,()))) r:=by
  rw [zbD];rfl
 obtain ⟨L,h1,h2,h3⟩:=X_listH h hw;rw [hnf,h1,qaa];rcases h3 with ⟨b1,b2⟩ | ⟨b1,b2,b3,b4⟩ | ⟨b1,b2,l,a,b3,b4,b5⟩
 . obtain ⟨e1,e2⟩:=P.zof b1;rw [b2];unfold P.zaf;rw [e1,e2];rfl
 . rw [b3,zzJ (kb:=fun k=>k != 0) objK b4 (by rw [b3]at h2;simp at h2;omega),qaa,b2]
   rw [objs_eq];rfl
 . rw [b3,zzI (kb:=fun k=>k != 0) objK (y:=itm (toHp h) a) (by show P.atE (toHp h) a≠0;omega) b4 (by rw [b3]at h2;simp at h2;omega),qaa]
   have hV:P.zbf (toHp h)=[]:=by unfold P.zck at b2;unfold P.zbf;rw [if_pos b1]at b2 ⊢;split at b2 <;> simp_all
   unfold P.zaf;rw [hV,b2];show some (([],P.atE (toHp h) a,()),(h,()))=_
   rw [b5];rfl
theorem zhe(h:HpD)(hw:HpW h):F_walk_Objects (h,())=some ((P.zaf (toHp h),P.zck (toHp h),()),()):=by
 rw [zmf];dsimp only
 try rw [zas]
 rw [znC];dsimp only;rw [qaa];dsimp only;rw [zwl h hw];rfl
theorem zmW(h:HpD)(hw:HpW h)(i:Int):F_walk_Page (h,i,())=some ((P.zaQ (toHp h) i,P.zbx (toHp h) i,()),()):=by
 rw [zrc];dsimp only
 try rw [zas]
 obtain ⟨⟨⟨b,_⟩,_⟩,hF,hb⟩:=zcG h hw;have hb:b=P.okH (toHp h):=hb
 subst hb;rw [hF,qaa];dsimp only;cases h1:P.okH (toHp h) with
 | false=>
  obtain ⟨e1,e2⟩:=P.zpq (i:=i) h1
  rw [e1,e2];rfl
 | true=>
 simp only [qbA,qaf];have hlm:(toHp h).pages.length=h.2.2.1.length:=qaj ..
 by_cases hr:i<0\/(h.2.2.1.length:Int)<=i
 . obtain ⟨e1,e2⟩:=P.zpp (i:=i) h1 (by rw [hlm];exact hr)
   rw [e1,e2];rcases hr with hr | hr
   . rw [qad hr];rfl
   . by_cases hi:i<0
     . rw [qad hi];rfl
     . rw [qai hi,qad (show i >= (h.2.2.1.length:Int) from hr)];rfl
 rw [qai (show ¬i<0 by omega),qai (show ¬i >= (h.2.2.1.length:Int) by omega),znB]
 dsimp only;simp only [qaf,qaa];obtain ⟨j,rfl⟩:=qaP (show 0<=i by omega)
 have hnf:F_walk_list_c_walk_inPage_S1_walk_isAny (h,(j:Int),())=((listP (h,(j:Int),())).bind fun L=>ziB (lf F_walk_isAny) L ((),([],()),([],()),(0,()),((),()),())).bind fun r=>Sum.elim (fun (x:LS)=>some ((x.2.1.1,0,()),(h,(j:Int),()))) (fun (y:LS)=>some ((y.2.2.1.1,y.2.2.2.1.1,()),(h,(j:Int),()))) r:=by
  rw [zbP];rfl
 obtain ⟨L,g1,g2,g3⟩:=zyg h hw h1 j (by omega)
 try rw [zas]
 rw [hnf,g1,qaa];rcases g3 with ⟨b2,b3,b4⟩ | ⟨b2,l,a,b3,b4,b5⟩
 . rw [b3,zzJ anyK b4 (by rw [b3]at g2;simp at g2;omega),qaa,b2]
   simp
 . rw [b3,zzI anyK (y:=itm (toHp h) a) (by show P.atE (toHp h) a≠0;omega) b4 (by rw [b3]at g2;simp at g2;omega),qaa]
   have hV:P.zaQ (toHp h) j=[]:=by
    unfold P.zbx at b2;unfold P.zaQ
    rw [if_pos h1]at b2 ⊢
    split at b2
    . omega
    . rename_i q;rw [if_neg q];split at b2
      . omega
      . rename_i q2;rw [if_neg q2];cases hq:P.zeI (toHp h) j with
        | none=>rfl
        | some l=>rw [hq]at b2;simp at b2
   rw [hV,b2];show some (([],P.atE (toHp h) a,()),())=_
   rw [b5]
end Go.VI
namespace Go.VI
open Go Go.Proofs
abbrev CnT:=Int×Int×Int×Int×Int×Unit
abbrev CS:=Unit×Unit×CnT×Ao×CnT×Unit
end Go.VI
namespace Go.VI
open Go Go.Proofs
theorem zhf(l:List Int)(a:Int)(hl:l.length<=100000000):Tot (fun r=>decide (r.1.1 >= 0)=decide (a∈l)) (F_slices_Index_uint64 (l,a,())):=by
 rw [zcP];dsimp only
 refine zad (P:=fun r=>match r with
  | .inl x=>0<=x.1.1/\a∈l
  | .inr _=>¬a∈l) (zai (fun x=>∃ k:Nat,x.1.2.1=(k:Int)/\k<=l.length/\¬a∈l.take k) (fun x=>((l.length:Int)-x.1.2.1).toNat) ⟨0,rfl,by omega,by simp⟩ ?_) ?_
 . rintro ⟨⟨(b:Int),(k':Int),_⟩,_⟩ ⟨k,e1,e2,e3⟩;dsimp only at e1 ⊢
   subst e1;refine zac (fun h4=>?_) fun h4=>zab ?_
   . simp only [qab]at h4;have hk:k<l.length:=by omega
     have w:W ((k:Int)+1)=((k+1:Nat):Int):=by rw [W_id (by omega)];omega
     rw [w,qac];refine zae (zag.2 ⟨by omega,h4⟩) (zac (fun h5=>zab ?_) fun h5=>zab ?_)
     . simp only [qaz]at h5;simp only [qal];exact ⟨by omega,by rw [h5];exact zaJ hk⟩
     . simp only [qaI,ne_eq]at h5;simp only [qam];refine ⟨⟨k+1,rfl,by omega,?_⟩,by omega⟩
       rw [P.zbd (getD_some hk),qak,qaE];rintro (c | c)
       . exact e3 c
       . exact h5 c
   . simp only [qag]at h4;simp only [qal];rwa [qa3 (by omega)]at e3
 . rintro r hr;refine zaR (fun x hx=>?_) fun y hy=>zab ?_
   . subst hx;exact zab (by rw [qad hr.2];exact qad hr.1)
   . subst hy;exact (qai hr).symm
theorem zs7(h:P.Hp):(P.zaf h).length<=4096:=by
 unfold P.zaf P.zca;exact qaA (qbH _ _) (P.zcj h)
end Go.VI
namespace Go.VI
open Go
theorem zmR{n:Nat}(hl:n<=100000000):∀ b,b<=1000->zaA (0+n) b=true:=fun b hb=>zak.2 (by
 rw [qaH];calc n*b<=100000000*1000:=Nat.mul_le_mul hl hb
  _<=_:=by decide)
theorem zbX(l:List Int)(hl:l.length<=100000000):F_slices_Clone_uint64 (l,())=some ((l,()),()):=by
 unfold F_slices_Clone_uint64 zfC;show cond (zaA (0+l.length) _) _ _=_
 rw [zmR hl _ (by decide)];rfl
theorem ziS(l:List Int)(hl:l.length<=100000000):F_slices_Clone_int (l,())=some ((l,()),()):=by
 unfold F_slices_Clone_int zfC;show cond (zaA (0+l.length) _) _ _=_
 rw [zmR hl _ (by decide)];rfl
theorem zbz(l:List Int)(a:Int)(hl:l.length<=100000000):F_slices_Contains_uint64 (l,a,())=some ((decide (a∈l),()),()):=by
 rw [zel];dsimp only
 obtain ⟨r,h1,h2⟩:=zhf l a hl;rw [h1,qaa,h2]
theorem zhI(l:List Int)(a:Int)(hl:l.length<=100000000):F_slices_Contains_int (l,a,())=some ((decide (a∈l),()),()):=by
 rw [zfN];dsimp only
 obtain ⟨r,h1,h2⟩:=zhf l a hl;have:F_slices_Index_int=F_slices_Index_uint64:=by rw [zho,zcP]
 rw [this,h1,qaa,h2]
structure WkL (d:WkD):Prop where
 w:d.1.2.1.length<=100000000
 p:d.1.2.2.1.length<=100000000
 o:d.2.1.length<=100000000
 t:d.2.2.1.length<=100000000
 q:d.2.2.2.1.length<=100000000
theorem zcg(d:WkD)(h:WkL d):F_evacuate_owned (d,())=some ((d,()),()):=by
 obtain ⟨⟨c,ws,ps,sp,bu,_⟩,old,taken,queue,sc,rp,_⟩:=d;rw [zjD];dsimp only
 rw [zbX ws h.w,qaa,zcF ps h.p,qaa,zbX old h.o,qaa,ziS taken h.t,qaa,zbX queue h.q,qaa]
theorem znc(x:Nat)(hx:x<18446744073709551616):F_header_Target ((x:Int),())=some ((P.tgtV x,P.okT x,()),()):=by
 rw [zkY];dsimp only
 obtain ⟨⟨⟨(l:List Int),(e:Int),_⟩,_⟩,hr,h1,h2⟩:=ziY x hx [2,32] (by simp)
 dsimp only at h1 h2
 rw [hr,qaa];dsimp only
 have hfit:P.fitL 64 [2,32]=true:=rfl
 unfold P.unpV at h1;unfold P.unpE at h2;rw [if_pos hfit]at h1 h2;have hs:P.sumW [2,32]=34:=rfl
 rw [hs,qbS]at h1 h2;by_cases hx:x<17179869184
 . have h0:x / 2 ^ 34=0:=Nat.div_eq_of_lt hx
   rw [if_pos h0]at h1 h2;have hu:P.zkQ x [2,32]=[((x % 4:Nat):Int),((x / 4 % 4294967296:Nat):Int)]:=by
    simp only [P.zkQ];have e1:x &&& P.zfL 2=x % 4:=by
     unfold P.zfL;rw [show min ((2:Int).toNat) 64=2 from rfl,qch]
    have e2:(x >>> (2:Int).toNat) &&& P.zfL 32=x / 4 % 4294967296:=by
     unfold P.zfL;rw [show min ((32:Int).toNat) 64=32 from rfl,qch,show (2:Int).toNat=2 from rfl,qbS]
    rw [e1,e2]
   rw [hu]at h1;rw [h1,h2];simp only [qaJ,qbM];rw [zag.2 (show (0:Int)<=0/\(0:Int)<((0+1+1:Nat):Int) by omega),zag.2 (show (0:Int)<=1/\(1:Int)<((0+1+1:Nat):Int) by omega)]
   simp only [show Int.toNat 0=0 from rfl,show Int.toNat 1=1 from rfl,List.getD_cons_zero,List.getD_cons_succ]
   rw [show ((0:Int) != 0)=false from rfl,qaf]
   have hq:x / 4 % 4294967296=x / 4:=Nat.mod_eq_of_lt (by omega)
   by_cases h4:x % 4=2
   . have ho:P.okT x=true:=by unfold P.okT;simp [h4];omega
     rw [show (((x % 4:Nat):Int) != 2)=false from by rw [h4];rfl]
     unfold P.tgtV;rw [ho,if_pos rfl,hq];rfl
   . have ho:P.okT x=false:=by unfold P.okT;simp [h4]
     rw [show (((x % 4:Nat):Int) != 2)=true from qaC.2 (by omega)]
     unfold P.tgtV;rw [ho];rfl
 . have h0:¬x / 2 ^ 34=0:=by
    intro q;rw [Nat.div_eq_zero_iff]at q;omega
   rw [if_neg h0]at h1 h2;have ho:P.okT x=false:=by unfold P.okT;simp;omega
   rw [h1,h2];unfold P.tgtV;rw [ho];rfl
theorem zld(a:Int)(ha:0<=a/\a<18446744073709551616):F_header_Forward (a,())=some ((P.fwdV a,P.fwdE a,()),()):=by
 rw [zjC];dsimp only
 rw [zfq,qaa];have o:P.zf8 32=4294967295:=rfl
 dsimp only;rw [o];unfold P.fwdV P.fwdE;by_cases h:a<4294967296
 . rw [qai (show ¬a > 4294967295 by omega),if_pos h,if_pos h]
   obtain ⟨n,rfl⟩:∃ n:Nat,a=n:=⟨a.toNat,by omega⟩
   obtain ⟨⟨⟨(v:Int),(e:Int),_⟩,_⟩,hr,h1,h2⟩:=zuh [(2,2),(32,n)] (by simp) (by
    intro f hf;simp only [qas,List.not_mem_nil,or_false]at hf;rcases hf with rfl | rfl <;> dsimp only <;> omega)
   have hr:F_bits_Pack ([(2,2,()),(32,(n:Int),())],())=some ((v,e,()),()):=hr
   have hok:P.okF [(2,2),(32,n)]=true:=by
    unfold P.okF;have o2:P.zf8 2=3:=rfl
    simp only [qb0,List.all_nil,o2,o,Bool.and_true,qae,qab];omega
   rw [P.zuP (by rfl) hok]at h1 h2
   dsimp only at h1 h2
   rw [hr,h1,h2];simp only [P.zkT];have e1:((0:Nat) <<< (32:Int).toNat ||| n)=n:=by simp
   have e2:(n <<< (2:Int).toNat ||| 2)=n*4+2:=by
    rw [show (2:Int).toNat=2 from rfl,<-Nat.shiftLeft_add_eq_or_of_lt (by omega),Nat.shiftLeft_eq]
   rw [e1,e2];refine congrArg (fun z:Int=>(some ((z,0,()),()):Option Ad)) ?_
   omega
 . rw [qad (show a > 4294967295 by omega),if_neg h,if_neg h];rfl
theorem zqu(ws:List Int)(a v:Int)(hl:ws.length<=100000000)(ha:0<=a/\a<18446744073709551616):F_arena_Store (ws,a,v,())=some ((P.zaI ws a [v],P.zdI ws a [v],()),()):=by
 rw [znS];dsimp only
 rw [zqt ws a [v] hl (by simp) ha,qaa]
theorem zsx(ws:List Int)(t f:Int)(n:Nat)(hl:ws.length<=100000000)(hn:n<=100000000)(ht:0<=t/\t<18446744073709551616)(hf:0<=f/\f<18446744073709551616):
 F_arena_Move (ws,t,f,(n:Int),())=some ((P.zdy ws t f n,P.zvU ws t f n,()),()):=by
 rw [zpL];dsimp only
 rw [zdb ws t n hl hn ht,qaa];dsimp only;unfold P.zdy P.zvU;rw [if_neg (show ¬(n:Int)<0 by omega),if_neg (show ¬(n:Int)<0 by omega),qac]
 cases h1:P.okA ws.length t n
 . rfl
 rw [zdb ws f n hl hn hf,qaa];dsimp only;cases h2:P.okA ws.length f n
 . rfl
 rw [ze2 ws hl,qaa];have a1:=P.zav.1 h1;have a2:=P.zav.1 h2;simp only [if_true,and_self];obtain ⟨i,hi⟩:∃ i:Nat,t-4096=(i:Int):=⟨(t-4096).toNat,by omega⟩
 obtain ⟨j,hj⟩:∃ j:Nat,f-4096=(j:Int):=⟨(f-4096).toNat,by omega⟩
 rw [hi,hj,W_id (n:=(j:Int)+n) (by omega)]
 simp only [qac];rw [qad (show 0<=(i:Int)/\(i:Int)<=ws.length/\(ws.length:Int)<=ws.length by omega),qad (show 0<=(j:Int)/\(j:Int)<=(j:Int)+n/\(j:Int)+n<=ws.length by omega),show ((ws.length:Int)-(i:Int)).toNat=ws.length-i from by omega,show ((j:Int)+n-j).toNat=n from by omega]
 have hlen:((ws.drop j).take n).length=n:=by rw [qau,qaK];omega
 rw [qa3 (l:=(ws.drop j).take n) (by omega),show min ((ws.drop j).take n).length (ws.length-i)=((ws.drop j).take n).length from by omega]
 have:Go.splice ws i ((ws.drop j).take n)=ws.take i++((ws.drop j).take n++ws.drop (i+((ws.drop j).take n).length)):=rfl
 rw [this];rfl
end Go.VI
namespace Go.VI
open Go
theorem zbk(h:HpD)(hs:0<=h.2.2.2.1/\h.2.2.2.1<=1):F_evacuate_newSpace (h,())=some ((1-h.2.2.2.1,()),()):=by
 rw [zgX];dsimp only
 rw [W_id (by omega)]
theorem zc2(h:HpD)(i:Int):F_evacuate_isPage (h,i,())=some ((decide (0<=i/\i<h.2.2.1.length),()),()):=by
 rw [zij];dsimp only
 by_cases h0:i >= 0
 . rw [qad h0];by_cases h1:i<(h.2.2.1.length:Int)
   . rw [qad h1,qad (show 0<=i/\i<(h.2.2.1.length:Int) from ⟨h0,h1⟩)];rfl
   . rw [qai h1,qai (show ¬(0<=i/\i<(h.2.2.1.length:Int)) from fun c=>h1 c.2)];rfl
 . rw [qai h0,qai (show ¬(0<=i/\i<(h.2.2.1.length:Int)) from fun c=>h0 c.1)];rfl
def SpOK(h:HpD):Prop:=(0<=h.2.2.2.1/\h.2.2.2.1<=1)/\∀ k,k<h.2.2.1.length->0<=(h.2.2.1.getD k PG0).2.1/\(h.2.2.1.getD k PG0).2.1<=1
theorem zdY(d:WkD)(i:Int)(hs:SpOK d.1)(hl:d.2.2.1.length<=100000000)(hp:d.1.2.2.1.length<=100000000):F_evacuate_Promoted (d,i,())=some ((P.zdv (toWk d) i,()),()):=by
 obtain ⟨⟨c,ws,ps,sp,bu,_⟩,old,taken,queue,sc,rp,_⟩:=d;rw [zgY];dsimp only at hl hp ⊢
 rw [zc2,qaa,zhI taken i hl,qaa,zbk _ hs.1,qaa];dsimp only;have hpg:(toWk ((c,ws,ps,sp,bu,()),old,taken,queue,sc,rp,())).h.pages=ps.map toPg:=rfl
 have hsp:(toWk ((c,ws,ps,sp,bu,()),old,taken,queue,sc,rp,())).h.space=sp:=rfl
 have htk:(toWk ((c,ws,ps,sp,bu,()),old,taken,queue,sc,rp,())).taken=taken:=rfl
 unfold P.zdv;rw [hpg,hsp,htk];by_cases h1:0<=i/\i<(ps.length:Int)
 case neg=>
  rw [qai h1];cases hg:(ps.map toPg)[i.toNat]? with
  | none=>rfl
  | some g=>
   have hlt:=(qap.1 hg).1;rw [qaj]at hlt;rw [qai (show ¬0<=i by omega)];rfl
 rw [qad h1];obtain ⟨k,rfl⟩:=qaP h1.1;have hk:k<ps.length:=by omega
 rw [qac,zaF hk,zag.2 ⟨by omega,h1.2⟩,qad (show (0:Int)<=(k:Int) by omega)]
 dsimp only;have hsk:=hs.2 k hk;have hs0:=hs.1;dsimp only at hsk hs0
 generalize ps.getD k PG0=g at hsk ⊢
 obtain ⟨g1,g2,g3,g4,_⟩:=g;dsimp only at hsk ⊢
 have e1:(toPg (g1,g2,g3,g4,())).kind=g1:=rfl
 have e2:(toPg (g1,g2,g3,g4,())).space=g2:=rfl
 rw [e1,e2];by_cases ht:(k:Int)∈taken
 . rw [qad ht];simp only [qbA,qah,qaf,Bool.and_false]
 . rw [qai ht];by_cases hg1:g1=1
   . subst hg1;by_cases hq:g2=sp
     . rw [qad hq,show (g2 == 1-sp)=false from qaI.2 (by omega)];rfl
     . rw [qai hq,show (g2 == 1-sp)=true from qaz.2 (by omega)];rfl
   . rw [qaI.2 hg1,qai hg1];rfl
theorem zgv(d:WkD)(a:Int)(hl:d.2.2.2.1.length<=100000000):Tot (fun r=>toWk r.1.1=P.zcA (toWk d) a) (F_evacuate_keep (d,a,())):=by
 obtain ⟨⟨⟨pw,np,_⟩,ws,ps,sp,bu,_⟩,old,taken,queue,sc,⟨r0,r1,r2,r3,r4,r5,_⟩,_⟩:=d;rw [zk0];dsimp only at hl ⊢
 refine zae (zak.2 (by simp;omega)) (zab ?_)
 unfold P.zcA;rw [zkI];rfl
theorem zhL(h:HpD)(j:Nat)(hs:0<=h.2.2.2.1/\h.2.2.2.1<=1)(hj:j<h.2.2.1.length)(hp:h.2.2.1.length<=100000):
 Tot (fun r=>∃ qs:List PgD,r.2.1=(h.1,h.2.1,qs,h.2.2.2)/\qs.map toPg=P.spc (h.2.2.1.map toPg) j (P.zbR (h.2.2.1.map toPg) j) (1-h.2.2.2.1)) (F_evacuate_setSpace (h,(j:Int),())):=by
 obtain ⟨⟨pw,np,_⟩,ws,ps,sp,bu,_⟩:=h;dsimp only at hs hj hp ⊢
 rw [zgW];dsimp only
 have hlm:(ps.map toPg).length=ps.length:=qaj ..
 rw [zbk _ hs,qaa];dsimp only;have hw1:W ((j:Int)+1)=((j+1:Nat):Int):=by rw [W_id (by omega)];omega
 rw [hw1,qac];refine zae (zag.2 ⟨by omega,by omega⟩) ?_
 refine zad (P:=fun (r:Ar)=>r.2.2.1.map toPg=P.spc (ps.map toPg) j (P.zbR (ps.map toPg) j) (1-sp)) (zai (fun x=>∃ k:Nat,x.1.1=(k:Int)/\j+1<=k/\k<=ps.length/\x.2.2.1.map toPg=P.spc (ps.map toPg) j k (1-sp)/\∀ t y,j<t->t<k->(ps.map toPg)[t]?=some y->y.kind=3) (fun x=>((ps.length:Int)-x.1.1).toNat) ⟨j+1,rfl,by omega,by omega,?_,fun t y t1 t2=>by omega⟩ ?_) ?_
 . have:=P.zlr (ps:=ps.map toPg) (i:=j) (k:=j) (sp:=1-sp) (qao _) (zaF hj)
   rw [P.zqU]at this;rw [<-this,qba];rfl
 . rintro ⟨⟨(k':Int),_⟩,_,(qs:List PgD),_⟩ ⟨k,e1,e2,e3,e4,e5⟩;dsimp only at e1 e4 ⊢
   subst e1;have hql:qs.length=ps.length:=by
    have:=congrArg List.length e4
    rw [P.zsT,qaj,qaj]at this;exact this
   have hkd:k<ps.length->toPg (qs.getD k PG0)=toPg (ps.getD k PG0):=fun hk=>by
    have h8:=P.zhl (i:=j) (k:=k) (sp:=1-sp) (zaF hk)
    rw [<-e4,zaF (by omega),if_neg (by omega)]at h8
    exact Option.some.inj h8
   have w:W ((k:Int)+1)=((k+1:Nat):Int):=by rw [W_id (by omega)];omega
   rw [zc2,qaa,zbk _ hs,qaa];dsimp only;rw [w,qac];by_cases hk:k<ps.length
   . have hin:inB (k:Int) qs.length=true:=zag.2 ⟨by omega,by omega⟩
     rw [qad (show 0<=(k:Int)/\(k:Int)<(qs.length:Int) by omega),hin]
     simp only [qah];have hkk:=hkd hk;refine zac (fun h8=>zab ?_) fun h8=>zab ?_
     . simp only [qaz]at h8;simp only [qam];refine ⟨⟨k+1,rfl,by omega,by omega,?_,fun t y t1 t2 hy=>?_⟩,by omega⟩
       . rw [<-P.zlr (by omega) (zaF hk),qba,e4,<-hkk];rfl
       . by_cases ht:t=k
         . subst ht;rw [zaF hk]at hy;rw [<-Option.some.inj hy,<-hkk];exact h8
         . exact e5 t y t1 (by omega) hy
     . simp only [qaI,ne_eq]at h8;simp only [qal];rw [e4,P.zjj e2 (by rw [hlm];exact e3) e5 (fun y hy=>?_)]
       rw [zaF hk]at hy;rw [<-Option.some.inj hy,<-hkk];exact h8
   . rw [qai (show ¬(0<=(k:Int)/\(k:Int)<(qs.length:Int)) by omega)]
     simp only [qah,qaf];refine zab ?_;simp only [qal];rw [e4,P.zjj e2 (by rw [hlm];exact e3) e5 (fun y hy=>?_)]
     have:=(qap.1 hy).1
     rw [hlm]at this;omega
 . rintro ⟨_,_,(qs:List PgD),_⟩ hqs;exact zab ⟨qs,rfl,hqs⟩
abbrev CpD:=WkD×Int×Int×Int×Unit
theorem zy9{taken:List Int}(h0:¬taken=[]):∃ l,taken.getLast?=some l/\taken.getD (taken.length-1) 0=l:=by
 rcases qcg taken with e | ⟨pre,t,e⟩
 . exact absurd e h0
 . rw [qcw]at e;subst e;refine ⟨t,by simp,?_⟩
   rw [qaD,qax,qbo (by simp)];simp
theorem zgu(c:CpD)(hl:c.1.2.2.1.length<=100000):F_evacuate_copying_last (c,())=some ((c.1.2.2.1.getLast?.getD (-1),()),c,()):=by
 obtain ⟨⟨hh,old,taken,queue,sc,rp,_⟩,n,fr,to,_⟩:=c;dsimp only at hl ⊢
 rw [zeQ];dsimp only
 by_cases h0:taken=[]
 . subst h0;rfl
 . obtain ⟨l,h1,h2⟩:=zy9 h0;have hpos:0<taken.length:=List.length_pos_iff.2 h0;rw [show ((taken.length:Int) == 0)=false from qaI.2 (by omega),qaf,W_id (by omega),zag.2 ⟨by omega,by omega⟩,h1]
   rw [show ((taken.length:Int)-1).toNat=taken.length-1 by omega,h2];rfl
end Go.VI
namespace Go.VI
open Go
theorem zng(c:CpD)(hx:P.PlOK (toWk c.1))(hn:0<=c.2.1/\c.2.1<=100000):F_evacuate_copying_fits (c,())=some ((P.zcO (toWk c.1) c.2.1,()),c,()):=by
 have htk:c.1.2.2.1.length<=1000:=hx.tk
 obtain ⟨⟨⟨⟨pw,np,_⟩,ws,ps,sp,bu,_⟩,old,taken,queue,sc,rp,_⟩,n,fr,to,_⟩:=c;have hlast:∀ l,taken.getLast?=some l->∃ k:Nat,l=k/\∃ g,(ps.map toPg)[k]?=some g/\0<=g.used/\g.used<=pw:=hx.last
 have hpw:16<=pw/\pw<=64:=⟨hx.pw0,hx.pw1⟩
 dsimp only at hn htk
 rw [zeR];dsimp only
 rw [zgu _ (qaA htk (by decide)),qaa]
 dsimp only;rw [zc2,qaa];dsimp only;have hre:P.zcO (toWk (((pw,np,()),ws,ps,sp,bu,()),old,taken,queue,sc,rp,())) n=(match taken.getLast? with | some l=>decide (((ps.map toPg).getD l.toNat P.Pg.zero).used+n<=pw) | none=>false):=rfl
 rw [hre];cases hl:taken.getLast? with
 | none=>
  rw [qai (show ¬(0<=(none:Option Int).getD (-1)/\_) from fun c=>absurd c.1 (by decide))];rfl
 | some l=>
  obtain ⟨k,rfl,g,hg,g0,g1⟩:=hlast l hl;have hk:=(qap.1 hg).1;rw [qaj]at hk;rw [zaF hk]at hg;have hg:=Option.some.inj hg;simp only [qb7];rw [qad (show 0<=(k:Int)/\(k:Int)<(ps.length:Int) by omega),zag.2 ⟨by omega,by omega⟩]
  simp only [qah,qac];have hu:((ps.map toPg).getD k P.Pg.zero).used=(ps.getD k PG0).2.2.1:=by rw [zaB];rfl
  have hu2:(ps.getD k PG0).2.2.1=g.used:=by rw [<-hg];rfl
  have hw:∀ z w:Int,z=w->(some ((decide (z<=pw),()),((((pw,np,()),ws,ps,sp,bu,()),old,taken,queue,sc,rp,()),n,fr,to,()),()):Option _)=some ((decide (w<=pw),()),((((pw,np,()),ws,ps,sp,bu,()),old,taken,queue,sc,rp,()),n,fr,to,()),()):=fun z w q=>by rw [q]
  exact hw _ _ (by rw [hu,W_id (by omega)])
theorem zqq(ps:List PgD)(f sp:Int)(hp:ps.length<=100000)(hs:0<=sp/\sp<=1)(hf:f=P.zau (ps.map toPg) 1)(hf2:f = -1\/(1:Int)<=1/\zds ps f 1):
 Tot (fun r=>(f<0->r.1.2.1=2)/\(0<=f->r.1.2.1=0/\r.1.1.map toPg=P.zb6 (ps.map toPg) f sp)) (F_page_Small (ps,f,sp,())):=by
 have hspb:P.zb8 sp=true:=qad (by omega)
 rw [zpF];dsimp only
 rw [zc9,qaa,hspb];simp only [qaf,qbA];by_cases hneg:f<0
 . rw [zkq];dsimp only
   rw [zaV,qaa,qai (show ¬(0<=f/\_) from fun c=>by omega)]
   exact zab ⟨fun _=>rfl,fun c=>by omega⟩
 . obtain ⟨-,hfree⟩:=hf2.resolve_left (by omega)
   obtain ⟨K,rfl⟩:=qaP (show 0<=f by omega)
   have e2:K<ps.length:=by
    have h8:=hfree.2.2.1;omega
   refine zad (zuf ps K 1 1 sp 0 0 (by omega) (by omega) hfree) fun r hr=>zab ⟨fun c=>by omega,fun _=>⟨hr.1,?_⟩⟩
   have e:ps=ps.take K++ps[K]'e2::ps.drop (K+1):=by rw [<-qaU,qcm]
   have e':=congrArg (fun l=>l.set K ((1,sp,0,0,()):PgD)) e
   rw [zsW (by rw [qau];omega)]at e'
   have h1:r.1.1=ps.set K (1,sp,0,0,()):=by rw [hr.2,e'];simp
   obtain ⟨s1,s2,s3⟩:=P.zhZ (ps:=ps.map toPg) (sp:=sp) hs.1 hs.2 (by rw [<-hf];omega)
   rw [h1,qba,hf,s2,<-hf,qac];rfl
theorem zne(c:CpD)(hx:P.PlOK (toWk c.1)):
 Tot (fun r=>(P.zau (c.1.1.2.2.1.map toPg) 1<0->r.1.1=3)/\(0<=P.zau (c.1.1.2.2.1.map toPg) 1->r.1.1=0/\∃ qs:List PgD,r.2.1=(((c.1.1.1,c.1.1.2.1,qs,c.1.1.2.2.2),c.1.2.1,c.1.2.2.1++[P.zau (c.1.1.2.2.1.map toPg) 1],c.1.2.2.2),c.2)/\qs.map toPg=P.zb6 (c.1.1.2.2.1.map toPg) (P.zau (c.1.1.2.2.1.map toPg) 1) (1-c.1.1.2.2.2.1))) (F_evacuate_copying_take (c,())):=by
 obtain ⟨⟨⟨⟨pw,np,_⟩,ws,ps,sp,bu,_⟩,old,taken,queue,sc,rp,_⟩,n,fr,to,_⟩:=c;have hs:0<=sp/\sp<=1:=⟨hx.sp0,hx.sp1⟩
 have htk:taken.length<=1000:=hx.tk
 have hpl:ps.length<=64:=by have:=hx.np1;have e:(ps.map toPg).length=ps.length:=qaj ..;rw [<-e];exact this
 rw [zeO];dsimp only
 refine zad (zlM (zsr ps 1 (by omega)) (zsu ps 1 (by omega))) ?_
 rintro ⟨⟨(f:Int),_⟩,_⟩ ⟨hf,hf2⟩;have hf:f=P.zau (ps.map toPg) 1:=hf
 have hf2:f = -1\/(1:Int)<=1/\zds ps f 1:=hf2
 dsimp only;rw [zbk _ hs,qaa,<-hf];dsimp only;refine zad (zqq ps f (1-sp) (by omega) (by omega) hf hf2) ?_
 rintro ⟨⟨(qs:List PgD),(e:Int),_⟩,_⟩ ⟨q1,q2⟩;dsimp only at q1 q2 ⊢
 by_cases hneg:f<0
 . rw [q1 hneg];exact zab ⟨fun _=>rfl,fun c=>by omega⟩
 . obtain ⟨q3,q4⟩:=q2 (by omega)
   rw [q3];exact zac (fun c=>by simp at c) fun _=>zae (zak.2 (by simp;omega)) (zab ⟨fun c=>by omega,fun _=>⟨rfl,qs,rfl,q4⟩⟩)
end Go.VI
namespace Go.VI
open Go
theorem zkJ(pw np:Int)(ws:List Int)(ps:List PgD)(z:Ag)(old taken:List Int)(w:List Int×Int×(Int×Int×Int×Int×Int×Int×Unit)×Unit)(n fr to:Int)(hcf:confB pw np=true)(hpn:(ps.length:Int)=np)(htl:taken.length<=100000)(j:Nat)(hT:taken.getLast?=some (j:Int))(hj:j<ps.length)(hu:0<=(ps.getD j PG0).2.2.1/\(ps.getD j PG0).2.2.1+n<=pw)(hn:1<=n):
 ((F_evacuate_copying_last (((((pw,np,()),ws,ps,z),old,taken,w),n,fr,to,()),())).bind fun (r:Ao×CpD×Unit)=>
  bif inB r.1.1 r.2.1.1.1.2.2.1.length then (F_page_Address (r.2.1.1.1.1,r.1.1,(r.2.1.1.1.2.2.1.getD r.1.1.toNat PG0).2.2.1,())).bind
   fun (r_1:Ad)=>
   bif r_1.1.2.1 != 0 then some (r_1.1.2,r.2)
   else bif inB r.1.1 r.2.1.1.1.2.2.1.length then
   bif inB r.1.1 r.2.1.1.1.2.2.1.length then some ((0,()),(((r.2.1.1.1.1,r.2.1.1.1.2.1,r.2.1.1.1.2.2.1.set r.1.1.toNat ((r.2.1.1.1.2.2.1.getD r.1.1.toNat PG0).1,(r.2.1.1.1.2.2.1.getD r.1.1.toNat PG0).2.1,W ((r.2.1.1.1.2.2.1.getD r.1.1.toNat PG0).2.2.1+r.2.1.2.1),(r.2.1.1.1.2.2.1.getD r.1.1.toNat PG0).2.2.2.1,()),r.2.1.1.1.2.2.2),r.2.1.1.2),r.2.1.2.1,r.2.1.2.2.1,r_1.1.1,()),())
   else none
   else none
  else none)=some ((0,()),((((pw,np,()),ws,ps.set j ((ps.getD j PG0).1,(ps.getD j PG0).2.1,(ps.getD j PG0).2.2.1+n,(ps.getD j PG0).2.2.2.1,()),z),old,taken,w),n,fr,4096+(j:Int)*pw+(ps.getD j PG0).2.2.1,()),()):=by
 have c3:=zaT.1 hcf;rw [zgu _ htl,qaa];dsimp only;rw [hT];simp only [qb7];rw [zag.2 ⟨by omega,by omega⟩]
 simp only [qah,qac];rw [zes pw np j _ hcf (by omega),qaa]
 dsimp only;rw [W_id (by omega)];rfl
theorem zle(c:CpD)(hx:P.PlOK (toWk c.1))(hcf:confB c.1.1.1.1 c.1.1.1.2.1=true)(hpn:(c.1.1.2.2.1.length:Int)=c.1.1.1.2.1)(hn:1<=c.2.1/\c.2.1<=c.1.1.1.1):
 Tot (fun r=>(P.plB (toWk c.1) c.2.1=false->r.1.1=3)/\(P.plB (toWk c.1) c.2.1=true->r.1.1=0/\toWk r.2.1.1=P.plW (toWk c.1) c.2.1/\r.2.1.2=(c.2.1,c.2.2.1,P.plA (toWk c.1) c.2.1,()))) (F_evacuate_copying_place (c,())):=by
 have htk:c.1.2.2.1.length<=1000:=hx.tk
 have hps:=fun hb=>P.zeH (n:=c.2.1) hx hb
 have c3:=zaT.1 hcf;have hfit:=zng c hx (by omega)
 have htake:=zne c hx;obtain ⟨⟨⟨⟨pw,np,_⟩,ws,ps,sp,bu,_⟩,old,taken,queue,sc,rp,_⟩,n,fr,to,_⟩:=c;dsimp only at *
 have hlm:(ps.map toPg).length=ps.length:=qaj ..
 generalize hX:toWk (((pw,np,()),ws,ps,sp,bu,()),old,taken,queue,sc,rp,())=X at *
 have Xp:X.h.pages=ps.map toPg:=by rw [<-hX];rfl
 have Xt:X.taken=taken:=by rw [<-hX];rfl
 have Xpw:X.h.pw=pw:=by rw [<-hX];rfl
 have Xs:X.h.space=sp:=by rw [<-hX];rfl
 rw [zen];dsimp only
 rw [hfit,qaa];dsimp only;cases hc:P.zcO X n
 ·
  simp only [Bool.not_false,qah];refine zad htake ?_;rintro ⟨⟨(e:Int),_⟩,(c':CpD),_⟩ ⟨q1,q2⟩;dsimp only at q1 q2 ⊢
  by_cases hneg:P.zau (ps.map toPg) 1<0
  . rw [q1 hneg];refine zab ⟨fun _=>rfl,fun h=>?_⟩
    unfold P.plB at h;rw [hc,Xp,qai (by omega)]at h;cases h
  . obtain ⟨q3,qs,q4,q5⟩:=q2 (by omega)
    subst q4;subst q3
    have hb:P.plB X n=true:=by unfold P.plB;rw [Xp,qad (by omega),Bool.or_true]
    obtain ⟨j,y,a1,a2,a3,a4,a5,a6,a7⟩:=hps hb;obtain ⟨r1,r2,r3,r4,-⟩:=a7.resolve_left (fun h=>by rw [hc]at h;cases h.1)
    have eP:P.plPs X n=qs.map toPg:=by unfold P.plPs;rw [if_neg (by rw [hc];decide),Xp,Xs,q5]
    rw [eP]at a3 a4;rw [Xp]at r2 a2 a3;rw [qaj]at a3;have hjq:j<qs.length:=by omega
    rw [zaF hjq]at a4;have a4:=Option.some.inj a4;have hu:(qs.getD j PG0).2.2.1=0:=by
     have:(toPg (qs.getD j PG0)).used=0:=by rw [a4,r4]
     exact this
    simp only [show ((0:Int) != 0)=false from rfl,qaf]
    rw [r2];have:=zkJ pw np ws qs (sp,bu,()) old (taken++[(j:Int)]) (queue,sc,rp,()) n fr to hcf (by omega) (by simp;omega) j (by simp) hjq (by omega) hn.1
    rw [this];refine zab ⟨fun h=>absurd (h.symm.trans hb) (by decide),fun _=>⟨rfl,?_,?_⟩⟩
    . unfold P.plW;rw [a1,eP,qac];unfold P.zgS P.plT;rw [if_neg (by rw [hc];decide),zaB,Xp,Xt,r2,<-hX]
      unfold toWk toHp;dsimp only;rw [qba];rfl
    . unfold P.plA;rw [a1,eP,qac,zaB,Xpw];rfl
 ·
  simp only [qbA,qaf];have hb:P.plB X n=true:=by unfold P.plB;rw [hc];rfl
  obtain ⟨j,y,a1,a2,a3,a4,a5,a6,a7⟩:=hps hb;obtain ⟨r1,r2,r3,r4⟩:=a7.resolve_right (fun h=>by rw [hc]at h;cases h.1)
  rw [r2,Xp]at a4;rw [Xp,hlm]at a2;rw [zaF a2]at a4;have a4:=Option.some.inj a4;have hu:(ps.getD j PG0).2.2.1=y.used:=by rw [<-a4];rfl
  rw [Xt]at r3;rw [Xpw]at r4;rw [zkJ pw np ws ps (sp,bu,()) old taken (queue,sc,rp,()) n fr to hcf hpn (by omega) j r3 a2 (by omega) hn.1]
  refine zab ⟨fun h=>absurd (h.symm.trans hb) (by decide),fun _=>⟨rfl,?_,?_⟩⟩
  . unfold P.plW;rw [a1,r2,Xp,qac];unfold P.zgS P.plT;rw [if_pos hc,zaB,<-hX];unfold toWk toHp;dsimp only;rw [qba];rfl
  . unfold P.plA;rw [a1,r2,Xp,qac,zaB,Xpw];rfl
end Go.VI
namespace Go.VI
open Go
structure SeeOK (X:P.Wk) (a:Int):Prop where
 c0:¬(a=0\/a∈X.queue)
 c1:¬¬a∈X.old
 c2:¬P.okT (P.evWd X a).toNat=true
 of0:P.ofE X.h.pw X.h.np a=0
 il:P.evI X a<(X.h.pages.length:Int)
 n0:P.zeq X a=false->1<=P.evN X a/\P.evN X a<=X.h.pw
 cp:P.zeq X a=false->P.plB X (P.evN X a)=true->(0<=P.plA X (P.evN X a)/\P.plA X (P.evN X a)<4294967296)/\P.okA X.h.words.length (P.plA X (P.evN X a)) (P.evN X a).toNat=true/\P.okA X.h.words.length a (P.evN X a).toNat=true
theorem znf(w:WkD)(n:Nat)(fr to:Int)(hl:w.1.2.1.length<=100000)(hn:1<=n/\n<=100000)(ht:0<=to/\to<4294967296)(hf:0<=fr/\fr<18446744073709551616)(ka:P.okA w.1.2.1.length to n=true)(kb:P.okA w.1.2.1.length fr n=true):
 F_evacuate_copying_move ((w,(n:Int),fr,to,()),())=some ((0,()),(((w.1.1,P.zaI (P.zdy w.1.2.1 to fr n) fr [P.fwdV to],w.1.2.2),w.2),(n:Int),fr,to,()),()):=by
 rw [zeP];dsimp only
 rw [zsx w.1.2.1 to fr n (by omega) (by omega) (by omega) hf,qaa]
 have hm:P.zvU w.1.2.1 to fr n=0:=by
  unfold P.zvU;rw [if_neg (by omega),qac,if_pos ⟨ka,kb⟩]
 have hlen:(P.zdy w.1.2.1 to fr n).length=w.1.2.1.length:=P.zlw (by omega) (by rw [qac];exact ka) (by rw [qac];exact kb)
 dsimp only;rw [hm,zld to (by omega),qaa]
 have he:P.fwdE to=0:=by unfold P.fwdE;rw [if_pos ht.2]
 dsimp only;rw [he,zqu _ fr _ (by omega) hf,qaa]
 have hs:P.zdI (P.zdy w.1.2.1 to fr n) fr [P.fwdV to]=0:=by
  unfold P.zdI;have:=P.zav.1 kb
  rw [hlen,if_pos (P.zav.2 (by simp only [qbF];omega))]
 dsimp only;rw [hs];rfl
theorem zqs(w:WkD)(a:Int)(hx:P.FwOK (toWk w))(hcf:confB w.1.1.1 w.1.1.2.1=true)(hpn:(w.1.2.2.1.length:Int)=w.1.1.2.1)(ha:0<=a/\a<18446744073709551616)(hS:SeeOK (toWk w) a)(hbig:P.zeq (toWk w) a=false):
 Tot (fun r=>(P.plB (toWk w) (P.evN (toWk w) a)=false->r.1.1=3)/\(P.plB (toWk w) (P.evN (toWk w) a)=true->r.1.1=0/\toWk r.2.1.1=P.zbi (toWk w) a/\r.2.1.2.2.2.1=P.plA (toWk w) (P.evN (toWk w) a))) (F_evacuate_copying_do ((w,P.evN (toWk w) a,a,0,()),())):=by
 have n0:=hS.n0 hbig;have cp:=hS.cp hbig;have hwl:=hx.wl;have hql:=hx.ql;have hpl:=zle (w,P.evN (toWk w) a,a,0,()) hx.pl hcf hpn n0;rw [zfO];dsimp only
 refine zad hpl ?_;rintro ⟨⟨(e:Int),_⟩,⟨(w':WkD),(rest:A7)⟩,_⟩ ⟨q1,q2⟩;dsimp only at q1 q2 ⊢
 cases hb:P.plB (toWk w) (P.evN (toWk w) a)
 . rw [q1 hb];exact zab ⟨fun _=>rfl,fun h=>absurd h (by decide)⟩
 . obtain ⟨rfl,q3,rfl⟩:=q2 hb;obtain ⟨t1,ka,kb⟩:=cp hb;obtain ⟨n,hn⟩:∃ n:Nat,P.evN (toWk w) a=n:=⟨(P.evN (toWk w) a).toNat,by omega⟩
   have hpw:(toWk w).h.pw<=64:=hx.pl.pw1
   simp only [show ((0:Int) != 0)=false from rfl,qaf]
   have hw':w'.1.2.1=(toWk w).h.words:=by
    have:(toWk w').h.words=(P.plW (toWk w) (P.evN (toWk w) a)).h.words:=by rw [q3]
    exact this
   have hq':w'.2.2.2.1=(toWk w).queue:=by
    have:(toWk w').queue=(P.plW (toWk w) (P.evN (toWk w) a)).queue:=by rw [q3]
    exact this
   have hr':w'.2.2.2.2.2.1.1=(toWk w).r0:=by
    have:(toWk w').r0=(P.plW (toWk w) (P.evN (toWk w) a)).r0:=by rw [q3]
    exact this
   rw [hn]at ka kb n0 t1 ⊢
   rw [qac]at ka kb;rw [znf w' n a (P.plA (toWk w) n) (by rw [hw'];exact hwl) (by omega) t1 ha (by rw [hw'];exact ka) (by rw [hw'];exact kb),qaa]
   simp only [show ((0:Int) != 0)=false from rfl,qaf]
   refine zae (zak.2 (by rw [hq'];simp;omega)) (zab ⟨fun h=>absurd h (by decide),fun _=>⟨rfl,?_,rfl⟩⟩)
   unfold P.zbi P.zkB;rw [<-q3,hn,<-hw',<-hq',<-hr',<-zkI];rfl
end Go.VI
namespace Go.VI
open Go
theorem zn6(w:WkD)(a:Int)(hx:P.FwOK (toWk w))(hcf:confB w.1.1.1 w.1.1.2.1=true)(hpn:(w.1.2.2.1.length:Int)=w.1.1.2.1)(hsp:SpOK w.1)(ha:0<=a/\a<18446744073709551616)(hS:SeeOK (toWk w) a):
 Tot (fun r=>r.1.2.2.1=P.evE (toWk w) a/\r.1.2.1=P.evA (toWk w) a/\toWk r.1.1=P.evW (toWk w) a) (F_evacuate_see (w,a,P.evN (toWk w) a,())):=by
 have hdo:=zqs w a hx hcf hpn ha hS;have htk:w.2.2.1.length<=1000:=hx.pl.tk
 have hql:w.2.2.2.1.length<=1000000:=hx.ql
 have hlm:(w.1.2.2.1.map toPg).length=w.1.2.2.1.length:=qaj ..
 have hpl:w.1.2.2.1.length<=64:=by rw [<-hlm];exact hx.pl.np1
 have Xp:(toWk w).h.pages=w.1.2.2.1.map toPg:=rfl
 have hI:P.ofI w.1.1.1 w.1.1.2.1 a=P.evI (toWk w) a:=rfl
 have fin:∀ (e b:Int) (g:WkD) (c:Nat),P.evC (toWk w) a=c->e=(match c with | 1=>19 | 3=>19 | 6=>3 | _=>0)->b=(match c with | 0=>a | 2=>P.tgtV (P.evWd (toWk w) a).toNat | 4=>a | 5=>a | 7=>P.plA (toWk w) (P.evN (toWk w) a) | _=>0)->toWk g=(match c with | 0=>toWk w | 2=>toWk w | 4=>P.zcA (toWk w) a | 5=>P.zcA (P.zbV (toWk w) (P.evI (toWk w) a).toNat) a | 7=>P.zbi (toWk w) a | _=>P.Wk.zero) ->
  Tot (fun r:(WkD×Int×Int×Unit)×Unit=>r.1.2.2.1=P.evE (toWk w) a/\r.1.2.1=P.evA (toWk w) a/\toWk r.1.1=P.evW (toWk w) a) (some ((g,b,e,()),())):=fun e b g c hc h1 h2 h3=>by
  refine zab ?_;unfold P.evE P.evA P.evW;rw [hc];exact ⟨h1,h2,h3⟩
 have c3:¬(¬P.ofE (toWk w).h.pw (toWk w).h.np a=0\/((toWk w).h.pages.length:Int)<=P.evI (toWk w) a):=by
  have h1:=hS.of0;have h2:=hS.il;omega
 have hi0:0<=P.evI (toWk w) a:=by
  obtain ⟨_,q,_⟩:=P.zuT (pw:=(toWk w).h.pw) (np:=(toWk w).h.np) (a:=a) hS.of0
  unfold P.evI;omega
 rw [zmq];dsimp only
 have hcd:(w.1.1:Ag)=(w.1.1.1,w.1.1.2.1,()):=rfl
 rw [hcd,ziX _ _ a ha,qaa];dsimp only;rw [hI,zdY w _ hsp (by omega) (by omega),qaa]
 dsimp only;cases hpr:P.zdv (toWk w) (P.evI (toWk w) a)
 case true=>
  simp only [qah];refine zad (zgv w a (by omega)) ?_
  rintro ⟨⟨(g:WkD),_⟩,_⟩ hg;refine fin _ _ g 4 ?_ rfl rfl hg;unfold P.evC;rw [if_neg hS.c0,if_neg hS.c1,if_neg hS.c2,if_neg c3,hpr,if_pos rfl]
 simp only [qaf];have c4:¬P.zdv (toWk w) (P.evI (toWk w) a)=true:=by rw [hpr];decide
 have hil:=hS.il;rw [Xp,hlm]at hil;obtain ⟨j,hj⟩:=qaP hi0;have hjl:j<w.1.2.2.1.length:=by omega
 have hBig:P.zeq (toWk w) a=((w.1.2.2.1.getD j PG0).1 == 2):=by
  unfold P.zeq;rw [hj,qac,qa8,qab,qaz,Xp,zaB];exact Iff.rfl
 rw [hj,qac,zag.2 ⟨by omega,by omega⟩,qah,<-hBig]
 cases hb:P.zeq (toWk w) a
 . simp only [qaf];refine zad (hdo hb) ?_;rintro ⟨⟨(e:Int),_⟩,⟨(g:WkD),(n1:Int),(n2:Int),(n3:Int),_⟩,_⟩ ⟨q1,q2⟩;dsimp only at q1 q2 ⊢
   cases hp:P.plB (toWk w) (P.evN (toWk w) a)
   . rw [q1 hp];refine fin _ _ _ 6 ?_ rfl rfl zez;unfold P.evC;rw [if_neg hS.c0,if_neg hS.c1,if_neg hS.c2,if_neg c3,if_neg c4,hb,if_neg (by decide),hp,if_neg (by decide)]
   . obtain ⟨rfl,q3,rfl⟩:=q2 hp;refine fin _ _ _ 7 ?_ rfl rfl q3;unfold P.evC;rw [if_neg hS.c0,if_neg hS.c1,if_neg hS.c2,if_neg c3,if_neg c4,hb,if_neg (by decide),hp,if_pos rfl]
 . simp only [qah];refine zad (zhL w.1 j ⟨hx.pl.sp0,hx.pl.sp1⟩ hjl (by omega)) ?_
   rintro ⟨_,(h':HpD),_⟩ ⟨qs,rfl,q1⟩;refine zad (zgv _ a (by show w.2.2.2.1.length<=_;omega)) ?_
   rintro ⟨⟨(g:WkD),_⟩,_⟩ hg;refine fin _ _ g 5 ?_ rfl rfl ?_
   . unfold P.evC;rw [if_neg hS.c0,if_neg hS.c1,if_neg hS.c2,if_neg c3,if_neg c4,hb,if_pos rfl]
   . have hg:toWk g=_:=hg
     rw [hg];dsimp only;rw [hj,qac];unfold P.zbV;rw [Xp];have hs:(toWk w).h.space=w.1.2.2.2.1:=rfl
     rw [hs,<-q1];rfl
theorem ze1(h:HpD)(a:Int)(hl:h.2.1.length<=100000000)(hwb:WBo h.2.1)(ha:0<=a/\a<18446744073709551616)(he:P.zg0 h.2.1 a=0):F_evacuate_copied (h,a,())=some ((P.tgtV (P.zap h.2.1 a).toNat,P.okT (P.zap h.2.1 a).toNat,()),()):=by
 rw [zik];dsimp only
 rw [zkK h.2.1 a hl ha,qaa];dsimp only;rw [he];obtain ⟨y,hy,hy2⟩:=P.zeU hwb a;rw [hy];simp only [show ((0:Int) != 0)=false from rfl,qaf,qac]
 rw [znc y hy2,qaa]
end Go.VI
namespace Go.VI.P
open Go
theorem zgM{h:Hp}{x:Wk}{os:List Int}{D:Nat->Int->Prop}(C:CI h x os D){k:Nat}{g0:Pg}(hg:h.pages[k]?=some g0):
 ((k:Int)∈x.taken/\g0.kind=0/\∃ u,x.h.pages[k]?=some ⟨1,1-h.space,u,0⟩/\0<=u/\u<=h.pw) \/
 (¬(k:Int)∈x.taken/\∃ s,x.h.pages[k]?=some ⟨g0.kind,s,g0.used,g0.pins⟩/\(g0.kind=0->s=g0.space)/\(g0.kind≠0->s=h.space\/s=1-h.space) /\
  (g0.kind=2->s=if bs h k∈x.queue then 1-h.space else h.space)/\(g0.kind=3->s=if bs h (za5 h.pages k)∈x.queue then 1-h.space else h.space)):=by
 by_cases ht:(k:Int)∈x.taken
 . obtain ⟨k1,g1,g,e0,e1,e2,e3,e4,e5,e6⟩:=C.inv.tk _ ht;obtain rfl:k=k1:=by omega
   rw [hg]at e1;injection e1 with e1;subst e1
   obtain ⟨u,l,f1,-⟩:=C.tile k ht;rw [f1]at e3;injection e3 with e3;subst e3
   exact .inl ⟨ht,e2,u,f1,e5,e6⟩
 . obtain ⟨s,e1,e2,e3,e4,e5⟩:=C.ppg k g0 hg ht;refine .inr ⟨ht,s,e1,e2,fun h0=>?_,e4,e5⟩
   have hm:=zbT _ _ _ _ (zan C.inv.ok).2.2.2.2.2.2 g0 (qa0 hg);rcases hm.2.2.2.2.2.2.2.2 with c | c | c | c
   . exact absurd c h0
   . rw [e3 c];split
     . exact .inr rfl
     . exact .inl rfl
   . rw [e4 c];split
     . exact .inr rfl
     . exact .inl rfl
   . rw [e5 c];split
     . exact .inr rfl
     . exact .inl rfl
theorem zzG{h:Hp}{x:Wk}{os:List Int}{D:Nat->Int->Prop}(C:CI h x os D)(hbu:x.h.bump=h.bump):okH x.h=true:=by
 have I:=C.inv;have hcf:=I.conf;obtain ⟨p1,p2,p3,p4,p5,p6⟩:=zaN (h:=h) (by unfold okP;rw [zeG];exact I.ok)
 have p7:=(zan I.ok).2.2.2.2.2.2;have p8:=zan I.ok;have hsp:zb8 (1-h.space)=true:=zd7.2 (by omega)
 have hs:∀ s,s=h.space\/s=1-h.space->zb8 s=true:=fun s c=>by
  rcases c with rfl | rfl
  . exact p4
  . exact hsp
 have hcase:∀ (k:Nat) (y:Pg),x.h.pages[k]?=some y->∃ g0,h.pages[k]?=some g0:=fun k y hy=>by
  have:=(qap.1 hy).1
  rw [I.pl]at this;exact ⟨h.pages[k],qaq this⟩
 have hno2:∀ (k:Nat) (g0:Pg),h.pages[k]?=some g0->¬g0.kind=2->¬(x.h.pages.getD k Pg.zero).kind=2:=fun k g0 hg hk=>by
  rcases zgM C hg with ⟨-,-,u,e,-⟩ | ⟨-,s,e,-⟩
  . rw [zam e];show ¬(1:Int)=2;decide
  . rw [zam e];exact hk
 have hT:zbt x.h.pw x.h.np x.h.pages=true:=by
  rw [I.pw,I.np,za0];intro k y hy;obtain ⟨g0,hg⟩:=hcase k y hy;have hm:=zbT _ _ _ _ p7 g0 (qa0 hg);have hpo:=za0.1 p6 k g0 hg;rcases zgM C hg with ⟨-,-,u,e,u0,u1⟩ | ⟨hnt,s,e,s0,s1,s2,s3⟩
  . rw [e]at hy;injection hy with hy;subst hy
    unfold zbn;rw [if_neg (by show ¬(1:Int)=0;decide),if_pos (by show (1:Int)=1;rfl)]
    unfold zdj;dsimp only;rw [hsp,qad (show 0<=u/\u<=h.pw from ⟨u0,u1⟩)];decide
  . rw [e]at hy;injection hy with hy;subst hy
    rcases hm.2.2.2.2.2.2.2.2 with c | c | c | c
    . rw [s0 c];unfold zbn at hpo ⊢
      rw [if_pos c]at hpo ⊢
      exact hpo
    . unfold zbn at hpo ⊢
      rw [if_neg (by omega),if_pos c]at hpo
      rw [if_neg (by show ¬g0.kind=0;omega),if_pos (by show g0.kind=1;omega)]
      unfold zdj at hpo ⊢
      simp only [qae]at hpo ⊢;exact ⟨⟨hs s (s1 (by omega)),hpo.1.2⟩,hpo.2⟩
    . unfold zbn at hpo ⊢
      rw [if_neg (by omega),if_neg (by omega),if_pos c]at hpo
      rw [if_neg (by show ¬g0.kind=0;omega),if_neg (by show ¬g0.kind=1;omega),if_pos (by show g0.kind=2;omega)]
      unfold zcz at hpo ⊢
      simp only [qae]at hpo ⊢;obtain ⟨⟨⟨⟨o1,o2⟩,o3⟩,o4⟩,o5⟩:=hpo;refine ⟨⟨⟨⟨hs s (s1 (by omega)),o2⟩,o3⟩,by rw [I.pl];exact o4⟩,?_⟩
      obtain ⟨t1,t2,t3⟩:=zfh p7 hg c;rw [zbW];intro t z1 z2 z hz;obtain ⟨y',y1,y2,-⟩:=t3 t (by omega) (by omega)
      have hhd:za5 h.pages t=k:=by
       obtain ⟨d,rfl⟩:∃ d,t=k+d:=⟨t-k,by omega⟩
       refine zeV (by rw [zam hg];omega) d fun t2 w1 w2=>?_
       obtain ⟨y'',y1',y2',-⟩:=t3 t2 w1 (by omega)
       rw [zam y1'];exact y2'
      rcases zgM C y1 with ⟨-,w0,-⟩ | ⟨-,s',e',-,-,-,s3'⟩
      . omega
      . rw [e']at hz;injection hz with hz;subst hz
        refine ⟨y2,?_⟩;show s'=s
        rw [s3' y2,s2 c,hhd]
    . unfold zbn at hpo ⊢
      rw [if_neg (by omega),if_neg (by omega),if_neg (by omega),if_pos c]at hpo
      rw [if_neg (by show ¬g0.kind=0;omega),if_neg (by show ¬g0.kind=1;omega),if_neg (by show ¬g0.kind=2;omega),if_pos (by show g0.kind=3;omega)]
      unfold zd6 at hpo ⊢
      simp only [qae]at hpo ⊢;refine ⟨hpo.1,?_⟩;have ho:=hpo.2;unfold zf6 at ho ⊢
      rw [zb9]at ho ⊢
      obtain ⟨l,l1,l2,l3,l4⟩:=ho;have hkl:=(qap.1 hg).1;have hl:h.pages[l]?=some h.pages[l]:=qaq (by omega)
      rw [zam hl]at l2 l4;generalize h.pages[l]=yl at hl l2 l4
      rcases zgM C hl with ⟨-,w0,-⟩ | ⟨-,s',e',-⟩
      . omega
      refine ⟨l,l1,by rw [zam e'];exact l2,fun m m1 m2=>?_,by rw [zam e'];exact l4⟩
      have hmm:h.pages[m]?=some h.pages[m]:=qaq (by omega)
      have:=l3 m m1 m2
      rw [zam hmm]at this;exact hno2 m _ hmm this
 have hB:zgo x.h.pages x.h.bump=true:=by
  rw [hbu];unfold zgo at p5 ⊢
  have p5:=qat p5;refine qad (p5.imp id fun ⟨b0,b1,b2⟩=>⟨b0,by rw [I.pl];exact b1,?_⟩)
  obtain ⟨k,hk⟩:=qaP b0;rw [hk,qac]at b2 ⊢
  have hkl:k<h.pages.length:=by omega
  have hg:h.pages[k]?=some h.pages[k]:=qaq hkl
  rw [zam hg]at b2;rcases zgM C hg with ⟨-,w0,-⟩ | ⟨-,s',e',-⟩
  . omega
  . rw [zam e'];exact b2
 have:=zuR (h:=x.h) (by rw [I.pw,I.np];exact p1) (by rw [I.wl,I.np,I.pw];exact p2) (by rw [I.pl,I.np];exact p3) (by rw [I.sp];exact p4) hB hT
 unfold okP at this;rw [zeG]at this;exact this
theorem zzh{x:Wk}{a:Int}(he:evE x a=0):(evW x a).h.bump=x.h.bump:=by
 unfold evE at he;unfold evW;have hc:evC x a=0\/evC x a=1\/evC x a=2\/evC x a=3\/evC x a=4\/evC x a=5\/evC x a=6\/evC x a=7:=by
  unfold evC;repeat' split
  all_goals omega
 rcases hc with c | c | c | c | c | c | c | c <;> rw [c]at he ⊢ <;> first | rfl | (exact absurd he (by decide))
theorem mid_at{h:Hp}{x:Wk}{os:List Int}{D:Nat->Int->Prop}(C:CI h x os D)(hbu:x.h.bump=h.bump){a:Int}(ha:a∈zaf h)(ht:okT (evWd x a).toNat=false):
 atE x.h a=0/\atH x.h a=atH h a/\evWd x a=zap h.words a:=by
 have I:=C.inv;obtain ⟨e0,-⟩:=zbU ha;obtain ⟨i,j,g,b⟩:=zal ha;have hw:evWd x a=zap h.words a:=by
  rcases I.un a ha with c | c
  . exact c
  . rw [c.1]at ht;cases ht
 have hok:=zzG C hbu;have hpos:=b.pos;have hbd:=zsg e0;have hat:ofE h.pw h.np a=0/\atB h a=true:=by
  unfold atE at e0;rw [if_pos I.ok]at e0;split at e0
  . rename_i c;split at e0
    . rename_i c2;exact ⟨c,c2⟩
    . exact absurd e0 (by decide)
  . exact absurd e0 (by decide)
 have hin:okA h.words.length a 1=true:=by
  have:=b.upto
  have hcf:=I.conf;rw [zav];have h1:=b.ad;have h2:=b.il;have h3:=b.jl;have h4:=(zan I.ok).2.1;have h5:=(zan I.ok).2.2.1;have h6:((i:Int)+1)*h.pw<=h.np*h.pw:=qaV (by omega) (by omega)
  have h7:((i:Int)+1)*h.pw=i*h.pw+h.pw:=by rw [qbd,qbi]
  omega
 have hwA:zaX x.h a=zaX h a:=by
  have h1:evWd x a=(x.h.words.getD (a-4096).toNat 0):=by
   unfold evWd zap;rw [if_pos (by rw [I.wl];exact hin)]
  have h2:zap h.words a=(h.words.getD (a-4096).toNat 0):=by
   unfold zap;rw [if_pos hin]
  unfold zaX;rw [<-h1,<-h2,hw]
 have hnt:=I.begun b;obtain ⟨s,hpg⟩:∃ s,x.h.pages[i]?=some ⟨g.kind,s,g.used,g.pins⟩:=by
  rcases zgM C b.pg with ⟨c,-⟩ | ⟨-,s,e,-⟩
  . exact absurd c hnt
  . exact ⟨s,e⟩
 have hpo:zb5 x.h a=⟨g.kind,s,g.used,g.pins⟩:=by
  unfold zb5;rw [I.pw,I.np,b.oi,qac,zam hpg]
 have hpo':zb5 h a=g:=by
  unfold zb5;rw [b.oi,qac,zam b.pg]
 have hB:atB x.h a=true:=by
  have h2:=hat.2;unfold atB at h2 ⊢
  rw [hpo,hwA,I.pw,I.np];rw [hpo']at h2;exact h2
 obtain ⟨r1,r2⟩:=zoW hok (by rw [I.pw,I.np];exact hat.1) hB
 exact ⟨r1,by rw [r2,hwA,b.hd],hw⟩
end Go.VI.P
namespace Go.VI
open Go
theorem see_ok{h:P.Hp}{x:P.Wk}{os:List Int}{D:Nat->Int->Prop}(C:P.CI h x os D){a:Int}(ha:a∈P.zaf h)(ht:P.okT (P.evWd x a).toNat=false)(hq:¬a∈x.queue)(hz:¬a=0):SeeOK x a:=by
 have I:=C.inv;obtain ⟨c1,c2,c3,c4,c5,c6,c7,c8,c9⟩:=I.conf;obtain ⟨i,j,g,b⟩:=P.zal ha;have hbp:=b.pos;have hbw:=b.wl;have hwl:=I.wl;have hpl:=I.pl;have hil:=b.il;have e0:P.evWd x a=P.zap h.words a:=(I.un a ha).elim id (fun c=>by rw [ht]at c;exact absurd c.1 (by decide))
 obtain ⟨e1,e2,e3,-⟩:=P.zh7 ha e0;have hoi:P.evI x a=i:=by unfold P.evI;rw [I.pw,I.np];exact b.oi
 obtain ⟨y,f1,f2,f3⟩:=I.pg i g b.pg (I.begun b);refine ⟨fun c=>c.elim hz hq,fun c=>c (by rw [I.old];exact ha),by rw [ht];decide,?_,by rw [hoi,hpl];omega,fun hbig=>?_,fun hbig hb=>?_⟩
 . rw [I.pw,I.np];obtain ⟨e0,-⟩:=P.zbU ha;unfold P.atE at e0;rw [if_pos I.ok]at e0;split at e0
   . rename_i c;exact c
   . exact absurd e0 (by decide)
 . have hk1:g.kind=1:=by
    rcases b.kd with ⟨k,-⟩ | ⟨k,-⟩
    . exact k
    . unfold P.zeq at hbig;rw [hoi,qac,P.zam f1]at hbig;have:=qa4 hbig
      omega
   rw [e2,I.pw];rcases b.kd with ⟨k,l,m⟩ | ⟨k,-⟩ <;> omega
 . obtain ⟨J,u,g0,eA,eN,u0,u1,hJ,-⟩:=P.zoS C ha ht hbig hb;have hpp:=P.zaM (p:=(J:Int)) (P.zan I.ok).1 (by omega) hJ
   have hbsJ:P.bs h J=4096+(J:Int)*h.pw:=rfl
   rw [eA,e2];exact ⟨by omega,P.zav.2 (by omega),P.zav.2 (by omega)⟩
end Go.VI
namespace Go.VI
open Go
structure Coll (w:WkD) (h:P.Hp) (os:List Int) (D:Nat->Int->Prop):Prop where
 C:P.CI h (toWk w) os D
 bu:(toWk w).h.bump=h.bump
 wb:WBo w.1.2.1
theorem Coll.ok{w:WkD}{h:P.Hp}{os:List Int}{D:Nat->Int->Prop}(K:Coll w h os D):P.okH (toHp w.1)=true:=P.zzG K.C K.bu
theorem Coll.sp{w:WkD}{h:P.Hp}{os:List Int}{D:Nat->Int->Prop}(K:Coll w h os D):SpOK w.1:=by
 have I:=K.C.inv;obtain ⟨c1,c2,c3,c4,c5,c6,c7,c8,c9⟩:=I.conf;refine ⟨?_,fun k hk=>?_⟩
 . have:(toWk w).h.space=w.1.2.2.2.1:=rfl
   rw [<-this,I.sp];exact ⟨c8,c9⟩
 . have hm:=P.zbT _ _ _ _ (P.zan K.ok).2.2.2.2.2.2 (toPg (w.1.2.2.1.getD k PG0)) (qa0 (zaF hk));exact ⟨hm.1,hm.2.1⟩
theorem Coll.len{w:WkD}{h:P.Hp}{os:List Int}{D:Nat->Int->Prop}(K:Coll w h os D):confB w.1.1.1 w.1.1.2.1=true/\(w.1.2.2.1.length:Int)=w.1.1.2.1/\w.1.2.1.length<=4096/\w.1.2.2.1.length<=64/\w.2.1.length<=4096/\w.2.2.1.length<=1000/\w.2.2.2.1.length<=4096:=by
 have I:=K.C.inv;obtain ⟨c1,c2,c3,c4,c5,c6,c7,c8,c9⟩:=I.conf;obtain ⟨q1,q2⟩:=I.qlen;have hlm:(w.1.2.2.1.map toPg).length=w.1.2.2.1.length:=qaj ..
 have e1:(w.1.2.2.1.map toPg).length=h.pages.length:=I.pl
 have e2:w.1.2.1.length=h.words.length:=I.wl
 have e3:w.2.1=P.zaf h:=I.old
 have e4:w.1.1.2.1=h.np:=I.np
 have e5:w.2.2.2.1.length<=(P.zaf h).length:=q1
 have e6:w.2.2.1.length<=1000:=I.plok.tk
 have h1:=(P.zan K.ok).1;refine ⟨by rw [<-zaD];exact h1,by omega,by omega,by omega,by rw [e3];exact q2,e6,by omega⟩
theorem Coll.wkl{w:WkD}{h:P.Hp}{os:List Int}{D:Nat->Int->Prop}(K:Coll w h os D):WkL w:=by
 obtain ⟨-,-,k1,k2,k3,k4,k5⟩:=K.len;exact ⟨by omega,by omega,by omega,by omega,by omega⟩
theorem Coll.hpw{w:WkD}{h:P.Hp}{os:List Int}{D:Nat->Int->Prop}(K:Coll w h os D):HpW w.1:=by
 obtain ⟨-,-,k1,k2,k3,k4,k5⟩:=K.len;exact ⟨by omega,by omega,K.wb⟩
theorem zee{w:WkD}{h:P.Hp}{os:List Int}{D:Nat->Int->Prop}(K:Coll w h os D)(a:Int)(ha:0<=a/\a<18446744073709551616):
 Tot (fun r=>r.1.2.2.1=P.evE (toWk w) a/\r.1.2.1=P.evA (toWk w) a/\toWk r.1.1=P.evW (toWk w) a) (F_evacuate_Forward (w,a,())):=by
 have I:=K.C.inv;obtain ⟨l1,l2,l3,l4,l5,l6,l7⟩:=K.len;have hown:F_evacuate_owned (w,())=some ((w,()),()):=zcg w K.wkl
 have fin:∀ (e b:Int) (g:WkD) (c:Nat),P.evC (toWk w) a=c->e=(match c with | 1=>19 | 3=>19 | 6=>3 | _=>0)->b=(match c with | 0=>a | 2=>P.tgtV (P.evWd (toWk w) a).toNat | 4=>a | 5=>a | 7=>P.plA (toWk w) (P.evN (toWk w) a) | _=>0)->toWk g=(match c with | 0=>toWk w | 2=>toWk w | 4=>P.zcA (toWk w) a | 5=>P.zcA (P.zbV (toWk w) (P.evI (toWk w) a).toNat) a | 7=>P.zbi (toWk w) a | _=>P.Wk.zero) ->
  Tot (fun r:(WkD×Int×Int×Unit)×Unit=>r.1.2.2.1=P.evE (toWk w) a/\r.1.2.1=P.evA (toWk w) a/\toWk r.1.1=P.evW (toWk w) a) (some ((g,b,e,()),())):=fun e b g c hc h1 h2 h3=>by
  refine zab ?_;unfold P.evE P.evA P.evW;rw [hc];exact ⟨h1,h2,h3⟩
 rw [zbE];dsimp only
 rw [hown,zbz _ a (by omega),zbz _ a (by omega)]
 simp only [qaa];by_cases h0:a=0
 . rw [show (a == 0)=true from qaz.2 h0,qah]
   exact fin _ _ _ 0 (by unfold P.evC;rw [if_pos (.inl h0)]) rfl rfl rfl
 rw [show (a == 0)=false from qaI.2 h0,qaf]
 by_cases hq:a∈w.2.2.2.1
 . rw [qad hq,qah];exact fin _ _ _ 0 (by unfold P.evC;rw [if_pos (.inr hq)]) rfl rfl rfl
 rw [qai hq,qaf];have c0:¬(a=0\/a∈(toWk w).queue):=fun c=>c.elim h0 hq
 by_cases ho:a∈w.2.1
 case neg=>
  rw [qai ho];exact fin _ _ _ 1 (by unfold P.evC;rw [if_neg c0,if_pos (show ¬a∈(toWk w).old from ho)]) rfl rfl zez
 rw [qad ho];simp only [qbA,qaf];have c1:¬¬a∈(toWk w).old:=fun c=>c ho
 have hob:a∈P.zaf h:=by rw [<-I.old];exact ho
 obtain ⟨e0,-⟩:=P.zbU hob;have hof:P.ofE (toWk w).h.pw (toWk w).h.np a=0:=by
  rw [I.pw,I.np];unfold P.atE at e0;rw [if_pos I.ok]at e0;split at e0
  . rename_i c;exact c
  . exact absurd e0 (by decide)
 have hwb:P.WB (toWk w).h.words:=K.wb;have hle:P.zg0 w.1.2.1 a=0:=(P.zwM hwb K.ok hof).2.1
 rw [ze1 w.1 a (by omega) K.wb ha hle,qaa]
 dsimp only;have hev:(P.zap w.1.2.1 a).toNat=(P.evWd (toWk w) a).toNat:=rfl
 rw [hev];cases ht:P.okT (P.evWd (toWk w) a).toNat
 case true=>
  simp only [qah];exact fin _ _ _ 2 (by unfold P.evC;rw [if_neg c0,if_neg c1,if_pos ht]) rfl rfl rfl
 simp only [qaf];obtain ⟨m1,m2,m3⟩:=P.mid_at K.C K.bu hob ht;obtain ⟨o1,o2,o3,o4⟩:=P.zh7 hob m3;refine zad (zfp w.1 K.hpw a ha) ?_;rintro ⟨⟨⟨(k:Int),(n:Int),(m:Int),_⟩,(e:Int),_⟩,_⟩ ⟨q1,q2⟩;dsimp only at q1 q2 ⊢
 have q1:e=P.atE (toWk w).h a:=q1
 have q2:toHd (k,n,m,())=P.atH (toWk w).h a:=q2
 rw [q1,m1];simp only [show ((0:Int) != 0)=false from rfl,qaf]
 obtain ⟨-,a2,a3,a4,a5,a6⟩:=P.zjT m1;rw [<-q2]at a2 a3 a4 a5;have a2:P.zay k n m=true:=a2
 have a3:0<=m:=a3
 have a4:m<4294967296:=a4;have hn:n+1=P.evN (toWk w) a:=by
  rw [o2];unfold P.osz;rw [<-m2,<-q2];rfl
 rw [zdA k n m ⟨a3,a4⟩,qaa,P.zcv a2,hn];refine zad (zn6 w a I.fwok l1 l2 K.sp ha (see_ok K.C hob ht hq h0)) fun r hr=>zab hr
end Go.VI
namespace Go.VI
open Go Go.Proofs
theorem zjr(h:P.Hp)(i:Int):(P.zaQ h i).length<=64:=by
 cases h1:P.okH h with
 | false=>rw [(P.zpq (i:=i) h1).2];simp
 | true=>exact P.zf4 h1
end Go.VI
namespace Go.VI
open Go Go.Proofs
theorem ztY(h:HpD)(hw:HpW h){x:Int}(hx:P.atE (toHp h) x=0):∃ k n m e,F_r05_At (h,x,())=some (((k,n,m,()),e,()),())/\F_r03_Size ((k,n,m,()),())=some ((P.osz (toHp h) x,()),())/\4096<=x/\x<=100004096/\1<=P.osz (toHp h) x/\P.osz (toHp h) x<=256:=by
 obtain ⟨i,j,g,b⟩:=P.zoV hx;have p1:=b.pos;have p2:=b.wl;have p3:(toHp h).words.length<=100000000:=hw.wl
 obtain ⟨⟨⟨⟨(k:Int),(n:Int),(m:Int),_⟩,(e:Int),_⟩,_⟩,hF,-,hH⟩:=zgO h hw x (by omega)
 dsimp only at hH
 obtain ⟨-,a2,a3,a4,a5,a6⟩:=P.zjT hx;have ek:(P.atH (toHp h) x).k=k:=(congrArg P.Hd.k hH).symm
 have en:(P.atH (toHp h) x).n=n:=(congrArg P.Hd.n hH).symm
 have em:(P.atH (toHp h) x).m=m:=(congrArg P.Hd.m hH).symm
 rw [ek,en,em]at a2;rw [em]at a3 a4;have eo:P.osz (toHp h) x=n+1:=by unfold P.osz;rw [en]
 have v:=P.zax a2;exact ⟨k,n,m,e,hF,by rw [zcq k n m ⟨a3,a4⟩,P.zcv a2,eo],p1.2,by omega,p1.1,by omega⟩
end Go.VI
namespace Go.VI
open Go Go.Proofs
abbrev Z3:Int×Int×Int×Unit:=(0,0,0,())
abbrev FX:=Ao×Unit×A7×Unit
abbrev FY:=Unit×Unit×A7×Unit⊕Unit×Unit×A7×Unit
theorem tot_all{n:Nat}{g:FX->Option (FX⊕FY)}(hn:n<=1000000000)(h:∀ k:Nat,k<n->Tot (fun r=>r = .inl (((k:Int)+1,()),(),Z3,())) (g (((k:Int),()),(),Z3,()))):
 Tot (fun (r:FY)=>r = .inr ((),(),Z3,())) (rl FX FY (fun x=>bif decide (x.1.1<(n:Int)) then g x else some (Sum.inr (Sum.inr ((),(),(x.2.2.1.1,x.2.2.1.2.1,x.2.2.1.2.2.1,()),())))) ((0,()),(),Z3,())):=by
 refine zai (fun x=>∃ k:Nat,x=(((k:Int),()),(),Z3,())/\k<=n) (fun x=>((n:Int)-x.1.1).toNat) ⟨0,rfl,by omega⟩ ?_
 rintro _ ⟨k,rfl,hk⟩;dsimp only;refine zac (fun h1=>?_) fun h1=>zab rfl
 simp only [qab]at h1;refine (h k (by omega)).mono ?_
 rintro _ rfl;exact ⟨⟨k+1,by rw [show ((k+1:Nat):Int)=(k:Int)+1 by omega],by omega⟩,by dsimp only;omega⟩
theorem zsv:Tot (fun r=>r.1.1=Z3) (F_cmp_Or_audit_Finding ([Z3,Z3],())):=by
 rw [zbF];dsimp only
 refine zad (P:=fun r=>r = .inr ((),(),Z3,())) (tot_all (n:=2) (by omega) fun k hk=>?_) ?_
 . have hk2:k=0\/k=1:=by omega
   rcases hk2 with rfl | rfl
   . exact zae (by decide) (zac (fun c=>by simp at c) fun _=>zab (by rw [W_id (by dsimp only;omega)]))
   . exact zae (by decide) (zac (fun c=>by simp at c) fun _=>zab (by rw [W_id (by dsimp only;omega)]))
 . rintro _ rfl;exact zab rfl
abbrev PtD:=Int×A7×Unit
def ofHd(x:P.Hd):Int×Int×Int×Unit:=(x.k,x.n,x.m,())
def mkp(h:HpD)(x:Int):PtD:=(x,ofHd (P.atH (toHp h) x),())
theorem zrV{α:Type}{f:Int->α}{l:List Int}{k:Nat}{d:α}(hk:k<l.length):(l.map f).getD k d=f (l.getD k 0):=by
 rw [qax,qbc,getD_some hk];rfl
theorem zm2(h:HpD)(hw:HpW h)(i:Int)(he:P.zbx (toHp h) i=0):Tot (fun r=>r.1.1=(P.zaQ (toHp h) i).map (mkp h)/\r.1.2.1=0) (F_audit_partsOf (h,i,())):=by
 rw [zfB];dsimp only
 try simp only [zas]
 rw [zmW h hw i,qaa,he];dsimp only;have hax:∀ x∈P.zaQ (toHp h) i,P.atE (toHp h) x=0:=fun x hx=>P.zfe hx
 have hll:=zjr (toHp h) i;generalize P.zaQ (toHp h) i=l at *
 refine zac (fun c=>by simp at c) fun _=>?_
 refine zad (P:=fun r=>∃ y,r = .inr y/\y.2.1.1=l.map (mkp h)) (zai (fun x=>∃ k:Nat,x.1.2.2.2.1=(k:Int)/\k<=l.length/\x.2.1.1=(l.take k).map (mkp h)) (fun x=>((l.length:Int)-x.1.2.2.2.1).toNat) ⟨0,rfl,by omega,rfl⟩ ?_) ?_
 . rintro ⟨⟨q1,q2,q3,(k':Int),_⟩,⟨(acc:List PtD),_⟩,_⟩ ⟨k,e1,e2,e3⟩;dsimp only at e1 e3 ⊢
   subst e1;refine zac (fun h4=>?_) fun h4=>zab ?_
   . simp only [qab]at h4;have hk:k<l.length:=by omega
     have w:W ((k:Int)+1)=((k+1:Nat):Int):=by rw [W_id (by omega)];omega
     rw [w,qac];have hxa:=hax _ (zaJ (d:=0) hk)
     obtain ⟨-,-,-,-,-,-,b1,b2,-,-⟩:=ztY h hw hxa;refine zae (zag.2 ⟨by omega,h4⟩) (zad (zfp h hw (l.getD k 0) (by omega)) ?_)
     rintro ⟨⟨(hd:A7),(e':Int),_⟩,_⟩ ⟨he',hH⟩;dsimp only at he' hH ⊢
     rw [hxa]at he'
     subst he'
     have hd2:hd=ofHd (P.atH (toHp h) (l.getD k 0)):=by rw [<-hH];rfl
     have hacc:acc.length<=64:=by rw [e3,qaj,qau];omega
     refine zac (fun c=>by simp at c) fun _=>zae (zak.2 (by rw [qbF];omega)) (zab ?_)
     simp only [qam];refine ⟨⟨k+1,rfl,by omega,?_⟩,by omega⟩
     rw [P.zbd (getD_some hk),qa2,<-e3,hd2];rfl
   . simp only [qag]at h4;simp only [qal];rw [qa3 (by omega)]at e3
     exact ⟨_,rfl,e3⟩
 . rintro _ ⟨⟨_,⟨y,_⟩,_⟩,rfl,hy⟩;exact zab ⟨hy,rfl⟩
theorem zm5(pw np kind k n m:Int)(hm:0<=m/\m<4294967296):F_audit_belongs ((pw,np,()),kind,(k,n,m,()),())=some ((bif kind == 2 then k != 0 else decide (P.zaP k n m<=P.zeA pw np),()),()):=by
 rw [zk1];dsimp only
 rw [zdA k n m hm,ze0];cases (kind == 2) <;> rfl
theorem zkH(h:HpD)(a:Int)(h0:4096<=a)(h1:a<4096+(h.2.1.length:Int))(hl:h.2.1.length<=100000000):F_audit_word (h,a,())=some ((P.zap (toHp h).words a,()),()):=by
 rw [zpI];dsimp only
 rw [U_id (n:=a-4096) (by omega),zag.2 (show 0<=a-4096/\a-4096<(h.2.1.length:Int) by omega),qah]
 have e:P.zap (toHp h).words a=h.2.1.getD (a-4096).toNat 0:=by
  unfold P.zap;rw [if_pos (P.zav.2 (by show _/\_<=4096+((h.2.1.length:Nat):Int);omega))];rfl
 rw [e]
theorem zss(h:HpD)(hc:confB h.1.1 h.1.2.1=true)(hn:(h.2.2.1.length:Int)=h.1.2.1)(i:Nat)(hi:i<h.2.2.1.length)(n:Int)(h0:0<=n)(h1:n<=4)(hk:n=if (h.2.2.1.getD i PG0).1=2 then P.zat h.1.1 h.1.2.1 (h.2.2.1.getD i PG0).2.2.1 else if (h.2.2.1.getD i PG0).1=3 then 0 else 1):
 F_audit_span (h,(i:Int),())=some ((4096+(i:Int)*h.1.1,4096+(i:Int)*h.1.1+n*h.1.1,()),()):=by
 have c2:=zaT.1 hc;have k1:0<=n*h.1.1:=qbl h0 (by omega)
 have k2:n*h.1.1<=4*64:=qco h1 (by omega) (by omega) (by omega)
 have k3:0<=(i:Int)*h.1.1:=qbl (by omega) (by omega)
 have k4:(i:Int)*h.1.1<=64*64:=qco (by omega) (by omega) (by omega) (by omega)
 rw [zpJ];dsimp only
 rw [zag.2 (show 0<=(i:Int)/\(i:Int)<(h.2.2.1.length:Int) by omega),qah,qac,zhK,zes _ _ _ _ hc (by omega),Int.add_zero]
 simp only [qaa];generalize (h.2.2.1.getD i PG0)=g at *
 by_cases e2:g.1=2
 . rw [if_pos e2]at hk;rw [<-hk,show (g.1 == 2)=true by simpa using e2,qah,W_id (n:=n*h.1.1) (by omega),U_id (n:=n*h.1.1) (by omega),U_id (by omega)]
 . rw [if_neg e2]at hk;rw [show (g.1 == 2)=false by simpa using e2,qaf]
   by_cases e3:g.1=3
   . rw [if_pos e3]at hk;rw [show (g.1 == 3)=true by simpa using e3,qah,<-hk,W_id (n:=n*h.1.1) (by omega),U_id (n:=n*h.1.1) (by omega),U_id (by omega)]
   . rw [if_neg e3]at hk;rw [show (g.1 == 3)=false by simpa using e3,qaf,<-hk,W_id (n:=n*h.1.1) (by omega),U_id (n:=n*h.1.1) (by omega),U_id (by omega)]
end Go.VI
namespace Go.VI
open Go Go.Proofs
theorem zlc(k n m i:Int)(hm:0<=m/\m<4294967296):Tot (fun r=>r.1.1=P.ptrB k n m i) (F_header_Pointer ((k,n,m,()),i,())):=by
 rw [zjB];dsimp only
 rw [zda k n m hm,qaa];dsimp only;simp only [cor];unfold P.ptrB;refine zac (fun h=>zab ?_) fun h=>?_
 . symm
   simp only [qaZ,qar,qab]at h;rcases h with h | h | h
   . rw [h];rfl
   . rw [qai (show ¬0<=i by omega)];simp
   . rw [qai (show ¬i<n by omega)];simp
 simp only [qaQ,qaw,qag]at h;obtain ⟨hv,h0,h1⟩:=h;have c:=P.zax hv;rw [hv,qad (show 0<=i by omega),qad (show i<n by omega)]
 refine zae ?_ (zab ?_)
 . rw [qai h0];cases (k == 2) <;> cases (k == 1) <;> rfl
 simp only [qaY];by_cases k2:k=2
 . subst k2;rfl
 by_cases k1:k=1
 . subst k1;obtain ⟨mm,rfl⟩:=qaP hm.1;obtain ⟨j,rfl⟩:=qaP (show 0<=i by omega)
   have hmin:min j IntKind.u32.bits=j:=by
    have:IntKind.u32.bits=32:=rfl
    have:=(c.2.2.2.2.1 rfl).1
    omega
   have hp:0<2 ^ j:=qca (by omega)
   have e1:(2:Int) ^ j=((2 ^ j:Nat):Int):=by rw [qck];rfl
   have hle:mm / 2 ^ j<=mm:=Nat.div_le_self _ _
   have e:=zoU (mm / 2 ^ j) 1 (by omega) (by omega)
   rw [Nat.and_one_is_mod]at e;have key:zcN IntKind.u32 (fun (x1 x2:BitVec IntKind.u32.bits)=>x1 &&& x2) ((mm:Int).fdiv (2 ^ min (Int.toNat (j:Int)) IntKind.u32.bits)) 1=((mm / 2 ^ j % 2:Nat):Int):=by
    rw [qac,hmin,e1,zdV mm (2 ^ j) hp];exact e
   simp only [qac]at key;simp only [qac];rw [key,Nat.testBit_eq_decide_div_mod_eq];have:(((1:Int) == 2)=false):=rfl
   rw [this,Bool.false_or];have:(((1:Int) == 1)=true):=rfl
   rw [this,qah];generalize mm / 2 ^ j % 2=z
   rw [qa8];simp
   omega
 . have e1:(k == 2)=false:=by simp [k2]
   have e2:(k == 1)=false:=by simp [k1]
   rw [e1,e2,qai k2,qai k1];rfl
theorem zj4(k n m:Int)(hm:0<=m/\m<4294967296)(hn:n<=1000000):Tot (fun r=>r.1.1=P.zgU k n m) (F_header_Pointers ((k,n,m,()),())):=by
 rw [zii];dsimp only
 rw [zda k n m hm,qaa];dsimp only;cases hv:P.zay k n m
 . rw [P.zxc hv];exact zac (fun _=>zab rfl) fun c=>by cases c
 . have c:=P.zax hv;rw [P.zs0 hv];refine zac (fun c=>by cases c) fun _=>?_
   refine zad (P:=fun r=>r.2.1.1=P.zdf k n m n.toNat) (zai (fun x=>∃ j:Nat,x.1.2.1=(j:Int)/\j<=n.toNat/\x.2.1.1=P.zdf k n m j/\x.2.1.1.length<=j) (fun x=>(n-x.1.2.1).toNat) ⟨0,rfl,by omega,rfl,by simp⟩ ?_) fun r hr=>zab hr
   rintro ⟨⟨_,(i:Int),_⟩,⟨(l:List Int),_⟩,_⟩ ⟨j,e1,e2,e3,e4⟩;dsimp only at e1 e2 e3 e4 ⊢
   subst e1;refine zac (fun h=>?_) fun h=>zab ?_
   . simp only [qab]at h;have w:W ((j:Int)+1)=j+1:=W_id (by omega)
     rw [w];refine zad (zlc k n m j hm) ?_;rintro ⟨⟨(b:Bool),_⟩,_⟩ hb;dsimp only at hb ⊢
     have hs:=P.zl1 k n m j;rw [<-hb]at hs;refine zae (zaz fun _=>zak.2 (by simp;omega)) (zac (fun h2=>zab ?_) fun h2=>zab ?_)
     . rw [if_pos h2]at hs;simp only [qam];exact ⟨⟨j+1,by omega,by omega,by rw [hs,e3],by simp;omega⟩,by omega⟩
     . rw [if_neg (by rw [h2];decide)]at hs
       simp only [qam];exact ⟨⟨j+1,by omega,by omega,by rw [hs,e3],by omega⟩,by omega⟩
   . simp only [qag]at h;simp only [qal];rw [e3,show j=n.toNat by omega]
theorem T_less(x y:Int):F_cmp_Less_uint64 (x,y,())=some ((decide (x<y),()),()):=by
 rw [zil,zht];simp
theorem zpR{l:List Int}(hp:l.Pairwise (fun a b=>a<b)){s t:Nat}(hst:s<=t)(ht:t<l.length):l.getD s 0<=l.getD t 0:=by
 by_cases e:s=t
 . subst e;exact qb6 _
 . have hs:s<l.length:=by omega
   have:=(List.pairwise_iff_getElem.1 hp) s t hs ht (by omega)
   rw [qax,qax,qaq hs,qaq ht];exact Int.le_of_lt this
theorem zzs(l:List Int)(hl:l.length<=1000000)(hp:l.Pairwise (fun a b=>a<b))(v:Int):Tot (fun r=>(r.1.2.1=true↔v∈l)) (F_slices_BinarySearch_uint64 (l,v,())):=by
 rw [zdk];dsimp only
 refine zad (P:=fun r=>∃ a:Nat,r.1.1=(a:Int)/\a<=l.length/\(∀ t,t<a->l.getD t 0<v)/\∀ t,a<=t->t<l.length->v<=l.getD t 0) (zai (fun x=>∃ a b:Nat,x.1.1=(a:Int)/\x.1.2.1=(b:Int)/\a<=b/\b<=l.length/\(∀ t,t<a->l.getD t 0<v)/\∀ t,b<=t->t<l.length->v<=l.getD t 0) (fun x=>(x.1.2.1-x.1.1).toNat) ⟨0,l.length,rfl,rfl,by omega,by omega,fun t h=>by omega,fun t h1 h2=>by omega⟩ ?_) ?_
 . rintro ⟨⟨(i:Int),(j:Int),_⟩,_⟩ ⟨a,b,e1,e2,e3,e4,e5,e6⟩;dsimp only at e1 e2 ⊢
   subst e1 e2;refine zac (fun h1=>?_) fun h1=>zab ?_
   . simp only [qab]at h1;have d1:(2:Int) ^ min (Int.toNat 1) IntKind.u64.bits=2:=by decide
     have hmid:W ((U (W ((a:Int)+(b:Int)))).fdiv (2 ^ min (Int.toNat 1) IntKind.u64.bits))=(((a+b) / 2:Nat):Int):=by
      rw [d1,W_id (n:=(a:Int)+b) (by omega),U_id (by omega),Int.fdiv_eq_ediv_of_nonneg _ (by omega),W_id (by omega)];omega
     rw [hmid];have hm:(a+b) / 2<l.length:=by omega
     have hm2:(a+b) / 2<b:=by omega
     have hm3:a<=(a+b) / 2:=by omega
     generalize (a+b) / 2=c at *
     rw [qac,T_less,qaa,W_id (n:=(c:Int)+1) (by omega)]
     dsimp only;refine zae (by decide) (zae (zag.2 ⟨by omega,by omega⟩) (zab ?_))
     simp only [qam];by_cases hlt:l.getD c 0<v
     . rw [qad hlt,qah,qah];exact ⟨⟨c+1,b,by omega,rfl,by omega,e4,fun t ht=>by have:=zpR hp (show t<=c by omega) hm;omega,e6⟩,by omega⟩
     . rw [qai hlt,qaf,qaf];exact ⟨⟨a,c,rfl,rfl,by omega,by omega,e5,fun t h1 h2=>by have:=zpR hp h1 h2;omega⟩,by omega⟩
   . simp only [qag]at h1;simp only [qal];exact ⟨a,rfl,by omega,e5,fun t h2 h3=>e6 t (by omega) h3⟩
 . rintro ⟨⟨(i:Int),_⟩,_⟩ ⟨a,e1,e2,e3,e4⟩;dsimp only at e1 ⊢
   subst e1;have nan:∀ y:Int,F_slices_isNaN_uint64 (y,())=some ((false,()),()):=fun y=>by rw [zfM];simp
   rw [qac];have hmem:v∈l->a<l.length/\l.getD a 0=v:=fun hv=>by
    obtain ⟨t,ht,e⟩:=qb5.1 hv;have et:l.getD t 0=v:=by rw [qax,qaq ht];exact e
    have h1:¬t<a:=fun c=>by have:=e3 t c;omega
    have h2:=e4 a (qao _) (by omega)
    have h3:=zpR hp (show a<=t by omega) ht
    exact ⟨by omega,by omega⟩
   by_cases h1:a<l.length
   . have hin:inB (a:Int) l.length=true:=zag.2 ⟨by omega,by omega⟩
     have hd:decide ((a:Int)<(l.length:Int))=true:=qad (by omega)
     rw [hin,hd];cases hb:(l.getD a 0 == v) with
     | true=>
      simp only [qah];exact zab ⟨fun _=>by rw [qaz]at hb;rw [<-hb];exact zaJ h1,fun _=>rfl⟩
     | false=>
      simp only [qah,qaf,nan,qaa];exact zab ⟨fun c=>(by cases c),fun hv=>(by have e:=(hmem hv).2;rw [e]at hb;simp at hb)⟩
   . have hd:decide ((a:Int)<(l.length:Int))=false:=qai (by omega)
     rw [hd];simp only [qah,qaf];exact zab ⟨fun c=>(by cases c),fun hv=>absurd (hmem hv).1 h1⟩
theorem zqo(l:List Int)(hl:l.length<=1000000)(hp:l.Pairwise (fun a b=>a<b))(v:Int):Tot (fun r=>(r.1.1=true↔(v=0\/v∈l))) (F_audit_isReference (l,v,())):=by
 rw [zgZ];dsimp only
 refine zad (zzs l hl hp v) ?_;rintro ⟨⟨_,(b:Bool),_⟩,_⟩ hb;dsimp only at hb ⊢
 refine zab ?_;cases b with
 | true=>exact ⟨fun _=>.inr (hb.1 rfl),fun _=>rfl⟩
 | false=>
  simp only [qaf,qaz];exact ⟨.inl,fun h=>h.resolve_right fun c=>by have:=hb.2 c;cases this⟩
theorem zqp(h:HpD)(hl:h.2.2.1.length<=100000000)(hc:confB h.1.1 h.1.2.1=true)(hn:(P.zaZ (toHp h).pages:Int)<=h.1.2.1 / 4):Tot (fun r=>r.1.1=Z3) (F_audit_checkCrowd (h,())):=by
 have c2:=zaT.1 hc;rw [zdS];dsimp only
 have hlm:(toHp h).pages.length=h.2.2.1.length:=qaj ..
 refine zad (P:=fun r=>r.1.1=(P.zaZ (toHp h).pages:Int)) (zai (fun x=>∃ k:Nat,x.1.2.1=(k:Int)/\k<=h.2.2.1.length/\x.1.1=(P.zaZ ((toHp h).pages.take k):Int)/\x.1.1<=(k:Int)) (fun x=>((h.2.2.1.length:Int)-x.1.2.1).toNat) ⟨0,rfl,by omega,rfl,by show (0:Int)<=0;omega⟩ ?_) ?_
 . rintro ⟨⟨(s:Int),(k':Int),_⟩,_⟩ ⟨k,e1,e2,e3,e4⟩;dsimp only at e1 e3 e4 ⊢
   subst e1;refine zac (fun h1=>?_) fun h1=>zab ?_
   . simp only [qab]at h1;have hk:k<h.2.2.1.length:=by omega
     have hs0:0<=s:=by omega
     rw [qac,W_id (n:=(k:Int)+1) (by omega),W_id (n:=s+1) (by omega)]
     have ht:=P.zhD (zaF hk);refine zae (zag.2 ⟨by omega,h1⟩) (zab ?_)
     simp only [qam];generalize hg:h.2.2.1.getD k PG0=g at *
     have ht:P.zaZ ((toHp h).pages.take (k+1))=P.zaZ ((toHp h).pages.take k)+if g.1=1/\0<g.2.2.2.1 then 1 else 0:=ht
     by_cases hq:g.1=1/\0<g.2.2.2.1
     . rw [if_pos hq]at ht;rw [show (g.1 == 1)=true by simpa using hq.1,qad (show g.2.2.2.1 > 0 from hq.2)]
       exact ⟨⟨k+1,by omega,by omega,by simp only [qah];omega,by simp only [qah];omega⟩,by omega⟩
     . rw [if_neg hq]at ht;have:(bif (g.1 == 1) then decide (g.2.2.2.1 > 0) else false)=false:=by
        cases hb:(g.1 == 1) with
        | false=>rfl
        | true=>rw [qah];exact qai fun c=>hq ⟨by simpa using hb,c⟩
       rw [this];exact ⟨⟨k+1,by omega,by omega,by simp only [qaf];omega,by simp only [qaf];omega⟩,by omega⟩
   . simp only [qag]at h1;simp only [qal];rw [qa3 (by omega)]at e3
     exact e3
 . rintro ⟨⟨(s:Int),_⟩,_⟩ e;dsimp only at e ⊢
   refine zae (show (!(4:Int) == 0)=true from by decide) (zac (fun c=>?_) fun _=>zab rfl)
   exfalso
   simp only [qab]at c;rw [qbB (by omega),W_id (by omega)]at c
   omega
end Go.VI
namespace Go.VI
open Go Go.Proofs
theorem zvL(h:P.Hp):(P.zaf h).Pairwise (fun a b=>a<b) :=
 (P.zek h).imp_of_mem fun {x y} hx hy hxy=>by
  obtain ⟨i,j,g,b⟩:=P.zal hx;have:=b.pos
  omega
namespace P
def zcU(h:Hp)(g:Pg):Int:=if g.kind=2 then zat h.pw h.np g.used else if g.kind=3 then 0 else 1
end P
end Go.VI
namespace Go.VI
open Go Go.Proofs
namespace P
end P
theorem zvr(f:A7)(hf:¬f.1=0):Tot (fun r=>r.1.1=f) (F_cmp_Or_audit_Finding ([Z3,f],())):=by
 obtain ⟨f1,f2,f3,_⟩:=f;have hf:¬f1=0:=hf
 have hne:(f1 == 0)=false:=by simpa using hf
 rw [zbF];dsimp only
 refine zad (P:=fun r=>r = .inl ((),(),(f1,f2,f3,()),())) (zai (fun x=>x=((0,()),(),Z3,())\/x=((1,()),(),Z3,())) (fun x=>(1-x.1.1).toNat) (.inl rfl) ?_) ?_
 . rintro _ (rfl | rfl)
   . refine zac (fun _=>zae rfl (zac (fun c=>by simp at c) fun _=>zab ⟨.inr rfl,by decide⟩)) fun c=>by simp at c
   . refine zac (fun _=>zae rfl (zac (fun _=>zab rfl) fun c=>?_)) fun c=>by simp at c
     exfalso
     have c:(!(f1 == 0&&(f2 == 0&&(f3 == 0&&true))))=false:=c
     rw [hne]at c;cases c
 . rintro _ rfl;exact zab rfl
end Go.VI
namespace Go.VI
open Go Go.Proofs
theorem zla(h:HpD)(hl:h.2.2.1.length<=100000000)(hc:confB h.1.1 h.1.2.1=true):Tot (fun r=>toFd r.1.1=if h.1.2.1 / 4<(P.zaZ (toHp h).pages:Int) then ⟨7,0,0⟩ else P.Fd.none) (F_audit_checkCrowd (h,())):=by
 by_cases hn:(P.zaZ (toHp h).pages:Int)<=h.1.2.1 / 4
 . refine (zqp h hl hc hn).mono ?_;rintro ⟨⟨f,_⟩,_⟩ hf;have hf:f=Z3:=hf
   subst hf;rw [if_neg (by omega)];rfl
 have c2:=zaT.1 hc;rw [zdS];dsimp only
 have hlm:(toHp h).pages.length=h.2.2.1.length:=qaj ..
 refine zad (P:=fun r=>r.1.1=(P.zaZ (toHp h).pages:Int)) (zai (fun x=>∃ k:Nat,x.1.2.1=(k:Int)/\k<=h.2.2.1.length/\x.1.1=(P.zaZ ((toHp h).pages.take k):Int)/\x.1.1<=(k:Int)) (fun x=>((h.2.2.1.length:Int)-x.1.2.1).toNat) ⟨0,rfl,by omega,rfl,by show (0:Int)<=0;omega⟩ ?_) ?_
 . rintro ⟨⟨(s:Int),(k':Int),_⟩,_⟩ ⟨k,e1,e2,e3,e4⟩;dsimp only at e1 e3 e4 ⊢
   subst e1;refine zac (fun h1=>?_) fun h1=>zab ?_
   . simp only [qab]at h1;have hk:k<h.2.2.1.length:=by omega
     have hs0:0<=s:=by omega
     rw [qac,W_id (n:=(k:Int)+1) (by omega),W_id (n:=s+1) (by omega)]
     have ht:=P.zhD (zaF hk);refine zae (zag.2 ⟨by omega,h1⟩) (zab ?_)
     simp only [qam];generalize hg:h.2.2.1.getD k PG0=g at *
     have ht:P.zaZ ((toHp h).pages.take (k+1))=P.zaZ ((toHp h).pages.take k)+if g.1=1/\0<g.2.2.2.1 then 1 else 0:=ht
     by_cases hq:g.1=1/\0<g.2.2.2.1
     . rw [if_pos hq]at ht;rw [show (g.1 == 1)=true by simpa using hq.1,qad (show g.2.2.2.1 > 0 from hq.2)]
       exact ⟨⟨k+1,by omega,by omega,by simp only [qah];omega,by simp only [qah];omega⟩,by omega⟩
     . rw [if_neg hq]at ht;have:(bif (g.1 == 1) then decide (g.2.2.2.1 > 0) else false)=false:=by
        cases hb:(g.1 == 1) with
        | false=>rfl
        | true=>rw [qah];exact qai fun c=>hq ⟨by simpa using hb,c⟩
       rw [this];exact ⟨⟨k+1,by omega,by omega,by simp only [qaf];omega,by simp only [qaf];omega⟩,by omega⟩
   . simp only [qag]at h1;simp only [qal];rw [qa3 (by omega)]at e3
     exact e3
 . rintro ⟨⟨(s:Int),_⟩,_⟩ e;dsimp only at e ⊢
   refine zae (show (!(4:Int) == 0)=true from by decide) (zac (fun _=>zab ?_) fun c=>?_)
   . rw [if_pos (by omega)];rfl
   exfalso
   simp only [qag]at c;rw [qbB (by omega),W_id (by omega)]at c
   omega
theorem ziR(h:HpD)(hok:P.okH (toHp h)=true)(i:Nat)(hi:i<h.2.2.1.length)(l:List Int)(hl:l.length<=100000)(hm:∀ x∈l,0<=(P.atH (toHp h) x).m/\(P.atH (toHp h) x).m<4294967296)(hx0:∀ x∈l,¬x=0)
 (hk12:∀ x∈l,(h.2.2.1.getD i PG0).1=1\/(h.2.2.1.getD i PG0).1=2) :
 Tot (fun r=>toFd r.1.1=if P.clsV (toHp h) i l=0 then P.Fd.none else ⟨5,i,P.clsV (toHp h) i l⟩) (F_audit_checkClasses (h,(i:Int),l.map (mkp h),())):=by
 rw [zge];dsimp only
 have hll:(l.map (mkp h)).length=l.length:=qaj ..
 refine zad (P:=fun r=>(∃ f,r = .inl ((),(),f,())/\¬P.clsV (toHp h) i l=0/\f=(5,(i:Int),P.clsV (toHp h) i l,()))\/(r = .inr ((),(),Z3,())/\P.clsV (toHp h) i l=0)) (zai (fun x=>∃ k:Nat,x=(((k:Int),()),(),Z3,())/\k<=l.length/\P.zmE (P.clsB (toHp h) i) (l.drop k)=P.clsV (toHp h) i l) (fun x=>((l.length:Int)-x.1.1).toNat) ⟨0,rfl,by omega,rfl⟩ ?_) ?_
 . rintro _ ⟨k,rfl,hk,e3⟩;dsimp only;refine zac (fun h4=>?_) fun h4=>zab ?_
   . simp only [qab]at h4;have hk':k<l.length:=by omega
     rw [qac,qac,zrV hk',W_id (n:=(k:Int)+1) (by omega)]
     rw [P.zvf (getD_some hk')]at e3;have hmx:=hm _ (zaJ (d:=0) hk')
     have h0x:=hx0 _ (zaJ (d:=0) hk')
     have h12:=hk12 _ (zaJ (d:=0) hk')
     generalize l.getD k 0=x at *
     refine zae (zag.2 ⟨by omega,by omega⟩) (zae (zag.2 ⟨by omega,by omega⟩) ?_)
     unfold mkp ofHd;dsimp only;rw [zm5 _ _ _ _ _ _ hmx,qaa];have hC:P.clsB (toHp h) i x = !(bif (h.2.2.1.getD i PG0).1 == 2 then (P.atH (toHp h) x).k != 0 else decide (P.zaP (P.atH (toHp h) x).k (P.atH (toHp h) x).n (P.atH (toHp h) x).m<=P.zeA h.1.1 h.1.2.1)):=by
      unfold P.clsB;rw [zpo];show (decide ((h.2.2.1.getD i PG0).1=1) && !decide (_<=P.zeA h.1.1 h.1.2.1) || decide ((h.2.2.1.getD i PG0).1=2)&&_)=_
      rcases h12 with e | e
      . rw [e];simp
      . rw [e];by_cases q:(P.atH (toHp h) x).k=0 <;> simp [q]
     rw [hC]at e3;dsimp only;refine zac (fun c=>zab ?_) fun c=>zab ?_
     . rw [if_pos c]at e3;exact .inl ⟨_,rfl,by rw [<-e3];exact h0x,by rw [<-e3]⟩
     . rw [if_neg (by rw [c];decide)]at e3
       exact ⟨⟨k+1,rfl,by omega,e3⟩,by dsimp only;omega⟩
   . simp only [qag]at h4;rw [P.zr0 (by omega)]at e3
     exact .inr ⟨rfl,e3.symm⟩
 . rintro _ (⟨f,rfl,h1,rfl⟩ | ⟨rfl,h1⟩)
   . exact zab (by rw [if_neg h1];rfl)
   . exact zab (by rw [if_pos h1];rfl)
namespace P
theorem zkD(all:List Int)(x:Hd):∀ (l:List Int) (k t:Nat) (f:Int),l[t]?=some f->(ptrB x.k x.n x.m ((k+t:Nat):Int)=true/\¬f=0/\¬f∈all)->(∀ (s:Nat) (g:Int),s<t->l[s]?=some g->ptrB x.k x.n x.m ((k+s:Nat):Int)=true->g=0\/g∈all)->za1 all x k l=some (k+t)
 | [],k,t,f,h,_,_=>by simp at h
 | c::l,k,0,f,h,hb,_=>by
  simp only [qce,Option.some.injEq]at h;subst h;rw [qa9]at hb ⊢
  rw [za1,if_pos hb]
 | c::l,k,t+1,f,h,hb,hs=>by
  rw [qbv]at h;rw [za1,if_neg,zkD all x l (k+1) t f h (by rwa [show k+1+t=k+(t+1) from by omega]) fun s g hst hg hp=>hs (s+1) g (by omega) (by rw [qbv];exact hg) (by rwa [show k+(s+1)=k+1+s from by omega])]
  . rw [show k+1+t=k+(t+1) from by omega]
  . rintro ⟨a1,a2,a3⟩;rcases hs 0 c (by omega) rfl a1 with e | e
    . exact a2 e
    . exact a3 e
theorem zyI(k n m:Int):(zgU k n m).Pairwise (fun a b=>a<b):=by
 unfold zgU;split
 . unfold zdf;refine List.Pairwise.filter _ ?_;rw [List.pairwise_map];exact (List.pairwise_lt_range (n:=n.toNat)).imp fun h=>by simp only [Int.ofNat_eq_natCast];omega
 . exact List.Pairwise.nil
theorem zyJ{k n m i:Int}(h:ptrB k n m i=true):i∈zgU k n m:=by
 obtain ⟨v,i0,i1⟩:=zxe h;rw [zs0 v];unfold zdf;refine qbR.2 ⟨qav.2 ⟨i.toNat,qbN.2 (by omega),by simp only [Int.ofNat_eq_natCast];omega⟩,h⟩
end P
end Go.VI
namespace Go.VI
open Go Go.Proofs
theorem zhH(h:HpD)(hw:HpW h):Tot (fun r=>toFd r.1.1=P.zbw (toHp h)) (F_audit_checkPointers (h,())):=by
 rw [zfP];dsimp only
 try simp only [zas]
 rw [zhe h hw,qaa];dsimp only;have hol:=zs7 (toHp h);have hup:=zvL (toHp h);have hwl:=hw.wl;have hO:P.zbw (toHp h)=P.zb4 (toHp h) (P.zaf (toHp h)) (P.zaf (toHp h)):=rfl
 rw [hO];have hob:∀ x∈P.zaf (toHp h),P.atE (toHp h) x=0/\P.getH (toHp h) x=P.atH (toHp h) x/\((P.zbG (toHp h) x).length:Int)=(P.atH (toHp h) x).n/\∀ t:Nat,(t:Int)<(P.atH (toHp h) x).n->(P.zbG (toHp h) x)[t]?=some (P.zap (toHp h).words (x+1+t)):=fun x hx=>⟨(P.zbU hx).1,(P.zpu hx).2,P.zoM hx,fun t ht=>P.zmb hx ht⟩
 generalize P.zaf (toHp h)=l at *
 refine zad (P:=fun r=>(∃ f,r = .inl ((),(),f,())/\toFd f=P.zb4 (toHp h) l l)\/(r = .inr ((),(),Z3,())/\P.zb4 (toHp h) l l=P.Fd.none)) (zai (fun x=>∃ k:Nat,x=(((k:Int),()),(),Z3,())/\k<=l.length/\P.zb4 (toHp h) l (l.drop k)=P.zb4 (toHp h) l l) (fun x=>((l.length:Int)-x.1.1).toNat) ⟨0,rfl,by omega,rfl⟩ ?_) ?_
 . rintro _ ⟨k,rfl,hkl,e3⟩;dsimp only;refine zac (fun h4=>?_) fun h4=>zab ?_
   rotate_left
   . simp only [qag]at h4;rw [P.zuK (by omega)]at e3
     exact .inr ⟨rfl,e3.symm⟩
   simp only [qab]at h4;have hk:k<l.length:=by omega
   rw [qac,W_id (n:=(k:Int)+1) (by omega)]
   rw [P.zxd (getD_some hk)]at e3;obtain ⟨hxa,hxg,hfl,hff⟩:=hob _ (zaJ (d:=0) hk)
   obtain ⟨-,-,-,-,-,-,b1,b2,-,-⟩:=ztY h hw hxa;obtain ⟨i0,j0,g0,bg⟩:=P.zoV hxa;have bwl:=bg.wl;have hwe:(toHp h).words.length=h.2.1.length:=rfl
   obtain ⟨-,a2,a3,a4,a5,a6⟩:=P.zjT hxa;unfold P.osz at bwl;rw [hxg]at e3;generalize l.getD k 0=x at *
   refine zae (zag.2 ⟨by omega,by omega⟩) (zad (zsw h hw x (by omega)) ?_)
   rintro ⟨⟨⟨(hk':Int),(n:Int),(m:Int),_⟩,(e':Int),_⟩,_⟩ ⟨-,hH⟩;dsimp only at hH ⊢
   rw [hxg]at hH;have ek:(P.atH (toHp h) x).k=hk':=(congrArg P.Hd.k hH).symm
   have en:(P.atH (toHp h) x).n=n:=(congrArg P.Hd.n hH).symm
   have em:(P.atH (toHp h) x).m=m:=(congrArg P.Hd.m hH).symm
   have hnone:=P.zgq l (P.atH (toHp h) x) (P.zbG (toHp h) x) 0;have hsome:=P.zkD l (P.atH (toHp h) x) (P.zbG (toHp h) x) 0;rw [ek,en,em]at hnone hsome;rw [en]at bwl a5 a6 hfl hff;rw [em]at a3 a4;refine zad (zj4 hk' n m ⟨a3,a4⟩ (by omega)) ?_
   rintro ⟨⟨(ps:List Int),_⟩,_⟩ hps;have hps:ps=P.zgU hk' n m:=hps
   have hpm:∀ i∈ps,P.ptrB hk' n m i=true:=fun i hi=>P.zqX (by rw [<-hps];exact hi)
   have hin:∀ i,P.ptrB hk' n m i=true->i∈ps:=fun i hi=>by rw [hps];exact P.zyJ hi
   have hpu:ps.Pairwise (fun a b=>a<b):=by rw [hps];exact P.zyI hk' n m
   have hpl:ps.length<=1000000:=by
    rw [hps];unfold P.zgU
    split
    . unfold P.zdf;have:=qbH (fun i=>P.ptrB hk' n m i) ((List.range n.toNat).map Int.ofNat)
      rw [qaj,qcu]at this;omega
    . simp
   clear hps;dsimp only;refine zad (P:=fun r=>(∃ f,r = .inl ((),(),f,())/\∃ t:Nat,t<ps.length/\(¬P.zap (toHp h).words (x+1+ps.getD t 0)=0/\¬P.zap (toHp h).words (x+1+ps.getD t 0)∈l)/\(∀ s,s<t->P.zap (toHp h).words (x+1+ps.getD s 0)=0\/P.zap (toHp h).words (x+1+ps.getD s 0)∈l)/\f=(6,P.ofI h.1.1 h.1.2.1 (x+1+ps.getD t 0),x+1+ps.getD t 0,()))\/(r = .inr ((),(),Z3,())/\∀ s,s<ps.length->P.zap (toHp h).words (x+1+ps.getD s 0)=0\/P.zap (toHp h).words (x+1+ps.getD s 0)∈l))
    (zai (fun y=>∃ t:Nat,y=(((t:Int),()),(),Z3,())/\t<=ps.length/\∀ s,s<t->P.zap (toHp h).words (x+1+ps.getD s 0)=0\/P.zap (toHp h).words (x+1+ps.getD s 0)∈l) (fun y=>((ps.length:Int)-y.1.1).toNat) ⟨0,rfl,by omega,fun s hs=>by omega⟩ ?_) ?_
   . rintro _ ⟨t,rfl,htl,hgood⟩;dsimp only;refine zac (fun h5=>?_) fun h5=>zab ?_
     rotate_left
     . simp only [qag]at h5;exact .inr ⟨rfl,fun s hs=>hgood s (by omega)⟩
     simp only [qab]at h5;have ht:t<ps.length:=by omega
     rw [qac,W_id (n:=(t:Int)+1) (by omega)]
     have hpi:=hpm _ (zaJ (d:=0) ht)
     obtain ⟨-,i1,i2⟩:=P.zxe hpi;rw [U_id (n:=x+1) (by omega),U_id (n:=ps.getD t 0) (by omega),U_id (n:=x+1+ps.getD t 0) (by omega),zkH h (x+1+ps.getD t 0) (by omega) (by omega) hwl,qaa]
     refine zae (zag.2 ⟨by omega,by omega⟩) (zad (zqo l (by omega) hup _) ?_)
     rintro ⟨⟨(b:Bool),_⟩,_⟩ hb;dsimp only at hb ⊢
     refine zac (fun c=>?_) fun c=>zab ?_
     . have hnb:¬(P.zap (toHp h).words (x+1+ps.getD t 0)=0\/P.zap (toHp h).words (x+1+ps.getD t 0)∈l):=fun q=>by rw [hb.2 q]at c;cases c
       rw [zea];dsimp only;rw [ziX _ _ _ (by omega)]
       exact zab (.inl ⟨_,rfl,t,ht,⟨fun q=>hnb (.inl q),fun q=>hnb (.inr q)⟩,hgood,rfl⟩)
     . have hbt:b=true:=by simpa using c
       exact ⟨⟨t+1,rfl,by omega,fun s hs=>by
        by_cases e:s=t
        . subst e;exact hb.1 hbt
        . exact hgood s (by omega)⟩,by dsimp only;omega⟩
   . rintro _ (⟨f,rfl,t,ht,hbad,hgood,rfl⟩ | ⟨rfl,hgood⟩)
     . have hpi:=hpm _ (zaJ (d:=0) ht)
       obtain ⟨-,i1,i2⟩:=P.zxe hpi;obtain ⟨q,hq⟩:=qaP i1;have hbf:P.za1 l (P.atH (toHp h) x) 0 (P.zbG (toHp h) x)=some (0+q):=by
        refine hsome q (P.zap (toHp h).words (x+1+q)) (hff q (by omega)) ⟨by rw [qaH,<-hq];exact hpi,by rw [<-hq];exact hbad⟩ fun s g hs hg hp=>?_
        rw [hff s (by omega)]at hg
        injection hg with hg
        rw [<-hg];rw [qaH]at hp;obtain ⟨u,hu,eu⟩:=qb5.1 (hin _ hp);have eu:ps.getD u 0=(s:Int):=by rw [qax,qaq hu];exact eu
        have hut:u<t:=qbQ fun c=>by
         have:=zpR hpu (show t<=u by omega) hu
         omega
        have:=hgood u hut
        rw [eu]at this;exact this
       rw [hbf]at e3;refine zab (.inl ⟨_,rfl,?_⟩);rw [<-e3];show _=P.zs1 (toHp h) _
       unfold P.zs1 toFd;rw [show x+1+((0+q:Nat):Int)=x+1+ps.getD t 0 by omega]
       rfl
     . have hbf:P.za1 l (P.atH (toHp h) x) 0 (P.zbG (toHp h) x)=none:=hnone.2 fun s g hg hp=>by
        have hs:(s:Int)<n:=by
         have:=(qap.1 hg).1
         omega
        rw [hff s hs]at hg;injection hg with hg
        rw [<-hg];rw [qaH]at hp;obtain ⟨u,hu,eu⟩:=qb5.1 (hin _ hp);have eu:ps.getD u 0=(s:Int):=by rw [qax,qaq hu];exact eu
        have:=hgood u hu
        rw [eu]at this;exact this
       rw [hbf]at e3;exact zab ⟨⟨k+1,rfl,by omega,e3⟩,by dsimp only;omega⟩
 . rintro _ (⟨f,rfl,hf⟩ | ⟨rfl,hf⟩)
   . exact zab hf
   . exact zab (by rw [hf];rfl)
end Go.VI
namespace Go.VI.P
open Go
theorem ziI{h:Hp}(hok:okH h=true){k:Nat}{g:Pg}(hg:h.pages[k]?=some g)(e:g.kind=2):1<=zat h.pw h.np g.used/\zat h.pw h.np g.used<=4/\(k:Int)+zat h.pw h.np g.used<=h.pages.length /\
 ∀ t:Nat,k<t->(t:Int)<k+zat h.pw h.np g.used->∃ y,h.pages[t]?=some y/\y.kind=3/\y.space=g.space:=by
 obtain ⟨p1,p2,p3,p4,p5,p6⟩:=zaN (zf9 hok);have:=za0.1 p6 k g hg
 unfold zbn at this;rw [if_neg (by omega),if_neg (by omega),if_pos e]at this
 unfold zcz at this;simp only [qae,qab]at this;obtain ⟨⟨⟨⟨q1,q2⟩,q3⟩,q4⟩,q5⟩:=this;refine ⟨q2,zy3 _ _ _,q4,fun t t1 t2=>?_⟩
 have hl:t<h.pages.length:=by omega
 have hy:h.pages[t]?=some h.pages[t]:=qaq hl
 exact ⟨_,hy,zbW.1 q5 t (by omega) (by omega) _ hy⟩
theorem zvz{h:Hp}(hok:okH h=true){j:Nat}{y:Pg}(hy:h.pages[j]?=some y)(e:y.kind=3):∃ (k:Nat) (g:Pg),k<j/\h.pages[k]?=some g/\g.kind=2/\(j:Int)<k+zat h.pw h.np g.used:=by
 obtain ⟨p1,p2,p3,p4,p5,p6⟩:=zaN (zf9 hok);have:=za0.1 p6 j y hy
 unfold zbn at this;rw [if_neg (by omega),if_neg (by omega),if_neg (by omega),if_pos e]at this
 unfold zd6 zf6 at this;rw [qae]at this;obtain ⟨l,l1,l2,-,l4⟩:=(zb9 h.pw h.np h.pages j 1).1 this.2;have hj:=(qap.1 hy).1;have hl:h.pages[l]?=some (h.pages.getD l Pg.zero):=by
  rw [qax,qaq (show l<h.pages.length by omega)];rfl
 exact ⟨l,_,l1,hl,l2,by omega⟩
theorem zw3{h:Hp}(hok:okH h=true){k:Nat}{g:Pg}(hg:h.pages[k]?=some g):0<=zcU h g/\zcU h g<=4/\(k:Int)+zcU h g<=h.pages.length:=by
 have hk:=(qap.1 hg).1;unfold zcU;by_cases e2:g.kind=2
 . rw [if_pos e2];have:=ziI hok hg e2;omega
 . rw [if_neg e2];split <;> omega
theorem zpV{h:Hp}(hok:okH h=true){k j:Nat}{g:Pg}(hg:h.pages[k]?=some g)(h1:k<=j)(h2:(j:Int)<k+zcU h g):za5 h.pages j=k:=by
 have hgd:h.pages.getD k Pg.zero=g:=zam hg
 have h3:¬g.kind=3:=fun c=>by
  unfold zcU at h2;rw [if_neg (by omega),if_pos c]at h2;omega
 obtain ⟨d,rfl⟩:∃ d,j=k+d:=⟨j-k,by omega⟩
 refine zeV (by rw [hgd];exact h3) d fun t t1 t2=>?_
 have e2:g.kind=2:=qbQ fun e2=>by
  unfold zcU at h2;rw [if_neg e2]at h2;split at h2 <;> omega
 have hsp:zcU h g=zat h.pw h.np g.used:=by unfold zcU;rw [if_pos e2]
 obtain ⟨y,y1,y2,-⟩:=(ziI hok hg e2).2.2.2 t t1 (by omega)
 rw [zam y1];exact y2
def SpOk(h:Hp)(k:Nat):Prop:=(pgAt h k).kind=0\/(pgAt h k).space=h.space
def UseP(h:Hp)(k:Nat)(p:Int):Prop:=(∃ x∈zaQ h k,x<=p/\p<x+zeg h x)\/zap h.words p=0
def InSp(h:Hp)(k:Nat)(p:Int):Prop:=4096+(k:Int)*h.pw<=p/\p<4096+(k:Int)*h.pw+zcU h (pgAt h k)*h.pw
def zzu(h:Hp)(k:Nat):Prop:=SpOk h k/\zbx h k=0/\clsV h k (zaQ h k)=0/\∀ p,InSp h k p->UseP h k p
def zzR(h:Hp)(k:Nat)(F:Fd):Prop :=
 (¬SpOk h k/\F=⟨2,k,0⟩)\/(SpOk h k/\¬zbx h k=0/\F=⟨3,k,0⟩)\/(SpOk h k/\zbx h k=0/\¬clsV h k (zaQ h k)=0/\F=⟨5,k,clsV h k (zaQ h k)⟩) \/
 (SpOk h k/\zbx h k=0/\clsV h k (zaQ h k)=0/\∃ p,InSp h k p/\¬UseP h k p/\(∀ q,InSp h k q->q<p->UseP h k q)/\F=⟨4,ofI h.pw h.np p,p⟩)
theorem zkA(h:Hp)(i:Nat):∀ (l:List Bool) (k t:Nat),l[t]?=some false->¬zkS h i ((k+t:Nat):Int)=0->(∀ (s:Nat) (b:Bool),s<t->l[s]?=some b->b=true\/zkS h i ((k+s:Nat):Int)=0)->zdi h i k l=4096+(i:Int)*h.pw+((k+t:Nat):Int)
 | [],k,t,ht,_,_=>by simp at ht
 | c::l,k,0,ht,hx,_=>by
  simp only [qce,Option.some.injEq]at ht;subst ht;rw [qa9]at hx ⊢
  rw [zdi,if_pos ⟨rfl,hx⟩]
 | c::l,k,t+1,ht,hx,hs=>by
  rw [qbv]at ht;rw [zdi,if_neg,zkA h i l (k+1) t ht (by rwa [show k+1+t=k+(t+1) from by omega]) fun s b hst hb=>?_]
  . rw [show k+1+t=k+(t+1) from by omega]
  . have:=hs (s+1) b (by omega) (by rw [qbv];exact hb)
    rwa [show k+(s+1)=k+1+s from by omega]at this
  . rintro ⟨a1,a2⟩;rcases hs 0 c (by omega) rfl with e | e
    . rw [a1]at e;cases e
    . exact a2 e
theorem zmP{h:Hp}(hok:okH h=true){j i:Nat}(hj:j<h.pages.length)(hi:za5 h.pages j=i)(hu:∀ t:Nat,(t:Int)<h.pw->UseP h i (4096+(j:Int)*h.pw+t)):zhB h j=0:=by
 obtain ⟨p1,p2,p3,-⟩:=zan hok;have c:=zaj p1;unfold zhB;rw [zhC h j (by omega),hi]
 intro t b hb;have ht:(t:Int)<h.pw:=by
  have:=(qap.1 hb).1
  rw [zlK]at this;omega
 rw [zfT h j _ ht]at hb;injection hb with hb
 subst hb;rcases hu t ht with e | e
 . exact .inl (zhU.2 e)
 . right
   rw [qaH,zeT p1 (by omega) ht];exact e
theorem zv3{h:Hp}(hok:okH h=true){j i:Nat}(hj:j<h.pages.length)(hi:za5 h.pages j=i){t:Nat}(ht:(t:Int)<h.pw)(hn:¬UseP h i (4096+(j:Int)*h.pw+t))(hu:∀ s:Nat,s<t->UseP h i (4096+(j:Int)*h.pw+s)):zhB h j=4096+(j:Int)*h.pw+t:=by
 obtain ⟨p1,p2,p3,-⟩:=zan hok;have c:=zaj p1;unfold zhB;rw [hi];have hub:zo8 h j (zaQ h i) t=false:=by
  cases hb:zo8 h j (zaQ h i) t with
  | false=>rfl
  | true=>exact absurd (.inl (zhU.1 hb)) hn
 rw [zkA h j _ 0 t (by rw [zfT h j _ ht,hub]) (by rw [qaH,zeT p1 (by omega) ht];exact fun e=>hn (.inr e)) fun s b hs hb=>?_,qaH]
 rw [zfT h j _ (by omega)]at hb
 injection hb with hb
 subst hb;rcases hu s hs with e | e
 . exact .inl (zhU.2 e)
 . right
   rw [qaH,zeT p1 (by omega) (by omega)];exact e
theorem zor{h:Hp}{k:Nat}(h1:SpOk h k)(h2:zbx h k=0)(h3:clsV h k (zaQ h k)=0)(h4:zhB h k=0):(zej h k).fault=0:=by
 unfold zej;rw [if_neg (by rintro ⟨a,b⟩;exact h1.elim a b),if_neg (by simpa using h2),if_neg (by simpa using h3),if_neg (by simpa using h4)];rfl
theorem zha(h:Hp):∀ (n i:Nat),(∀ j,i<=j->j<i+n->(zej h j).fault=0)->zaC h i n=Fd.none
 | 0,i,_=>rfl
 | n+1,i,hh=>by
  rw [zaC,if_neg (by have:=hh i (qao _) (by omega);simpa using this)]
  exact zha h n (i+1) fun j h1 h2=>hh j (by omega) (by omega)
theorem zf2(h:Hp):∀ (n i j:Nat),i<=j->j<i+n->¬(zej h j).fault=0->(∀ t,i<=t->t<j->(zej h t).fault=0)->zaC h i n=zej h j
 | 0,i,j,_,_,_,_=>by omega
 | n+1,i,j,h1,h2,hb,hg=>by
  rw [zaC];by_cases e:i=j
  . subst e;rw [if_pos hb]
  . rw [if_neg (by have:=hg i (qao _) (by omega);simpa using this)]
    exact zf2 h n (i+1) j (by omega) (by omega) hb fun t t1 t2=>hg t (by omega) t2
theorem ztF{pw:Int}(hp:0<=pw){k j:Nat}{n:Int}(h1:k<=j)(h2:(j:Int)<k+n){t:Nat}(ht:(t:Int)<pw):4096+(k:Int)*pw<=4096+(j:Int)*pw+t/\4096+(j:Int)*pw+t<4096+(k:Int)*pw+n*pw:=by
 have a:=qaV (show (k:Int)<=j by omega) hp
 have b:=qaV (show (j:Int)+1<=k+n by omega) hp
 rw [qbd,qbi,qbd]at b;omega
theorem zme{h:Hp}(hok:okH h=true){k:Nat}(hk:k<=h.pages.length)(hn:∀ j,j<k->zzu h j):∀ j,j<k->(zej h j).fault=0:=fun j hj=>by
 obtain ⟨p1,p2,p3,-⟩:=zan hok;have c:=zaj p1;obtain ⟨n1,n2,n3,n4⟩:=hn j hj;have hy:h.pages[j]?=some h.pages[j]:=qaq (by omega)
 generalize h.pages[j]=y at hy
 refine zor n1 n2 n3 ?_;by_cases e:y.kind=3
 . obtain ⟨i,g,i1,i2,i3,i4⟩:=zvz hok hy e;have hsp:zcU h g=zat h.pw h.np g.used:=by unfold zcU;rw [if_pos i3]
   obtain ⟨-,-,-,m4⟩:=hn i (by omega)
   refine zmP hok (by omega) (zpV hok i2 (by omega) (by rw [hsp];exact i4)) fun t ht=>m4 _ ?_
   have:=ztF (pw:=h.pw) (by omega) (show i<=j by omega) i4 ht
   unfold InSp;rw [zdR i2,hsp];exact this
 . have hs1:1<=zcU h y:=by
    unfold zcU;by_cases e2:y.kind=2
    . rw [if_pos e2];exact (ziI hok hy e2).1
    . rw [if_neg e2,if_neg e];omega
   refine zmP hok (by omega) (zpV hok hy (qao _) (by omega)) fun t ht=>n4 _ ?_
   have:=ztF (pw:=h.pw) (by omega) (qao j) (show (j:Int)<j+zcU h y by omega) ht
   unfold InSp;rw [zdR hy];exact this
theorem ztN{h:Hp}(hok:okH h=true){k:Nat}(hk:k<h.pages.length)(hn:∀ j,j<k->zzu h j){F:Fd}(hF:zzR h k F):zaC h 0 h.pages.length=F/\¬F.fault=0:=by
 obtain ⟨p1,p2,p3,-⟩:=zan hok;have c:=zaj p1;have hb:=zme hok (by omega) hn
 have key:∀ j,k<=j->j<h.pages.length->zej h j=F->¬F.fault=0->(∀ t,k<=t->t<j->(zej h t).fault=0)->zaC h 0 h.pages.length=F/\¬F.fault=0:=fun j j1 j2 e q ht=>by
  refine ⟨?_,q⟩;rw [zf2 h _ 0 j (by omega) (by omega) (by rw [e];exact q) fun t t1 t2=>?_,e]
  by_cases hlt:t<k
  . exact hb t hlt
  . exact ht t (by omega) t2
 rcases hF with ⟨a,rfl⟩ | ⟨a,b,rfl⟩ | ⟨a,b,d,rfl⟩ | ⟨a,b,d,p,q1,q2,q3,rfl⟩
 . refine key k (qao _) hk ?_ (show ¬(2:Int)=0 by decide) fun t t1 t2=>by omega
   unfold zej;rw [if_pos ⟨fun e=>a (.inl e),fun e=>a (.inr e)⟩]
 . refine key k (qao _) hk ?_ (show ¬(3:Int)=0 by decide) fun t t1 t2=>by omega
   unfold zej;rw [if_neg (by rintro ⟨u,v⟩;exact a.elim u v),if_pos b]
 . refine key k (qao _) hk ?_ (show ¬(5:Int)=0 by decide) fun t t1 t2=>by omega
   unfold zej;rw [if_neg (by rintro ⟨u,v⟩;exact a.elim u v),if_neg (by simpa using b),if_pos d]
 . have hg:h.pages[k]?=some h.pages[k]:=qaq hk
   generalize h.pages[k]=g at hg
   have hpg:=zdR hg;obtain ⟨s1,s2,s3⟩:=zw3 hok hg;have q1':=q1;unfold InSp at q1'
   rw [hpg]at q1'
   have hk0:0<=(k:Int)*h.pw:=qbl (by omega) (by omega)
   have hle:((k:Int)+zcU h g)*h.pw<=h.np*h.pw:=qaV (by omega) (by omega)
   rw [qbd]at hle;obtain ⟨j,t,ep,j1,t1⟩:=zoq p1 (p:=p) (by omega) (by omega)
   have l1:(k:Int)*h.pw<((j:Int)+1)*h.pw:=by rw [qbd ((j:Int)),qbi];omega
   have l2:(j:Int)*h.pw<((k:Int)+zcU h g)*h.pw:=by rw [qbd ((k:Int))];omega
   have l1:=Int.lt_of_mul_lt_mul_right l1 (by omega)
   have l2:=Int.lt_of_mul_lt_mul_right l2 (by omega)
   have inS:∀ (j' s:Nat),k<=j'->(j':Int)<k+zcU h g->(s:Int)<h.pw->InSp h k (4096+(j':Int)*h.pw+s):=fun j' s a1 a2 a3=>by
    unfold InSp;rw [hpg];exact ztF (by omega) a1 a2 a3
   have three:∀ j',k<=j'->(j':Int)<k+zcU h g->SpOk h j'/\zbx h j'=0/\clsV h j' (zaQ h j')=0:=fun j' a1 a2=>by
    by_cases e:j'=k
    . subst e;exact ⟨a,b,d⟩
    . have e2:g.kind=2:=qbQ fun e2=>by
       unfold zcU at a2;rw [if_neg e2]at a2;split at a2 <;> omega
      have hsp:zcU h g=zat h.pw h.np g.used:=by unfold zcU;rw [if_pos e2]
      obtain ⟨y,y1,y2,y3⟩:=(ziI hok hg e2).2.2.2 j' (by omega) (by omega)
      obtain ⟨z1,z2⟩:=zxz hok y1 (.inr y2);refine ⟨.inr ?_,z1,by rw [z2];rfl⟩
      rw [zdR y1,y3];have a':=a;unfold SpOk at a'
      rw [hpg]at a'
      exact a'.resolve_left (by omega)
   have hlow:∀ (j' s:Nat),k<=j'->(j':Int)<k+zcU h g->(s:Int)<h.pw->(j'<j\/(j'=j/\s<t))->UseP h k (4096+(j':Int)*h.pw+s):=fun j' s a1 a2 a3 a4=>by
    refine q3 _ (inS j' s a1 a2 a3) ?_;rcases a4 with a4 | ⟨rfl,a4⟩
    . have:=qaV (show (j':Int)+1<=j by omega) (show 0<=h.pw by omega)
      rw [qbd,qbi]at this;omega
    . omega
   have hof:ofI h.pw h.np p=j:=by
    obtain ⟨o1,o2,o3⟩:=zs6 (p:=(j:Int)) (o:=(t:Int)) p1 (by unfold inPg;exact qad ⟨by omega,by omega,by omega,t1⟩)
    rw [ep,(zma p1 o1).1];exact o2
   obtain ⟨w1,w2,w3⟩:=three j (by omega) l2
   have hd:zhB h j=p:=by
    rw [ep];exact zv3 hok (by omega) (zpV hok hg (by omega) l2) t1 (by rw [<-ep];exact q2) fun s hs=>hlow j s (by omega) l2 (by omega) (.inr ⟨rfl,hs⟩)
   refine key j (by omega) (by omega) ?_ (show ¬(4:Int)=0 by decide) fun j' a1 a2=>?_
   . unfold zej;rw [if_neg (by rintro ⟨u,v⟩;exact w1.elim u v),if_neg (by simpa using w2),if_neg (by simpa using w3),hd,if_pos (by omega),hof]
   . obtain ⟨v1,v2,v3⟩:=three j' a1 (by omega)
     exact zor v1 v2 v3 (zmP hok (by omega) (zpV hok hg a1 (by omega)) fun s hs=>hlow j' s a1 (by omega) hs (.inl a2))
end Go.VI.P
