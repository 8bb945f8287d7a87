import Derived.Test.YtlkibcnhdjmfjaaGreatU03
import Derived.Test.YtlkibcnhdjmfjaaGreatU04
import Derived.Test.YtlkibcnhdjmfjaaGreatU06
import Derived.Test.YtlkibcnhdjmfjaaGreatU08
import Derived.Test.YtlkibcnhdjmfjaaGreatU10
import Derived.Test.YtlkibcnhdjmfjaaGreatU11
set_option linter.unusedSimpArgs false
set_option linter.unusedVariables false
set_option maxRecDepth 100000
set_option maxHeartbeats 4000000
noncomputable section
namespace Go.VI
open Go Go.Proofs
def first{α:Type}:Tree α->Option α
 | .leaf a=>some a
 | .need _ k=>first k
 | .br _ a _=>first a
 | _=>none
def outW(o:Option Out):List Wr:=(o.getD (.ret,0,[])).2.2
def entC(E:Entry)(r:Rden E.rs×Oden E.ps):Ent:=(⟨E.f,E.sh,E.ps,E.rs,fun _=>some r⟩:Entry).ent
abbrev AdR:=(Int×Int×Unit)×Unit
abbrev AtR:=((Int×Int×Int×Unit)×Int×Unit)×Unit
abbrev SzR:=(Int×Unit)×Unit
def WA(d:Pden psP)(v:Int):List Wr:=outW (first (runCode te tblP [] 46 (cAt [1,1,1,0] c81) 0 67 (hdP d v)))
theorem cA_eq(d:Pden psP)(v:Int):rcP (cAt [1,1,1,0] c81) 0 67 (hdP d v)=cond (inB d.2.1 d.1.2.2.1.length) (cond (decide (v<(d.1.2.2.1.getD d.2.1.toNat (0,0,0,0,())).2.2.1)) (some (.normal,579,WA d v)) (some (.exit 0,579,WA d v))) none:=by kernel_rfl
def ppA(d:Pden psP)(v:Int):List Wr:=frzW (WA d v++hdP d v)
def WB(d:Pden psP)(v:Int)(r:AdR):List Wr:=outW (runCode te [entC E_page_Address r] [] 46 (cAt [1,1,1,1,1,0] c81) 1 579 (ppA d v)).ev
theorem cB_eq(d:Pden psP)(v:Int):rcP (cAt [1,1,1,1,1,0] c81) 1 579 (ppA d v)=(F_page_Address (d.1.1,d.2.1,v,())).bind fun r=>some (.normal,1219,WB d v r):=by kernel_rfl
def ppB(d:Pden psP)(v:Int)(r:AdR):List Wr:=frzW (WB d v r++ppA d v)
def WC(d:Pden psP)(v:Int)(r:AdR)(q:AtR):List Wr:=outW (runCode te [entC E_object_At q] [] 46 (cAt [1,1,1,1,1,1,0] c81) 1 1219 (ppB d v r)).ev
theorem cC_eq(d:Pden psP)(v:Int)(r:AdR):rcP (cAt [1,1,1,1,1,1,0] c81) 1 1219 (ppB d v r)=(F_object_At (d.1,r.1.1,())).bind fun q=>some (.normal,1795,WC d v r q):=by kernel_rfl
def pp2(d:Pden psP)(v:Int)(r:AdR)(q:AtR):List Wr:=frzW (WC d v r q++ppB d v r)
def WY(d:Pden psP)(v:Int)(r:AdR)(q:AtR):List Wr:=(za8 te tblP ops81 46 1795 (zbG ops81) none (List.range 5) (pp2 d v r q) []).ev.getD []
theorem wY_eq(d:Pden psP)(v:Int)(r:AdR)(q:AtR):(za8 te tblP ops81 46 1795 (zbG ops81) none (List.range 5) (pp2 d v r q) []).ev=some (WY d v r q):=by kernel_rfl
theorem yP_eq(d:Pden psP)(v:Int)(r:AdR)(q:AtR):(ziy 31).evs (look (frzW (WY d v r q++pp2 d v r q)))=some ():=by kernel_rfl
def xP(r:AdR)(q:AtR):Tden tsW:=(r.1.1,(q.1.1,(q.1.2.1,())),())
theorem xP_eq(d:Pden psP)(v:Int)(r:AdR)(q:AtR):(zmE tsW [.tmp 32,.tmp 35]).evs (look (frzW (WY d v r q++pp2 d v r q)))=some (xP r q):=by kernel_rfl
def WT(b:Bool)(d:Pden psP)(v:Int)(r:AdR)(q:AtR):List Wr:=(za8 te tblP ops81 46 1795 (zbG ops81) none (List.range' 6 5) (kbW 36 b::frzW (WY d v r q++pp2 d v r q)) []).ev.getD []
theorem wTt_eq(d:Pden psP)(v:Int)(r:AdR)(q:AtR):(za8 te tblP ops81 46 1795 (zbG ops81) none (List.range' 6 5) (kbW 36 true::frzW (WY d v r q++pp2 d v r q)) []).ev=some (WT true d v r q):=by kernel_rfl
theorem wTf_eq(d:Pden psP)(v:Int)(r:AdR)(q:AtR):(za8 te tblP ops81 46 1795 (zbG ops81) none (List.range' 6 5) (kbW 36 false::frzW (WY d v r q++pp2 d v r q)) []).ev=some (WT false d v r q):=by kernel_rfl
def pp3(b:Bool)(d:Pden psP)(v:Int)(r:AdR)(q:AtR):List Wr:=frzW (WT b d v r q++(kbW 36 b::frzW (WY d v r q++pp2 d v r q)))
theorem cF_eq(d:Pden psP)(v:Int)(r:AdR)(q:AtR):rcP (cAt [1,1,1,1,1,1,1,0,1] c81) 1 (1795+64*11) (pp3 false d v r q)=some (.ret,2499,[]):=by kernel_rfl
theorem cT_eq(d:Pden psP)(v:Int)(r:AdR)(q:AtR):rcP (cAt [1,1,1,1,1,1,1,0,1] c81) 1 (1795+64*11) (pp3 true d v r q)=cond (errB (xP r q)) (some (.ret,2499,[])) (some (.normal,2499,[])):=by kernel_rfl
def pp4(d:Pden psP)(v:Int)(r:AdR)(q:AtR):List Wr:=frzW ([]++pp3 true d v r q)
def WE(d:Pden psP)(v:Int)(r:AdR)(q:AtR)(u:SzR):List Wr:=outW (runCode te [entC E_header_Size u] [] 46 (cAt [1,1,1,1,1,1,1,1] c81) 1 2499 (pp4 d v r q)).ev
theorem cE_eq(d:Pden psP)(v:Int)(r:AdR)(q:AtR):rcP (cAt [1,1,1,1,1,1,1,1] c81) 1 2499 (pp4 d v r q)=(F_header_Size (q.1.1,())).bind fun u=>some (.normal,2819,WE d v r q u):=by kernel_rfl
theorem vE_eq(d:Pden psP)(v:Int)(r:AdR)(q:AtR)(u:SzR):(zvY 4).evs (look (frzW (WE d v r q u++pp4 d v r q)))=some (IntKind.i64.wrap (v+u.1.1)):=by kernel_rfl
theorem uE_eq(d:Pden psP)(v:Int)(r:AdR)(q:AtR)(u:SzR):zcD zjF (WE d v r q u++([]++(WT true d v r q++(kbW 36 true::(WY d v r q++(WC d v r q++(WB d v r++WA d v)))))))=true:=by kernel_rfl
theorem zvP(d:Pden psP)(v:Int):zcc d v=cond (inB d.2.1 d.1.2.2.1.length) (cond (decide (v<(d.1.2.2.1.getD d.2.1.toNat (0,0,0,0,())).2.2.1)) ((F_page_Address (d.1.1,d.2.1,v,())).bind fun r=>(F_object_At (d.1,r.1.1,())).bind fun q=>
 cond (errB (xP r q)) (some (.inl (xP r q,none))) ((F_header_Size (q.1.1,())).bind fun u=>some (.inl (xP r q,some (IntKind.i64.wrap (v+u.1.1)))))) (some (.inr ()))) none:=by
 unfold zcc;rw [cA_eq];cases inB d.2.1 d.1.2.2.1.length with
 | false=>rfl
 | true=>
 cases decide (v<(d.1.2.2.1.getD d.2.1.toNat (0,0,0,0,())).2.2.1) with
 | false=>rfl
 | true=>
 simp only [qai,qac];rw [show frzW (WA d v++hdP d v)=ppA d v from rfl,cB_eq]
 cases F_page_Address (d.1.1,d.2.1,v,()) with
 | none=>rfl
 | some r=>
 simp only [qac];rw [show frzW (WB d v r++ppA d v)=ppB d v r from rfl,cC_eq]
 cases F_object_At (d.1,r.1.1,()) with
 | none=>rfl
 | some q=>
 simp only [qac];rw [show frzW (WC d v r q++ppB d v r)=pp2 d v r q from rfl,wY_eq]
 simp only [qac];rw [yP_eq];simp only [qac];rw [xP_eq];simp only [qac,tailP];rw [wTf_eq];simp only [qac];rw [show frzW (WT false d v r q++(kbW 36 false::frzW (WY d v r q++pp2 d v r q)))=pp3 false d v r q from rfl,cF_eq]
 simp only [qac];rw [wTt_eq];simp only [qac];rw [show frzW (WT true d v r q++(kbW 36 true::frzW (WY d v r q++pp2 d v r q)))=pp3 true d v r q from rfl,cT_eq]
 cases he:errB (xP r q) with
 | true=>rfl
 | false=>
 simp only [qag,qac];rw [show frzW ([]++pp3 true d v r q)=pp4 d v r q from rfl,cE_eq]
 cases F_header_Size (q.1.1,()) with
 | none=>rfl
 | some u=>
 simp only [qac];rw [vE_eq];simp only [qac];rw [uE_eq]
 rfl
end Go.VI
namespace Go.VI
open Go
theorem zbe(a b c:Int):F_page_within (a,b,c,())=some ((decide (b<=a/\a<=c),()),()):=by
 rw [zlV];dsimp only
 rw [cand,Bool.decide_and]
theorem zbN(pw np:Int):F_page_ValidConf ((pw,np,()),())=some ((confB pw np,()),()):=by
 rw [zio];dsimp only
 rw [zbe,zbe,qac,qac];dsimp only;have e:confB pw np=(decide (16<=pw/\pw<=64)&&(pw.tmod 4 == 0)&&decide (8<=np/\np<=64)):=by
  rw [qbe,za6];simp only [qae,qaa,qaE];omega
 rw [e];cases decide (16<=pw/\pw<=64) <;> cases (pw.tmod 4 == 0) <;> rfl
theorem zls(pw np:Int):F_page_size ((pw,np,()),())=some ((W (pw*np),()),()):=by
 rw [zo9]
theorem zef(n:Int):F_page_isSpace (n,())=some ((P.zcG n,()),()):=by
 rw [zkK];dsimp only
 rw [cor];unfold P.zcG
 rw [Bool.decide_or];rfl
theorem zhN(n:Int):F_page_isPins (n,())=some ((P.zea n,()),()):=by
 rw [zlW];dsimp only
 rw [zbe,qac]
 rfl
theorem zew(pw np:Int):F_page_SmallWords ((pw,np,()),())=some ((P.zdX pw np,()),()):=by
 rw [zg8];dsimp only
 rw [zbN,qac];dsimp only;cases hc:confB pw np
 · rw [P.zvR (by rw [zaO];exact hc)];rfl
 · have c:=za6.1 hc;rw [P.zjY (by rw [zaO];exact hc)]
   have hq:W (pw.tdiv 4)=pw / 4:=by rw [qbE (by omega)];exact W_id (by omega)
   rw [hq];rfl
theorem zgK(pw np n:Int):F_page_Need ((pw,np,()),n,())=some ((P.zax pw np n,()),()):=by
 rw [zpa];dsimp only
 rw [zbN,zbe,zew,qac,qac,qac];dsimp only;cases hc:confB pw np
 · rw [P.zgB (.inl (by rw [zaO];exact hc))];rfl
 have c:=za6.1 hc;have hc':P.confB pw np=true:=by rw [zaO];exact hc
 have w4:W (4*pw)=4*pw:=W_id (by omega)
 rw [w4,P.zjY hc'];by_cases h1:1<=n/\n<=4*pw
 · rw [qab h1,P.zgA hc' h1.1];by_cases h2:n<=pw / 4
   · rw [qab h2,P.zqW h2];rfl
   · rw [qaj h2,P.zuS (by omega) (by omega) (by omega) (by omega)]
     have w1:W (n+pw)=n+pw:=W_id (by omega)
     have w2:W (n+pw-1)=n+pw-1:=W_id (by omega)
     rw [w1,w2,qbE (by omega)]
     have hd:=Int.ediv_le_self (a:=n+pw-1) pw (by omega)
     have hd0:=qbS (a:=n+pw-1) (b:=pw) (by omega) (by omega)
     rw [W_id (by omega)]
     have hpw:(!pw == 0)=true:=by simp;omega
     rw [hpw];rfl
 · rw [qaj h1];have:P.zax pw np n = -1:=by
    by_cases h2:n<1
    · exact P.zgB (.inr h2)
    · rw [P.zgA hc' (by omega)]
      exact P.ztc (by omega) (by omega) (by omega)
   rw [this];rfl
theorem ziS(pw np:Int)(ps:List PgD)(k:Nat)(hk:k<ps.length)(h0:(ps.getD k PG0).1=0):F_page_table_free (((pw,np,()),ps,()),(k:Int),())=some ((P.zpx (toPg (ps.getD k PG0)),()),()):=by
 rw [zg7];dsimp only
 rw [zam.2 ⟨by omega,by omega⟩,qad,h0]
 generalize ps.getD k PG0=X
 obtain ⟨a,b,c,d,_⟩:=X;have:P.zpx (toPg (a,b,c,d,()))=((b == 0)&&((c == 0)&&((d == 0)&&true))):=by
  show decide (b=0/\c=0/\d=0)=_
  rw [qbe,qaa];simp
 rw [this];rfl
theorem zhK(pw np:Int)(ps:List PgD)(k:Nat)(hk:k<ps.length):F_page_table_small (((pw,np,()),ps,()),(k:Int),())=some ((P.zcZ pw (toPg (ps.getD k PG0)),()),()):=by
 rw [zgt];dsimp only
 rw [zam.2 ⟨by omega,by omega⟩,qad]
 generalize ps.getD k PG0=X
 obtain ⟨a,b,c,d,_⟩:=X;dsimp only;rw [zef,zbe,zhN,qac,qac,qac];dsimp only;have:P.zcZ pw (toPg (a,b,c,d,()))=(P.zcG b&&decide (0<=c/\c<=pw)&&P.zea d):=rfl
 rw [this];cases P.zcG b <;> cases decide (0<=c/\c<=pw) <;> rfl
theorem zwA{α:Type}{l:List α}{k:Nat}{x:α}(h:l[k]?=some x):l.drop k=x::l.drop (k+1):=by
 obtain ⟨hk,e⟩:=qah.1 h;rw [qaW hk,e]
theorem zue{ps:List PgD}{k:Nat}(hk:k<ps.length):(ps.map toPg)[k]?=some (toPg (ps.getD k PG0)):=by
 rw [<-zaZ,qaA,qal (by rw [qak];exact hk)];rfl
theorem zsK(sp:Int)(l:List PgD)(hl:l.length<=100000000):Tot (fun (r:(Bool×Unit)×Unit×Unit⊕(Bool×Unit)×Unit×Unit)=>(match r with | .inl x=>x.1.1=false/\P.zbE sp (l.map toPg)=false | .inr _=>P.zbE sp (l.map toPg)=true)) (rl ((Bool×Int×Unit)×Unit×Unit) ((Bool×Unit)×Unit×Unit⊕(Bool×Unit)×Unit×Unit) (fun (x:(Bool×Int×Unit)×Unit×Unit)=>
 bif decide (x.1.2.1<(l.length:Int)) then
 bif inB x.1.2.1 l.length then
 bif bif (l.getD x.1.2.1.toNat PG0).1 != 3 then true
 else (l.getD x.1.2.1.toNat PG0).2.1 != sp then some (Sum.inr (Sum.inl ((false,()),(),())))
 else some (Sum.inl ((x.1.1,W (x.1.2.1+1),()),(),()))
 else none
 else some (Sum.inr (Sum.inr ((x.1.1,()),(),())))) ((false,0,()),(),())):=by
  refine zas (fun x=>∃ k:Nat,x.1.2.1=(k:Int)/\k<=l.length/\P.zbE sp ((l.map toPg).drop k)=P.zbE sp (l.map toPg)) (fun x=>((l.length:Int)-x.1.2.1).toNat) ⟨0,rfl,by omega,rfl⟩ ?_
  rintro ⟨⟨(b:Bool),(i:Int),_⟩,_⟩ ⟨k,e,hk,hp⟩;dsimp only at e ⊢
  subst e;refine zac (fun h1=>?_) fun h1=>zab ?_
  · simp only [qaa]at h1;have hk':k<l.length:=by omega
    rw [zwA (zue hk')]at hp;unfold P.zbE at hp ⊢
    rw [List.all_cons]at hp;rw [W_id (by omega),qad]
    generalize hX:l.getD k PG0=X at *
    obtain ⟨xk,xs,xu,xp,_⟩:=X;refine zae (zam.2 ⟨by omega,by omega⟩) (zac (fun h2=>zab ?_) fun h2=>zab ?_)
    · refine ⟨rfl,?_⟩;rw [<-hp,qbK];left
      refine qaj ?_;simp only [cor,qaU,qaC,ne_eq]at h2;rintro ⟨q1,q2⟩;rcases h2 with h2 | h2
      · exact h2 q1
      · exact h2 q2
    · simp only [qat];refine ⟨⟨k+1,by omega,by omega,?_⟩,by omega⟩
      rw [<-hp];simp only [cor,qaL,qaB]at h2;have:decide ((toPg (xk,xs,xu,xp,())).kind=3/\(toPg (xk,xs,xu,xp,())).space=sp)=true:=qab h2
      rw [this,qaS]
  · simp only [qaf]at h1;simp only [qaq];rw [<-hp,qbp (by rw [qak];omega)];rfl
theorem zhM(pw np:Int)(ps:List PgD)(k:Nat)(hk:k<ps.length)(hl:ps.length<=100000000):Tot (fun r=>r.1.1=P.zcp pw np (ps.map toPg) k (toPg (ps.getD k PG0))) (F_page_table_large (((pw,np,()),ps,()),(k:Int),())):=by
 rw [zgv];dsimp only
 refine zae (zam.2 ⟨by omega,by omega⟩) ?_
 rw [qad];generalize hX:ps.getD k PG0=X
 obtain ⟨a,b,c,d,_⟩:=X;dsimp only;rw [zgK,qac,zef,qac,zhN,qac];dsimp only;have hlm:(ps.map toPg).length=ps.length:=qak ..
 have e:P.zcp pw np (ps.map toPg) k (toPg (a,b,c,d,()))=(P.zcG b&&decide (1<=P.zax pw np c)&&P.zea d&&decide ((k:Int)+P.zax pw np c<=ps.length)&&P.zbE b (((ps.map toPg).drop (k+1)).take ((P.zax pw np c).toNat-1))):=by rw [<-hlm];rfl
 rw [e];have b1:=P.zfw pw np c;have b0:=P.znE pw np c;generalize P.zax pw np c=N at *
 refine zac (fun h1=>zab ?_) fun h1=>?_
 · simp only [qap]at h1;rw [h1];rfl
 simp only [qaw]at h1;rw [h1,qaS];refine zac (fun h2=>zab ?_) fun h2=>?_
 · simp only [qaa]at h2;rw [qaj (show ¬1<=N by omega)];rfl
 simp only [qaf]at h2;rw [qab (show 1<=N by omega),qaS]
 have w1:W ((k:Int)+N)=k+N:=W_id (by omega)
 have w2:W ((k:Int)+1)=k+1:=W_id (by omega)
 rw [w1,w2,cor];refine zac (fun h3=>zab ?_) fun h3=>?_
 · simp only [qaU,qap,qaa]at h3;rcases h3 with h3 | h3
   · rw [h3];rfl
   · rw [qaj (show ¬(k:Int)+N<=ps.length by omega)];simp
 simp only [qaL,qaw,qaf]at h3;rw [h3.1,qab (show (k:Int)+N<=ps.length by omega)]
 simp only [qaS];refine zae (qab (by omega)) ?_
 have ed:List.drop ((k:Int)+1).toNat (List.take ((k:Int)+N).toNat ps)=(ps.drop (k+1)).take (N.toNat-1):=by
  rw [qbI];congr 1
  omega
 rw [ed];have el:((ps.map toPg).drop (k+1)).take (N.toNat-1)=((ps.drop (k+1)).take (N.toNat-1)).map toPg:=by
  rw [List.map_take,List.map_drop]
 rw [el];refine zad (zsK b ((ps.drop (k+1)).take (N.toNat-1)) (by rw [qax,qaM];omega)) fun r hr=>zbz (fun x hx=>?_) fun x hx=>?_
 · subst hx;exact zab (hr.1.trans hr.2.symm)
 · subst hx;exact zab hr.symm
theorem zhL(pw np:Int)(ps:List PgD)(k:Nat)(hk:k<ps.length)(hl:ps.length<=100000000):Tot (fun r=>r.1.1=P.zfq pw np (ps.map toPg) k) (F_page_table_owned (((pw,np,()),ps,()),(k:Int),())):=by
 rw [zgu];dsimp only
 unfold P.zfq;refine zad (P:=fun r=>match r with
  | .inl x=>x.1.1=P.zbI pw np (ps.map toPg) k 1
  | .inr _=>P.zbI pw np (ps.map toPg) k 1=false) (zas (fun x=>∃ m b:Nat,x.1.2.1=(b:Int)/\m+b=k+1/\1<=b/\P.zbI pw np (ps.map toPg) m b=P.zbI pw np (ps.map toPg) k 1) (fun x=>((k:Int)+1-x.1.2.1).toNat) ⟨k,1,rfl,rfl,by omega,rfl⟩ ?_) fun r hr=>zbz (fun x hx=>?_) fun x hx=>?_
 · rintro ⟨⟨(q:Bool),(i:Int),_⟩,_⟩ ⟨m,b,e,hm,hb,hp⟩;dsimp only at e ⊢
   subst e;refine zac (fun h1=>?_) fun h1=>zab ?_
   · simp only [qaa]at h1;obtain ⟨m,rfl⟩:∃ n,m=n+1:=⟨m-1,by omega⟩
     have w1:W ((k:Int)-b)=(m:Nat):=by rw [W_id (by omega)];omega
     rw [w1,W_id (n:=(b:Int)+1) (by omega),qad]
     rw [P.zbI,zaZ]at hp;generalize hX:ps.getD m PG0=X at *
     obtain ⟨xk,xs,xu,xp,_⟩:=X;have hp:(if xk=2 then decide ((b:Int)<P.zax pw np xu) else P.zbI pw np (ps.map toPg) m ((b:Int)+1))=P.zbI pw np (ps.map toPg) k 1:=hp
     refine zae (zam.2 ⟨by omega,by omega⟩) (zac (fun h2=>?_) fun h2=>zab ?_)
     · rw [zgK,qac];simp only [qaE]at h2;rw [if_pos h2]at hp;exact zab hp
     · simp only [qaR,ne_eq]at h2;rw [if_neg h2]at hp;simp only [qat];exact ⟨⟨m,b+1,by omega,by omega,by omega,by rw [<-hp];rfl⟩,by omega⟩
   · simp only [qaf]at h1;obtain rfl:m=0:=by omega
     simp only [qaq];rw [<-hp];rfl
 · subst hx;exact zab hr
 · subst hx;exact zab hr.symm
theorem ziR(pw np:Int)(ps:List PgD)(k:Nat)(hk:k<ps.length)(hl:ps.length<=100000000):Tot (fun r=>r.1.1=P.zdW pw np (ps.map toPg) k (toPg (ps.getD k PG0))) (F_page_table_tail (((pw,np,()),ps,()),(k:Int),())):=by
 rw [zg6];dsimp only
 refine zae (zam.2 ⟨by omega,by omega⟩) ?_
 rw [qad];generalize hX:ps.getD k PG0=X
 obtain ⟨a,b,c,d,_⟩:=X;have e:P.zdW pw np (ps.map toPg) k (toPg (a,b,c,d,()))=((c == 0)&&(d == 0)&&P.zfq pw np (ps.map toPg) k):=by
  unfold P.zdW;rw [Bool.decide_and];rfl
 rw [e];dsimp only;refine zac (fun h1=>zac (fun h2=>zad (zhL pw np ps k hk hl) fun r hr=>zab ?_) fun h2=>zab ?_) fun h1=>zab ?_
 · rw [h1,h2];exact hr
 · rw [h1,h2];rfl
 · rw [h1];rfl
theorem zgJ(pw np:Int)(ps:List PgD)(hl:ps.length<=100000000):Tot (fun r=>r.1.1=P.zbi pw np (ps.map toPg)) (F_page_table_proper (((pw,np,()),ps,()),())):=by
 rw [zf6];dsimp only
 unfold P.zbi;have hlm:(ps.map toPg).length=ps.length:=qak ..
 refine zad (P:=fun r=>match r with
  | .inl x=>x.1.1=false/\P.zaP pw np (ps.map toPg) 0 (ps.map toPg)=false
  | .inr _=>P.zaP pw np (ps.map toPg) 0 (ps.map toPg)=true) (zas (fun x=>∃ k:Nat,x.1.2.1=(k:Int)/\k<=ps.length/\P.zaP pw np (ps.map toPg) k ((ps.map toPg).drop k)=P.zaP pw np (ps.map toPg) 0 (ps.map toPg)) (fun x=>((ps.length:Int)-x.1.2.1).toNat) ⟨0,rfl,by omega,rfl⟩ ?_) fun r hr=>zbz (fun x hx=>?_) fun x hx=>?_
 · rintro ⟨⟨(q:Bool),(i:Int),_⟩,_⟩ ⟨k,e,hk,hp⟩;dsimp only at e ⊢
   subst e;refine zac (fun h1=>?_) fun h1=>zab ?_
   · simp only [qaa]at h1;have hk':k<ps.length:=by omega
     rw [P.zsM (zue hk')]at hp;rw [zbe,qac,W_id (n:=(k:Int)+1) (by omega),qad]
     have hfree:=ziS pw np ps k hk';have hsmall:=zhK pw np ps k hk';have hlarge:=zhM pw np ps k hk' hl;have htail:=ziR pw np ps k hk' hl;generalize hX:ps.getD k PG0=X at *
     obtain ⟨xk,xs,xu,xp,_⟩:=X;dsimp only at hfree ⊢
     have bad:P.zbq pw np (ps.map toPg) k (toPg (xk,xs,xu,xp,()))=false->Tot (Sum.elim (fun x':(Bool×Int×Unit)×Unit×Unit=>(∃ k:Nat,x'.1.2.1=(k:Int)/\k<=ps.length/\P.zaP pw np (ps.map toPg) k ((ps.map toPg).drop k)=P.zaP pw np (ps.map toPg) 0 (ps.map toPg))/\((ps.length:Int)-x'.1.2.1).toNat<((ps.length:Int)-(k:Int)).toNat) fun (r:(Bool×Unit)×Unit×Unit⊕(Bool×Unit)×Unit×Unit)=>match r with
      | .inl x=>x.1.1=false/\P.zaP pw np (ps.map toPg) 0 (ps.map toPg)=false
      | .inr _=>P.zaP pw np (ps.map toPg) 0 (ps.map toPg)=true) (some (Sum.inr (Sum.inl ((false,()),(),())))):=fun hs=>by
      rw [hs]at hp;exact zab ⟨rfl,hp.symm⟩
     have good:P.zbq pw np (ps.map toPg) k (toPg (xk,xs,xu,xp,()))=true->Tot (Sum.elim (fun x':(Bool×Int×Unit)×Unit×Unit=>(∃ k:Nat,x'.1.2.1=(k:Int)/\k<=ps.length/\P.zaP pw np (ps.map toPg) k ((ps.map toPg).drop k)=P.zaP pw np (ps.map toPg) 0 (ps.map toPg))/\((ps.length:Int)-x'.1.2.1).toNat<((ps.length:Int)-(k:Int)).toNat) fun (r:(Bool×Unit)×Unit×Unit⊕(Bool×Unit)×Unit×Unit)=>match r with
      | .inl x=>x.1.1=false/\P.zaP pw np (ps.map toPg) 0 (ps.map toPg)=false
      | .inr _=>P.zaP pw np (ps.map toPg) 0 (ps.map toPg)=true) (some (Sum.inl ((q,(k:Int)+1,()),(),()))):=fun hs=>by
      rw [hs,qaS]at hp;refine zab ?_;simp only [qat];exact ⟨⟨k+1,by omega,by omega,hp⟩,by omega⟩
     have st:P.zbq pw np (ps.map toPg) k (toPg (xk,xs,xu,xp,()))=if xk=0 then P.zpx (toPg (xk,xs,xu,xp,())) else if xk=1 then P.zcZ pw (toPg (xk,xs,xu,xp,())) else if xk=2 then P.zcp pw np (ps.map toPg) k (toPg (xk,xs,xu,xp,())) else if xk=3 then P.zdW pw np (ps.map toPg) k (toPg (xk,xs,xu,xp,())) else false:=rfl
     rw [st]at bad good;refine zae (zam.2 ⟨by omega,by omega⟩) (zac (fun h2=>bad ?_) fun h2=>?_)
     · simp only [qap,qaf]at h2;rw [if_neg (by omega),if_neg (by omega),if_neg (by omega),if_neg (by omega)]
     simp only [qaw,qaa]at h2;refine zac (fun c0=>?_) fun c0=>?_
     · have c0:=qar c0;rw [if_pos c0]at bad good;rw [hfree c0,qac];exact zac (fun h3=>bad (by simpa using h3)) fun h3=>good (by simpa using h3)
     have c0:=qa9 c0;rw [if_neg c0]at bad good;refine zac (fun c1=>?_) fun c1=>?_
     · have c1:=qar c1;rw [if_pos c1]at bad good;rw [hsmall,qac];exact zac (fun h3=>bad (by simpa using h3)) fun h3=>good (by simpa using h3)
     have c1:=qa9 c1;rw [if_neg c1]at bad good;refine zac (fun c2=>?_) fun c2=>?_
     · have c2:=qar c2;rw [if_pos c2]at bad good;refine zad hlarge fun r hr=>?_
       rw [<-hr]at bad good;exact zac (fun h3=>bad (by simpa using h3)) fun h3=>good (by simpa using h3)
     have c2:=qa9 c2;rw [if_neg c2]at bad good;refine zac (fun c3=>?_) fun c3=>?_
     · have c3:=qar c3;rw [if_pos c3]at bad good;refine zad htail fun r hr=>?_
       rw [<-hr]at bad good;exact zac (fun h3=>bad (by simpa using h3)) fun h3=>good (by simpa using h3)
     · have c3:=qa9 c3;omega
   · simp only [qaf]at h1;rw [P.zuf (by omega)]at hp
     simp only [qaq];exact hp.symm
 · subst hx;exact zab (hr.1.trans hr.2.symm)
 · subst hx;exact zab hr.symm
theorem zmb(ps:List PgD)(b:Int)(hb:¬b = -1)(hl:ps.length<=100000000):F_page_isSmall (ps,b,())=some ((P.zdS (ps.map toPg) b,()),()):=by
 rw [zkL];dsimp only
 rw [zbe,qac];dsimp only;have w1:W ((ps.length:Int)-1)=ps.length-1:=W_id (by omega)
 have hlm:(ps.map toPg).length=ps.length:=qak ..
 rw [w1];unfold P.zdS;rw [hlm,zaZ];by_cases h:0<=b/\b<=(ps.length:Int)-1
 · rw [qab h,zam.2 ⟨h.1,by omega⟩]
   have:decide (b = -1\/0<=b/\b<(ps.length:Int)/\(toPg (ps.getD b.toNat PG0)).kind=1)=((ps.getD b.toNat PG0).1 == 1):=by
    rw [qbe,qaa,qaE];constructor
    · rintro (e | e)
      · exact absurd e hb
      · exact e.2.2
    · intro e;exact .inr ⟨h.1,by omega,e⟩
   rw [this];rfl
 · rw [qaj h];have:decide (b = -1\/0<=b/\b<(ps.length:Int)/\(toPg (ps.getD b.toNat PG0)).kind=1)=false:=qaj (by
    rintro (e | e)
    · exact hb e
    · exact h ⟨e.1,by omega⟩)
   rw [this];rfl
theorem zb4(h:HpD)(hw:HpW h):Tot (fun r=>r.1.1=P.okH (toHp h)) (F_page_Proper (h,())):=by
 obtain ⟨⟨pw,np,_⟩,ws,ps,sp,bu,_⟩:=h;have hl:=hw.pl;have hwl:=hw.wl;dsimp only at hl hwl
 have hlm:(ps.map toPg).length=ps.length:=qak ..
 have e:P.okH (toHp ((pw,np,()),ws,ps,sp,bu,()))=(confB pw np&&decide ((ws.length:Int)=np*pw)&&decide ((ps.length:Int)=np)&&P.zcG sp&&P.zdS (ps.map toPg) bu&&P.zbi pw np (ps.map toPg)):=by
  show P.zc0 pw np ws.length (ps.map toPg) sp bu=_
  rw [<-P.zce,<-zaO];unfold P.zic;rw [hlm]
 rw [e];rw [zlX];dsimp only
 rw [zbN,qac];refine zac (fun h1=>zab ?_) fun h1=>?_
 · simp only [qap]at h1;rw [h1];rfl
 simp only [qaw]at h1;have c2:=za6.1 h1;have cm:=P.conf_prod (pw:=pw) (np:=np) (by rw [zaO];exact h1)
 rw [h1,qaS,zls,qac];dsimp only;rw [cor,Int.mul_comm pw np,W_id (n:=np*pw) (by omega)]
 refine zac (fun h2=>zab ?_) fun h2=>?_
 · simp only [qaU,qaC,ne_eq]at h2;rcases h2 with h2 | h2
   · rw [qaj h2];rfl
   · rw [qaj (p:=(ps.length:Int)=np) h2];simp
 simp only [qaL,qaB]at h2;rw [qab h2.1,qab h2.2,zef,qac];simp only [qaS];refine zac (fun h3=>zab ?_) fun h3=>?_
 · simp only [qap]at h3;rw [h3];rfl
 simp only [qaw]at h3;rw [h3,qaS];have fin:∀ b:Bool,b=true->Tot (fun r=>r.1.1=(b&&P.zbi pw np (ps.map toPg))) ((F_page_table_proper (((pw,np,()),ps,()),())).bind fun (r:(Bool×Unit)×Unit)=>some ((r.1.1,()),())):=fun b hb=>zad (zgJ pw np ps hl) fun r hr=>zab (by rw [hb,qaS];exact hr)
 refine zac (fun h4=>?_) fun h4=>fin _ ?_
 · simp only [qaC,ne_eq]at h4;rw [zmb ps bu h4 hl,qac];refine zac (fun h5=>zab ?_) fun h5=>fin _ (by simpa using h5)
   simp only [qap]at h5;rw [h5];rfl
 · simp only [qaB]at h4;subst h4;unfold P.zdS;exact qab (.inl rfl)
theorem zpZ(pw np a:Int)(ha:0<=a/\a<18446744073709551616):F_page_Of ((pw,np,()),a,())=some ((P.ofI pw np a,P.ofK pw np a,P.ofE pw np a,()),()):=by
 rw [ztb];dsimp only
 rw [zbN,zls,qac,qac];dsimp only;cases hc:confB pw np
 · obtain ⟨e1,e2,e3⟩:=P.zwg (pw:=pw) (np:=np) (a:=a) (by rw [zaO];exact hc)
   rw [e1,e2,e3];rfl
 have hc':P.confB pw np=true:=by rw [zaO];exact hc
 obtain ⟨c1,c2⟩:=P.conf_prod hc';have c3:=P.zaj hc';rw [Int.mul_comm pw np,W_id (n:=np*pw) (by omega),U_id (n:=np*pw) (by omega)]
 have hpw:(!pw == 0)=true:=by simp;omega
 by_cases h1:a<4096
 · obtain ⟨e1,e2,e3⟩:=P.ze6 (a:=a) hc' (by unfold P.inAr;exact qaj (by omega))
   rw [e1,e2,e3,qab h1];rfl
 have w4:U (a-4096)=a-4096:=U_id (by omega)
 rw [w4,qaj h1];by_cases h2:a-4096 >= np*pw
 · obtain ⟨e1,e2,e3⟩:=P.ze6 (a:=a) hc' (by unfold P.inAr;exact qaj (by omega))
   rw [e1,e2,e3,qab h2];rfl
 obtain ⟨e1,e2,e3⟩:=P.zg5 (a:=a) hc' (by unfold P.inAr;exact qab (by omega))
 have w5:W (a-4096)=a-4096:=W_id (by omega)
 have hd:=Int.ediv_le_self (a:=a-4096) pw (by omega)
 have hd0:=qbS (a:=a-4096) (b:=pw) (by omega) (by omega)
 rw [qaj h2,w5,hpw,e1,e2,e3,qbE (by omega),qb4 (by omega),W_id (n:=(a-4096) / pw) (by omega)]
 rfl
end Go.VI
namespace Go.VI
open Go
theorem zmc(ws:List Int)(a:Int)(n:Nat)(hl:ws.length<=100000000)(hn:n<=100000000)(ha:0<=a/\a<18446744073709551616):F_arena_locate (ws,a,(n:Int),())=some (((if P.okA ws.length a n then a-4096 else 0),(if P.okA ws.length a n then 0 else 2),()),()):=by
 rw [zkO];dsimp only
 rw [qaj (show ¬(n:Int)<0 by omega),U_id (n:=(ws.length:Int)) (by omega),U_id (n:=(n:Int)) (by omega)]
 by_cases h1:a<4096
 · have:P.okA ws.length a n=false:=by rw [<-qby,P.zaM];omega
   rw [qab h1,this];rfl
 have u1:U (a-4096)=a-4096:=U_id (by omega)
 rw [qaj h1,u1];by_cases h2:a-4096 > (ws.length:Int)
 · have:P.okA ws.length a n=false:=by rw [<-qby,P.zaM];omega
   rw [qab h2,this];rfl
 have u2:U ((ws.length:Int)-(a-4096))=ws.length-(a-4096):=U_id (by omega)
 have w1:W (a-4096)=a-4096:=W_id (by omega)
 rw [qaj h2,u2,w1];by_cases h3:(n:Int) > (ws.length:Int)-(a-4096)
 · have:P.okA ws.length a n=false:=by rw [<-qby,P.zaM];omega
   rw [qab h3,this];rfl
 · have:P.okA ws.length a n=true:=by rw [P.zaM];omega
   rw [qaj h3,this];rfl
theorem zoe(ws:List Int)(a:Int)(hl:ws.length<=100000000)(ha:0<=a/\a<18446744073709551616):F_arena_Index (ws,a,())=some ((P.zkW ws.length a,P.zkX ws.length a,()),()):=by
 rw [zl1];dsimp only
 have h:F_arena_locate (ws,a,1,())=_:=zmc ws a 1 hl (by omega) ha
 rw [h];rfl
theorem zp2(ws:List Int)(a:Int)(hl:ws.length<=100000000)(ha:0<=a/\a<18446744073709551616):F_arena_Load (ws,a,())=some ((P.zao ws a,P.zkT ws a,()),()):=by
 rw [znB];dsimp only
 rw [zoe ws a hl ha,qac];dsimp only;unfold P.zkW P.zkX P.zao P.zkT;cases h:P.okA ws.length a 1
 · rfl
 · have:=P.zaM.1 h
   simp only [if_true];rw [zam.2 ⟨by omega,by omega⟩];rfl
theorem zcQ(k:Nat)(ws:List Int)(hk:k<ws.length):F_bits_Unpack_S1_c ((k:Int),ws,())=some ((ws.getD k 0,()),ws,()):=by
 rw [zgy];dsimp only
 rw [zam.2 ⟨by omega,by omega⟩,qad];rfl
theorem zso{ws:List Int}{k:Nat}(hk:k<ws.length):ws[k]?=some (ws.getD k 0):=by
 rw [qaA,qal hk];rfl
theorem ztK(ws:List Int)(hl:ws.length<=100000000):Tot (fun r=>r.1.1=P.fitL 64 ws/\r.2.1=ws) (F_bits_fit_c_bits_Unpack_S1 ((ws.length:Int),ws,())):=by
 rw [zdw];dsimp only
 refine zad (P:=fun r=>match r with
  | .inl x=>(x.1.1=false/\P.fitL 64 ws=false)/\x.2.2.1.1=ws
  | .inr x=>P.fitL 64 ws=true/\x.2.2.1.1=ws) (zas (fun x=>∃ k:Nat,x.1.2.2.1=(k:Int)/\k<=ws.length/\x.2.2.1.1=ws/\0<=x.1.2.1/\x.1.2.1<=64/\P.fitL x.1.2.1 (ws.drop k)=P.fitL 64 ws) (fun x=>((ws.length:Int)-x.1.2.2.1).toNat) ⟨0,rfl,by omega,rfl,by dsimp only;omega,by dsimp only;omega,rfl⟩ ?_) fun r hr=>zbz (fun x hx=>?_) fun x hx=>?_
 · rintro ⟨⟨(q:Bool),(lf:Int),(i:Int),_⟩,_,⟨(l:List Int),_⟩,_⟩ ⟨k,e,hk,el,h0,h64,hp⟩;dsimp only at e el h0 h64 hp ⊢
   rw [e,el];refine zac (fun h1=>?_) fun h1=>zab ?_
   · simp only [qaa]at h1;have hk':k<ws.length:=by omega
     have hx:=zso hk';rw [zcQ k ws hk',qac];dsimp only;generalize ws.getD k 0=v at *
     refine zac (fun h2=>zab ⟨⟨rfl,?_⟩,rfl⟩) fun h2=>?_
     · rw [<-hp];exact P.zvd hx (.inl (by simpa using h2))
     simp only [qaf]at h2;rw [zcQ k ws hk',qac];have hv:ws.getD k 0=v:=by rw [qaA,hx];rfl
     dsimp only;rw [hv];refine zac (fun h3=>zab ⟨⟨rfl,?_⟩,rfl⟩) fun h3=>?_
     · rw [<-hp];exact P.zvd hx (.inr (by simpa using h3))
     simp only [qaf]at h3;rw [zcQ k ws hk',qac];dsimp only;rw [hv,W_id (n:=lf-v) (by omega),W_id (n:=(k:Int)+1) (by omega)]
     refine zab ⟨⟨k+1,by dsimp only;omega,by omega,rfl,by dsimp only;omega,by dsimp only;omega,?_⟩,by dsimp only;omega⟩
     rw [<-hp];exact (P.zww hx h2 (by omega)).symm
   · simp only [qaf]at h1;refine ⟨?_,rfl⟩;rw [<-hp];exact P.zwx (by omega)
 · subst hx;exact zab ⟨hr.1.1.trans hr.1.2.symm,hr.2⟩
 · subst hx;exact zab ⟨hr.1.symm,hr.2⟩
theorem zlw(n:Int):F_bits_Ones (n,())=some ((P.zik n,()),()):=by
 rw [zpd];dsimp only
 by_cases h:n<0
 · rw [qab h,P.zuH n h];rfl
 · rw [qaj h];have e:U (U (1*2 ^ min n.toNat IntKind.u64.bits)-1)=P.zik n:=by
    have hb:IntKind.u64.bits=64:=rfl
    rw [hb,qa5];unfold P.zik;by_cases hc:n.toNat<64
    · rw [show min n.toNat 64=n.toNat from by omega]
      have h1:=P.zu4 n.toNat hc;have h2:=P.zu3 n.toNat;rw [U_id (n:=2 ^ n.toNat) (by omega),U_id (by omega)]
    · rw [show min n.toNat 64=64 from by omega];rfl
   rw [e];rfl
theorem zos:∀ (ws:List Int) (x k:Nat) (a:Int),ws[k]?=some a->(P.zlI x ws)[k]?=some (((x >>> P.sumW (ws.take k)) &&& P.zil a:Nat):Int)
 | [],x,k,a,h=>by simp at h
 | b::r,x,0,a,h=>by
  simp only [qcI,Option.some.injEq]at h;subst h;simp [P.zlI,P.sumW]
 | b::r,x,k+1,a,h=>by
  rw [qb2]at h;rw [P.zlI,qb2,zos r _ k a h,qck,P.sumW,Nat.shiftRight_add]
theorem zod(x:Nat)(hx:x<18446744073709551616)(ws:List Int)(hl:ws.length<=1000):Tot (fun r=>r.1.1=P.unpV x ws/\r.1.2.1=P.unpE x ws) (F_bits_Unpack ((x:Int),ws,())):=by
 rw [zl0];dsimp only
 refine zad (ztK ws (by omega)) ?_
 rintro ⟨⟨(b:Bool),_⟩,(l:List Int),_⟩ ⟨hb,el⟩;dsimp only at hb el ⊢
 rw [hb,el];refine zac (fun h1=>zab ?_) fun h1=>?_
 · simp only [qap]at h1;unfold P.unpV P.unpE;rw [h1];exact ⟨rfl,rfl⟩
 simp only [qaw]at h1;refine zae (qab (by omega)) (zae (zaq.2 (by omega)) ?_)
 refine zad (P:=fun r=>r.1.1=((x >>> P.sumW ws:Nat):Int)/\r.2.2.1=P.zlI x ws) (zas (fun y=>∃ k:Nat,y.1.2.1=(k:Int)/\k<=ws.length/\y.1.1=((x >>> P.sumW (ws.take k):Nat):Int)/\y.2.2.1.length=ws.length/\∀ j,j<k->y.2.2.1[j]?=(P.zlI x ws)[j]?) (fun y=>((ws.length:Int)-y.1.2.1).toNat) ⟨0,rfl,by omega,by simp [P.sumW],by simp,fun j hj=>by omega⟩ ?_) ?_
 · rintro ⟨⟨(v:Int),(i:Int),_⟩,_,(L:List Int),_⟩ ⟨k,e,hk,ev,hL,hj⟩;dsimp only at e ev hL hj ⊢
   rw [e,ev];refine zac (fun h2=>?_) fun h2=>zab ?_
   · simp only [qaa]at h2;have hk':k<ws.length:=by omega
     have hx':=zso hk';have hm:=P.zss ws 64 (by omega) h1 _ (qav hx')
     rw [qad];generalize ws.getD k 0=a at *
     rw [zlw,qac];dsimp only;have hin:inB (k:Int) ws.length=true:=zam.2 ⟨by omega,by omega⟩
     refine zae hin (zae (zam.2 ⟨by omega,by omega⟩) (zae hin (zae (by simp;omega) (zab ?_))))
     have hv:x >>> P.sumW (ws.take k)<18446744073709551616:=P.shr_lt x _ hx;have e1:zdm IntKind.u64 (fun (x1 x2:BitVec IntKind.u64.bits)=>x1 &&& x2) ((x >>> P.sumW (ws.take k):Nat):Int) (P.zik a)=(((x >>> P.sumW (ws.take k)) &&& P.zil a:Nat):Int):=by
      rw [P.zs2];exact zn0 _ _ hv (P.zwe a)
     have e2:(((x >>> P.sumW (ws.take k):Nat):Int)).fdiv (2 ^ min a.toNat IntKind.u64.bits)=((x >>> P.sumW (ws.take (k+1)):Nat):Int):=by
      have hb:IntKind.u64.bits=64:=rfl
      rw [hb,show min a.toNat 64=a.toNat from by omega,<-P.zhn,zdM _ _ (Nat.pow_pos (by omega)),P.zuh hx',Nat.shiftRight_add,qbW (x >>> _)]
     refine ⟨⟨k+1,?_,by omega,e2,?_,?_⟩,?_⟩
     · dsimp only;exact W_id (by omega)
     · dsimp only;rw [List.length_set];exact hL
     · intro j hjk;dsimp only;rw [e1];by_cases hq:j=k
       · subst hq;rw [zos ws x j a hx',qcq (by omega)]
       · rw [qbu (by omega)]
         exact hj j (by omega)
     · dsimp only;rw [W_id (by omega)];omega
   · simp only [qaf]at h2;obtain rfl:k=ws.length:=by omega
     refine ⟨by rw [List.take_length],?_⟩
     show L=_
     refine qbn fun j=>?_
     by_cases hq:j<ws.length
     · exact hj j hq
     · rw [qbN (by omega),qbN (by rw [P.zt5];omega)]
 · rintro ⟨⟨(v:Int),_⟩,_,(L:List Int),_⟩ ⟨hv,hL⟩;dsimp only at hv hL ⊢
   subst hv hL;unfold P.unpV P.unpE;rw [h1,if_pos rfl,if_pos rfl];refine zac (fun h2=>zab ?_) fun h2=>zab ?_
   · simp only [qaC,ne_eq]at h2;rw [if_neg (by omega),if_neg (by omega)];exact ⟨rfl,rfl⟩
   · simp only [qaB]at h2;rw [if_pos (by omega),if_pos (by omega)];exact ⟨rfl,rfl⟩
theorem zde(k n m:Int)(hm:0<=m/\m<4294967296):F_header_Valid ((k,n,m,()),())=some ((P.zaD k n m,()),()):=by
 rw [zkN];dsimp only
 have key:∀ {o:Option ((Bool×Unit)×Unit)},Tot (fun r=>r.1.1=P.zaD k n m) o->o=some ((P.zaD k n m,()),()):=fun h=>by
  obtain ⟨⟨⟨(b:Bool),_⟩,_⟩,rfl,e⟩:=h;have e:b=P.zaD k n m:=e
  rw [e]
 refine key (zac (fun h=>?_) fun h=>?_)
 · simp only [qaE]at h;subst h;refine zac (fun h1=>zac (fun h2=>?_) fun h2=>zab ?_) fun h1=>zab ?_
   · simp only [qaa,ge_iff_le]at h1 h2;rw [zlw,qac];refine zab ?_;dsimp only;rw [U_id (n:=m) (by omega)]
     by_cases h3:m<=P.zik n
     · rw [qab h3,P.zgS ⟨by omega,by omega,h1,by omega,fun _=>⟨h2,(P.zr7 h1 h2).1 h3⟩,fun c=>absurd rfl c⟩]
     · rw [qaj h3,P.map_no h1 h2 (by omega)]
   · simp only [qaf]at h2;exact (P.zcC (fun c=>h2 (c.2.2.2.2.1 rfl).1)).symm
   · simp only [qaf,ge_iff_le]at h1;exact (P.zcC (fun c=>h1 c.2.2.1)).symm
 · simp only [qaR,ne_eq]at h;refine zac (fun h1=>zab ?_) fun h1=>zab ?_
   · have hk:k=0\/k=2\/k=3:=by
      by_cases c0:k=0
      · exact .inl c0
      · by_cases c2:k=2
        · exact .inr (.inl c2)
        · rw [show (k == 0)=false from by simpa using c0,show (k == 2)=false from by simpa using c2]at h1
          simp only [qag,qaE]at h1;exact .inr (.inr h1)
     dsimp only;have e:((k == k)&&((n == n)&&((m == 0)&&true)))=(m == 0):=by simp
     rw [e];by_cases q1:0<=n
     · by_cases q2:n<=255
       · rw [qab (show n >= 0 from q1),qab q2]
         by_cases q3:m=0
         · rw [P.zgo hk q1 q2 q3,q3];rfl
         · rw [P.zcC (fun c=>q3 (c.2.2.2.2.2 h))];simp [q3]
       · rw [qab (show n >= 0 from q1),qaj q2,P.zcC (fun c=>q2 c.2.2.2.1)];rfl
     · rw [qaj (show ¬n >= 0 from q1),P.zcC (fun c=>q1 c.2.2.1)];rfl
   · rw [P.zcC];rintro ⟨q1,q2,-⟩;have hk:k=0\/k=2\/k=3:=by omega
     rcases hk with e | e | e <;> subst e <;> simp at h1
theorem zeV(k n m:Int)(hm:0<=m/\m<4294967296):F_header_Size ((k,n,m,()),())=some ((P.zaT k n m,()),()):=by
 rw [zlZ];dsimp only
 rw [zde k n m hm,qac];dsimp only;cases h:P.zaD k n m
 · rw [P.zqn h];rfl
 · have:=P.zaE h
   rw [P.zbs h,W_id (n:=n+1) (by omega)];rfl
theorem zlv(x:Nat)(hx:x<18446744073709551616):F_header_Decode ((x:Int),())=some (((P.decK x,P.decN x,P.decM x,()),P.okD x,()),()):=by
 rw [zjB];dsimp only
 obtain ⟨⟨⟨(l:List Int),(e:Int),_⟩,_⟩,he,h1,h2⟩:=zod x hx [2,2,12,32] (by simp)
 rw [he,qac];dsimp only at h1 h2 ⊢
 have hf:P.fitL 64 [2,2,12,32]=true:=by decide
 have hs:P.sumW [2,2,12,32]=48:=by decide
 unfold P.unpV at h1;unfold P.unpE at h2;rw [hf,if_pos rfl,hs]at h1 h2;by_cases hz:x >>> 48=0
 · have hz':x<281474976710656:=by
    rw [qbW]at hz;omega
   rw [if_pos hz]at h1 h2;have uv:P.zlI x [2,2,12,32]=[((x % 4:Nat):Int),(P.dK x:Int),(P.dN x:Int),(P.dM x:Int)]:=by
    show [((x &&& P.zil 2:Nat):Int),((x >>> 2 &&& P.zil 2:Nat):Int),((x >>> 2 >>> 2 &&& P.zil 12:Nat):Int),((x >>> 2 >>> 2 >>> 12 &&& P.zil 32:Nat):Int)]=_
    rw [P.zkb,P.zkb,P.zkb,P.zkb,<-Nat.shiftRight_add,<-Nat.shiftRight_add,qbW,qbW,qbW]
    rfl
   rw [uv]at h1;subst h1 h2;have hmb:(0:Int)<=(P.dM x:Int)/\(P.dM x:Int)<4294967296:=by unfold P.dM;omega
   have w1:W (P.dK x:Int)=P.dK x:=W_id (by unfold P.dK;omega)
   have w2:W (P.dN x:Int)=P.dN x:=W_id (by unfold P.dN;omega)
   have w3:U32 (P.dM x:Int)=P.dM x:=by rw [U32,IntKind.wrap_u32];omega
   have i0:∀ a b c d:Int,inB 0 ([a,b,c,d]:List Int).length=true:=fun _ _ _ _=>rfl
   have i1:∀ a b c d:Int,inB 1 ([a,b,c,d]:List Int).length=true:=fun _ _ _ _=>rfl
   have i2:∀ a b c d:Int,inB 2 ([a,b,c,d]:List Int).length=true:=fun _ _ _ _=>rfl
   have i3:∀ a b c d:Int,inB 3 ([a,b,c,d]:List Int).length=true:=fun _ _ _ _=>rfl
   have g0:∀ a b c d:Int,([a,b,c,d]:List Int).getD (Int.toNat 0) 0=a:=fun _ _ _ _=>rfl
   have g1:∀ a b c d:Int,([a,b,c,d]:List Int).getD (Int.toNat 1) 0=b:=fun _ _ _ _=>rfl
   have g2:∀ a b c d:Int,([a,b,c,d]:List Int).getD (Int.toNat 2) 0=c:=fun _ _ _ _=>rfl
   have g3:∀ a b c d:Int,([a,b,c,d]:List Int).getD (Int.toNat 3) 0=d:=fun _ _ _ _=>rfl
   simp only [i0,i1,i2,i3,g0,g1,g2,g3,w1,w2,w3,zde _ _ _ hmb,qac,bne_self_eq_false,qag,qai];by_cases h4:x % 4=1
   · rw [h4];cases hv:P.zaD (P.dK x) (P.dN x) (P.dM x)
     · have hok:=P.zuI (x:=x) (.inr (.inr hv))
       obtain ⟨f1,f2,f3⟩:=P.zpD hok;rw [hok,f1,f2,f3];rfl
     · have hok:=P.zwZ h4 hz' hv;obtain ⟨f1,f2,f3⟩:=P.zmN hok;rw [hok,f1,f2,f3];rfl
   · have hok:=P.zuI (x:=x) (.inl h4)
     obtain ⟨f1,f2,f3⟩:=P.zpD hok;have:((((x % 4:Nat):Int)) != 1)=true:=by simp;omega
     rw [this,hok,f1,f2,f3];rfl
 · have hz':¬x<281474976710656:=by
    intro c;apply hz
    rw [qbW];omega
   rw [if_neg hz]at h1 h2;subst h1 h2;have hok:=P.zuI (x:=x) (.inr (.inl hz'))
   obtain ⟨f1,f2,f3⟩:=P.zpD hok;rw [hok,f1,f2,f3];rfl
theorem zoc(k s u p o n:Int)(ho:0<=o/\o<=100000000)(hn:0<=n/\n<=100000000):F_object_fits ((k,s,u,p,()),o,n,())=some (((if k=1 then decide (o+n<=u) else if k=2 then decide (o=0/\n=u) else false),()),()):=by
 rw [zlY];dsimp only
 rw [W_id (n:=o+n) (by omega)]
 by_cases h1:k=1
 · subst h1;rfl
 · rw [if_neg h1,show (k == 1)=false from by simpa using h1]
   by_cases h2:k=2
   · subst h2;rw [if_pos rfl,Bool.decide_and];simp only [cand];rfl
   · rw [if_neg h2,show (k == 2)=false from by simpa using h2];rfl
end Go.VI
namespace Go.VI
open Go
theorem need_or{c e:Bool}(h:e=true):(bif c then true else e)=true:=by subst h;cases c <;> rfl
theorem zlt(h:HpD):F_object_reader (h,())=some (((h,()),()),()):=by
 rw [zjz]
theorem zga(h:HpD)(hw:HpW h)(a:Int)(ha:0<=a/\a<18446744073709551616):F_object_reader_S1_c (a,h,())=some ((P.zao h.2.1 a,P.zkT h.2.1 a,()),h,()):=by
 rw [zfs];dsimp only
 rw [zp2 _ _ hw.wl ha,qac]
theorem zwr{h:HpD}(hw:HpW h)(hok:P.okH (toHp h)=true){a:Int}(hof:P.ofE (toHp h).pw (toHp h).np a=0):
 (0<=P.ofI (toHp h).pw (toHp h).np a/\P.ofI (toHp h).pw (toHp h).np a<h.2.2.1.length)/\(0<=P.ofK (toHp h).pw (toHp h).np a/\P.ofK (toHp h).pw (toHp h).np a<=64)/\P.zkT h.2.1 a=0/\P.zao h.2.1 a=P.zap (toHp h) a/\P.zap (toHp h) a<18446744073709551616:=by
 obtain ⟨q1,⟨i,j,e1,e2,e3,e4,e5⟩,-⟩:=P.zuJ hok hof;have hlm:(toHp h).pages.length=h.2.2.1.length:=qak ..
 have c:=P.zaj (P.zan hok).1;have hwb:P.WB (toHp h).words:=hw.wb;obtain ⟨w1,w2,w3⟩:=P.word_of hwb hok hof;rw [e1,e2];exact ⟨by omega,by omega,w2,w1,w3⟩
theorem zgL(h:HpD)(hw:HpW h)(a:Int)(ha:0<=a/\a<18446744073709551616):Tot (fun r=>r.1.2.1=P.atE (toHp h) a/\toHd r.1.1=P.atH (toHp h) a) (F_object_At (h,a,())):=by
 obtain ⟨⟨pw,np,_⟩,ws,ps,sp,bu,_⟩:=h;rw [zpb];dsimp only
 generalize hX:toHp ((pw,np,()),ws,ps,sp,bu,())=X
 have bad:∀ (c:Int),P.atE X a=c/\P.atH X a=P.Hd.zero->Tot (fun r:((Int×Int×Int×Unit)×Int×Unit)×Unit=>r.1.2.1=P.atE X a/\toHd r.1.1=P.atH X a) (some (((0,0,0,()),c,()),())):=fun c he=>zab ⟨he.1.symm,he.2.symm⟩
 refine zad (zb4 _ hw) ?_;rintro ⟨⟨(b:Bool),_⟩,_⟩ hb;have hb:b=P.okH X:=hX ▸ hb
 subst hb;refine zac (fun h1=>bad 1 (P.zrg (by simpa using h1))) fun h1=>?_
 simp only [qaw]at h1;have xw:X.pw=pw:=hX ▸ rfl
 have xn:X.np=np:=hX ▸ rfl
 have hc:=(P.zan h1).1;rw [xw,xn]at hc;rw [zpZ pw np a ha,qac];dsimp only;refine zac (fun h2=>?_) fun h2=>?_
 · simp only [qaC,ne_eq]at h2;have e2:P.ofE pw np a=2:=by
    cases hq:P.inAr pw np a
    · exact (P.ze6 (a:=a) hc hq).2.2
    · exact absurd (P.zg5 hc hq).2.2 h2
   rw [e2];exact bad 2 (P.ziJ h1 (by rw [xw,xn];exact h2))
 simp only [qaB]at h2;have hof:P.ofE X.pw X.np a=0:=by rw [xw,xn];exact h2
 have I:=zwr hw (hX ▸ h1) (a:=a) (hX ▸ hof)
 rw [hX,xw,xn]at I;obtain ⟨hi,ho,l1,l2,hy⟩:=I;dsimp only at hi l1 l2
 rw [zlt,qac];dsimp only;rw [zga _ hw a ha,qac];dsimp only;rw [l1,l2];refine zac (fun c=>by simp at c) fun _=>?_
 have hpg:P.zct X a=toPg (ps.getD (P.ofI pw np a).toNat PG0):=by
  unfold P.zct;rw [xw,xn];have:X.pages=ps.map toPg:=hX ▸ rfl
  rw [this,zaZ]
 have hatB:P.atB X a=atBx (P.zct X a).kind (P.zct X a).used (P.ofK X.pw X.np a) (P.zap X a):=rfl
 rw [hpg,xw,xn]at hatB;have hH:=P.zmQ h1 hof;have hN:=P.zpO h1 hof;rw [hatB]at hH hN;generalize P.zap X a=y at *
 generalize P.ofK pw np a=o at *
 rw [zlv y hy,qac];dsimp only;refine zae (need_or (zam.2 hi)) ?_;generalize ps.getD (P.ofI pw np a).toNat PG0=G at *
 obtain ⟨gk,gs,gu,gp,_⟩:=G;have hab:atBx (toPg (gk,gs,gu,gp,())).kind (toPg (gk,gs,gu,gp,())).used o y=atBx gk gu o y:=rfl
 rw [hab]at hH hN;unfold atBx at hH hN;refine zac (fun h3=>bad 19 (hN ?_)) fun h3=>?_
 · simp only [qap]at h3;rw [h3];simp
 simp only [qaw]at h3;obtain ⟨d1,d2,d3⟩:=P.zcK h3;obtain ⟨f1,f2,f3⟩:=P.zmN h3;have hmb:(0:Int)<=(P.dM y:Int)/\(P.dM y:Int)<4294967296:=by unfold P.dM;omega
 have vp:=P.zaE d3;rw [f1,f2,f3,zeV _ _ _ hmb,qac,P.zbs d3];dsimp only;rw [zoc gk gs gu gp o _ (by omega) (by omega),qac]
 dsimp only;refine zac (fun h4=>bad 19 (hN ?_)) fun h4=>zab ?_
 · by_cases k1:gk=1
   · subst k1;simp only [if_true,qap]at h4 ⊢;rw [h4];simp
   · rw [if_neg k1]at h4 ⊢
     by_cases k2:gk=2
     · subst k2;simp only [if_true,qap]at h4 ⊢;rw [h4];simp
     · rw [show decide (gk=1\/gk=2)=false from qaj (by omega)];rfl
 · have:(decide (gk=1\/gk=2)&&decide (o<gu)&&P.okD y&&if gk=1 then decide (o+((P.dN y:Int)+1)<=gu) else decide (o=0/\(P.dN y:Int)+1=gu))=true:=by
    by_cases k1:gk=1
    · subst k1;simp only [if_true,qaw,qaa]at h4;rw [h3,qab (show o<gu by omega),if_pos rfl,qab h4];rfl
    · rw [if_neg k1]at h4;by_cases k2:gk=2
      · subst k2;simp only [if_true,qaw,qaa]at h4;rw [h3,qab (show o<gu by omega),if_neg k1,qab h4];rfl
      · rw [if_neg k2]at h4;simp at h4
   obtain ⟨g1,g2⟩:=hH this;rw [g1,g2];exact ⟨rfl,rfl⟩
theorem zp1(h:HpD)(hw:HpW h)(a:Int)(ha:0<=a/\a<18446744073709551616):Tot (fun r=>r.1.2.1=P.getE (toHp h) a/\toHd r.1.1=P.getH (toHp h) a) (F_object_Get (h,a,())):=by
 rw [znx];dsimp only
 rw [zay];refine zad (zgL h hw a ha) ?_;rintro ⟨⟨⟨(k:Int),(n:Int),(m:Int),_⟩,(e:Int),_⟩,_⟩ hr;dsimp only at hr ⊢
 obtain ⟨r1,r2⟩:=hr;have r2:P.atH (toHp h) a=⟨k,n,m⟩:=r2.symm
 generalize toHp h=X at *
 have out:∀ (c:Int),¬c=0->P.getE X a=c->Tot (fun r:((Int×Int×Int×Unit)×Int×Unit)×Unit=>r.1.2.1=P.getE X a/\toHd r.1.1=P.getH X a) (some (((0,0,0,()),c,()),())):=fun c h0 he=>by
  refine zab ⟨he.symm,?_⟩;unfold P.getH;rw [if_neg (by rw [he];exact h0)];rfl
 simp only [cand];cases hok:P.okH X
 · have g:=P.zsp (h:=X) (a:=a) hok
   have t:=P.zrg (h:=X) (a:=a) hok
   rw [t.1]at r1;rw [t.2]at r2;subst r1;simp only [P.Hd.zero,P.Hd.mk.injEq]at r2;obtain ⟨e1,e2,e3⟩:=r2;subst e1 e2 e3;exact out 1 (by decide) g.1
 by_cases h0:a=0
 · subst h0;have g:=P.zpt (h:=X) hok
   have c:=P.zaj (P.zan hok).1;have hno:¬P.ofE X.pw X.np 0=0:=by
    rw [(P.ze6 (a:=0) (P.zan hok).1 (by unfold P.inAr;exact qaj (by omega))).2.2];decide
   have t:=P.ziJ (h:=X) (a:=0) hok hno
   rw [t.1]at r1;subst r1;exact out 5 (by decide) g.1
 have h0':(a == 0)=false:=by simpa using h0
 rw [h0',Bool.and_false];refine zac (fun c=>by simp at c) fun _=>zac (fun h3=>out 4 (by decide) ?_) fun h3=>zab ?_
 · simp only [qae,qaE]at h3;exact (P.zpu hok h0 (by rw [<-r1];exact h3.1) (by rw [r2];exact h3.2)).1
 · obtain ⟨g1,g2⟩:=P.zq3 (a:=a) hok h0 (by
    rintro ⟨q1,q2⟩;rw [r2]at q2;rw [<-r1]at q1;have q2:k=0:=q2
    rw [q1,q2]at h3;simp at h3)
   rw [g1,g2,r1,r2];exact ⟨rfl,rfl⟩
end Go.VI
namespace Go.VI
open Go
theorem zu0{o:Option ((Bool×Unit)×Unit)}(h:Tot (fun r=>r.1.1=true) o):o=some ((true,()),()):=by
 obtain ⟨⟨⟨(b:Bool),_⟩,_⟩,rfl,e⟩:=h;have e:b=true:=e
 rw [e]
end Go.VI
namespace Go.VI
open Go
theorem wf_u{n:Int}(h:(Lit.int .u64 n).wf=true):0<=n/\n<18446744073709551616:=by
 simp only [Lit.wf,qae,qaa]at h;have e1:IntKind.u64.min=0:=rfl
 have e2:IntKind.u64.max=18446744073709551615:=rfl
 omega
end Go.VI
namespace Go.VI.P
open Go
open Go.RowKit
structure Good (h:Hp):Prop where
 ok:okH h=true
 sp:∀ (k:Nat) (g:Pg),h.pages[k]?=some g->g.kind=0\/g.space=h.space
 pg:∀ k:Nat,k<h.pages.length->zbj h k=0
 cls:∀ (k:Nat) (g:Pg),h.pages[k]?=some g->∀ x∈zaB h k,(g.kind=1->zaT (atH h x).k (atH h x).n (atH h x).m<=zdX h.pw h.np)/\(g.kind=2->¬(atH h x).k=0)
 zero:∀ p:Int,4096<=p->p<4096+h.np*h.pw->(∃ x∈zat h,x<=p/\p<x+zcb h x)\/zao h.words p=0
 ptr:∀ a∈zaf h,∀ i:Int,ptrB (atH h a).k (atH h a).n (atH h a).m i=true->zao h.words (a+1+i)=0\/zao h.words (a+1+i)∈zaf h
 crowd:(zaQ h.pages:Int)<=h.np / 4
theorem zeI{h:Hp}{k:Nat}{g:Pg}(e:h.pages[k]?=some g):pgAt h k=g:=by
 unfold pgAt;rw [qad];exact zar e
theorem zqy{h:Hp}{a:Int}(ha:a∈zaf h):getE h a=0/\getH h a=atH h a:=by
 obtain ⟨e1,e2⟩:=zco ha;obtain ⟨h1,-⟩:=zdT e1;have hb:=zn2 e1;obtain ⟨g1,g2⟩:=zq3 (a:=a) h1 (by omega) (fun c=>e2 c.2)
 exact ⟨by rw [g1];exact e1,g2⟩
theorem zdL{ps:List Pg}{k:Nat}(h0:¬(ps.getD k Pg.zero).kind=3):∀ (d:Nat),(∀ t,k<t->t<=k+d->(ps.getD t Pg.zero).kind=3)->za0 ps (k+d)=k
 | 0,_=>by
  cases k with
  | zero=>rfl
  | succ j=>rw [qbd,za0,if_neg h0]
 | d+1,hd=>by
  rw [show k+(d+1)=(k+d)+1 from rfl,za0,if_pos (hd (k+d+1) (by omega) (by omega))]
  exact zdL h0 d fun t h1 h2=>hd t h1 (by omega)
theorem zaA{h:Hp}(h1:okH h=true)(h2:∀ k:Nat,k<h.pages.length->zbj h k=0){x:Int}:x∈zat h↔∃ k:Nat,k<h.pages.length/\x∈zaB h k:=by
 rw [(zdh h1 h2).2];unfold zbC;rw [List.mem_flatMap];constructor
 · rintro ⟨k,hk,hx⟩;exact ⟨k,qbw.1 hk,hx⟩
 · rintro ⟨k,hk,hx⟩;exact ⟨k,qbw.2 hk,hx⟩
theorem zmt{pw np p:Int}(hc:confB pw np=true)(h0:4096<=p)(h1:p<4096+np*pw):∃ (i t:Nat),p=4096+(i:Int)*pw+t/\(i:Int)<np/\(t:Int)<pw:=by
 have c:=zaj hc;have e1:=Int.mul_ediv_add_emod (p-4096) pw;have e2:=Int.emod_nonneg (p-4096) (b:=pw) (by omega)
 have e3:=Int.emod_lt_of_pos (p-4096) (b:=pw) (by omega)
 have e4:=qbS (a:=p-4096) (b:=pw) (by omega) (by omega)
 have e5:(p-4096) / pw<np:=qcs (by omega) (by omega)
 rw [Int.mul_comm]at e1;generalize (p-4096) / pw=I at *
 refine ⟨I.toNat,((p-4096) % pw).toNat,?_,by omega,by omega⟩
 rw [qco e4,qco e2];omega
theorem zfm{h:Hp}(h1:okH h=true):(h.pages.length:Int)=h.np:=(zan h1).2.2.1
theorem zaU{h:Hp}(h1:okH h=true){k:Nat}(hk:k<h.pages.length){x:Int}(hx:x∈zaB h k):∃ j g,Begins h x k j g:=by
 obtain ⟨j,g,b⟩:=(zje h1 k hk).2 x hx;exact ⟨j,g,b⟩
theorem zot{h:Hp}{x:Int}(e:atE h x=0):zcb h x<=osz h x:=by
 obtain ⟨h1,h2,h3,h4,h5,h6⟩:=zdT e;unfold zcb osz;split
 · omega
 · rw [zbs h2];omega
end Go.VI.P
namespace Go.VI.P
open Go
open Go.RowKit
def Tile(sz:Int->Int):Int->Int->List Int->Prop
 | a,b,[]=>a=b
 | a,b,q::r=>q=a/\1<=sz q/\Tile sz (a+sz q) b r
theorem zqj{sz:Int->Int}:∀ {l:List Int} {a b:Int},Tile sz a b l->a<=b
 | [],a,b,h=>by have:a=b:=h;omega
 | q::r,a,b,h=>by obtain ⟨h1,h2,h3⟩:=h;have:=zqj h3;omega
theorem zeA{sz:Int->Int}:∀ {l:List Int} {a b:Int},Tile sz a b l->∀ q∈l,a<=q/\1<=sz q/\q+sz q<=b
 | [],a,b,h,q,hq=>by cases hq
 | c::r,a,b,h,q,hq=>by
  obtain ⟨h1,h2,h3⟩:=h;rcases qas.1 hq with e | e
  · subst e;have:=zqj h3;omega
  · have:=zeA h3 q e;omega
theorem zkh{sz:Int->Int}:∀ {l:List Int} {a b c:Int},Tile sz a b l->1<=sz b->c=b+sz b->Tile sz a c (l++[b])
 | [],a,b,c,h,h1,e=>by
  have:a=b:=h
  subst this;exact ⟨rfl,h1,e.symm⟩
 | q::r,a,b,c,h,h1,e=>⟨h.1,h.2.1,zkh h.2.2 h1 e⟩
theorem zcV{sz sz':Int->Int}:∀ {l:List Int} {a b:Int},(∀ q∈l,sz' q=sz q)->Tile sz a b l->Tile sz' a b l
 | [],a,b,_,h=>h
 | q::r,a,b,he,h=>by
  have e:=he q (qaX ..);refine ⟨h.1,by rw [e];exact h.2.1,?_⟩
  rw [e];exact zcV (fun c hc=>he c (qaD _ hc)) h.2.2
theorem zmj{sz:Int->Int}:∀ {l:List Int} {a b p:Int},Tile sz a b l->a<=p->p<b->∃ q∈l,q<=p/\p<q+sz q
 | [],a,b,p,h,h1,h2=>by have:a=b:=h;omega
 | q::r,a,b,p,h,h1,h2=>by
  by_cases c:p<a+sz q
  · exact ⟨q,qaX ..,by rw [h.1];exact h1,by have:=h.1;omega⟩
  · obtain ⟨x,hx,h3⟩:=zmj h.2.2 (by omega) h2
    exact ⟨x,qaD _ hx,h3⟩
theorem at_mk{h:Hp}(hok:okH h=true){k j:Nat}{g:Pg}(hg:h.pages[k]?=some g)(hj:(j:Int)<h.pw){x:Int}(hx:x=4096+(k:Int)*h.pw+j)(hd:okD (zap h x)=true)
 (hk:(g.kind=1/\(j:Int)+(dN (zap h x)+1)<=g.used)\/(g.kind=2/\j=0/\(dN (zap h x):Int)+1=g.used)):atE h x=0/\atH h x=hdOf (zap h x):=by
 have hc:=(zan hok).1;have hlen:=zfm hok;have hkl:=(qah.1 hg).1;obtain ⟨q1,q2,q3⟩:=zim (p:=(k:Int)) (o:=(j:Int)) hc (by unfold inPg;exact qab ⟨by omega,by omega,by omega,hj⟩)
 obtain ⟨o1,o2,o3⟩:=zg5 hc q1;rw [<-hx]at o1 o2 o3;rw [hx]at hd hk;rw [<-hx]at q1;have e1:ofI h.pw h.np x=(k:Int):=by rw [o1,hx];exact q2
 have e2:ofK h.pw h.np x=(j:Int):=by rw [o2,hx];exact q3
 have epg:zct h x=g:=by unfold zct;rw [e1,qad];exact zar hg
 rw [<-hx]at hd hk;refine zmQ hok o3 ?_;unfold atB;rw [epg,e2,hd];rcases hk with ⟨k1,k2⟩ | ⟨k1,k2,k3⟩
 · rw [if_pos k1,qab (show g.kind=1\/g.kind=2 from .inl k1),qab (show (j:Int)<g.used by omega),qab k2];rfl
 · rw [if_neg (show ¬g.kind=1 by omega),qab (show g.kind=1\/g.kind=2 from .inr k1),qab (show (j:Int)<g.used by omega),qab (show (j:Int)=0/\(dN (zap h x):Int)+1=g.used from ⟨by omega,k3⟩)];rfl
theorem zov{h:Hp}(hok:okH h=true){k:Nat}{g:Pg}(hg:h.pages[k]?=some g)(h1:g.kind=1)(hu:g.used<=h.pw){sz:Int->Int}:∀ (l:List Int) (o:Nat),Tile sz (4096+(k:Int)*h.pw+o) (4096+(k:Int)*h.pw+g.used) l->(∀ q∈l,okD (zap h q)=true/\sz q=dN (zap h q)+1)->zck h k false g.used.toNat o=some l
 | [],o,ht,_=>by
  have:4096+(k:Int)*h.pw+o=4096+(k:Int)*h.pw+g.used:=ht
  exact zbS (by omega)
 | q::r,o,ht,hq=>by
  obtain ⟨e1,e2,e3⟩:=ht;obtain ⟨d1,d2⟩:=hq q (qaX ..);have hle:=zqj e3;have hc:=(zan hok).1;have hlen:=zfm hok;have hkl:=(qah.1 hg).1;have ead:za7 h.pw h.np k o=q:=by
   rw [(zdN hc (by unfold inPg;exact qab ⟨by omega,by omega,by omega,by omega⟩)).1]
   exact e1.symm
  obtain ⟨a1,a2⟩:=at_mk hok hg (j:=o) (by omega) (x:=q) e1 d1 (.inl ⟨h1,by omega⟩)
  have en:(atH h q).n=dN (zap h q):=by rw [a2];rfl
  have hs:=zdg (h:=h) (i:=(k:Int)) (u:=g.used.toNat) (o:=o) (by omega) (by rw [ead];exact a1)
  rw [ead]at hs;rw [hs,zov hok hg h1 hu r (o+((atH h q).n.toNat+1)) (by
   have:4096+(k:Int)*h.pw+o+sz q=4096+(k:Int)*h.pw+((o+((atH h q).n.toNat+1):Nat):Int):=by rw [en];omega
   rw [<-this];exact e3) (fun x hx=>hq x (qaD _ hx))]
  rfl
theorem zdA{h:Hp}(hok:okH h=true){k:Nat}{g:Pg}(hg:h.pages[k]?=some g)(h1:g.kind=1)(hu0:0<=g.used)(hu:g.used<=h.pw){sz:Int->Int}{l:List Int}(ht:Tile sz (4096+(k:Int)*h.pw) (4096+(k:Int)*h.pw+g.used) l)(hq:∀ q∈l,okD (zap h q)=true/\sz q=dN (zap h q)+1):
 zbj h k=0/\zaB h k=l:=by
 have hkl:=(qah.1 hg).1;refine zg0 hok (by omega) (by rw [zeI hg];omega) ?_
 unfold zcI;rw [zeI hg,qaj (show ¬g.kind=2 by omega)]
 exact zov hok hg h1 hu l 0 (by simpa using ht) hq
theorem zvS{h:Hp}(hok:okH h=true){k:Nat}{g:Pg}(hg:h.pages[k]?=some g)(h1:g.kind=1)(hu:g.used<=h.pw){sz:Int->Int}{l:List Int}(ht:Tile sz (4096+(k:Int)*h.pw) (4096+(k:Int)*h.pw+g.used) l)(hq:∀ q∈l,okD (zap h q)=true/\sz q=dN (zap h q)+1){q:Int}(hm:q∈l):
 atE h q=0/\atH h q=hdOf (zap h q):=by
 obtain ⟨t1,t2,t3⟩:=zeA ht q hm;obtain ⟨d1,d2⟩:=hq q hm;exact at_mk hok hg (j:=(q-(4096+(k:Int)*h.pw)).toNat) (by omega) (by omega) d1 (.inl ⟨h1,by omega⟩)
theorem zfY{h:Hp}(hok:okH h=true){k:Nat}{g:Pg}(hg:h.pages[k]?=some g)(h1:g.kind=2)(hd:okD (zap h (4096+(k:Int)*h.pw))=true)(hs:(dN (zap h (4096+(k:Int)*h.pw)):Int)+1=g.used):
 zbj h k=0/\zaB h k=[4096+(k:Int)*h.pw]/\atE h (4096+(k:Int)*h.pw)=0/\atH h (4096+(k:Int)*h.pw)=hdOf (zap h (4096+(k:Int)*h.pw)):=by
 have hkl:=(qah.1 hg).1;have hc:=(zan hok).1;have c:=zaj hc;have hlen:=zfm hok;obtain ⟨a1,a2⟩:=at_mk hok hg (j:=0) (by omega) (x:=4096+(k:Int)*h.pw) (by omega) hd (.inr ⟨h1,rfl,hs⟩)
 have ead:za7 h.pw h.np k (0:Nat)=4096+(k:Int)*h.pw:=by
  rw [(zdN hc (by unfold inPg;exact qab ⟨by omega,by omega,by omega,by omega⟩)).1];omega
 have hw:zcI h k=some [4096+(k:Int)*h.pw]:=by
  unfold zcI;rw [zeI hg,qab h1];have:=zdU (h:=h) (i:=(k:Int)) (u:=g.used.toNat) (o:=0) (by omega) (by rw [ead];exact a1)
  rw [ead]at this;exact this
 obtain ⟨p1,p2⟩:=zg0 hok (i:=(k:Int)) (by omega) (by rw [zeI hg];omega) hw
 exact ⟨p1,p2,a1,a2⟩
theorem zaY{h:Hp}(hok:okH h=true){k:Nat}{g:Pg}(hg:h.pages[k]?=some g)(h1:g.kind=0\/g.kind=3):zbj h k=0/\zaB h k=[]:=by
 have hkl:=(qah.1 hg).1;exact zfn hok (by omega) (by rw [zeI hg];exact h1)
theorem zor{h:Hp}(hok:okH h=true){k:Nat}{g:Pg}(hg:h.pages[k]?=some g)(h1:g.kind=1)(hu:g.used<=h.pw):∀ (f o:Nat) (l:List Int),g.used.toNat-o<=f->(o:Int)<=g.used->zck h k false g.used.toNat o=some l->Tile (osz h) (4096+(k:Int)*h.pw+o) (4096+(k:Int)*h.pw+g.used) l
 | f,o,l,hf,ho,hl=>by
  by_cases hlt:o<g.used.toNat
  · cases f with
    | zero=>omega
    | succ f=>
     have hc:=(zan hok).1;have hlen:=zfm hok;have hkl:=(qah.1 hg).1;by_cases e:atE h (za7 h.pw h.np k o)=0
     · rw [zdg hlt e]at hl;have ead:za7 h.pw h.np k o=4096+(k:Int)*h.pw+o:=(zdN hc (by unfold inPg;exact qab ⟨by omega,by omega,by omega,by omega⟩)).1
       rw [ead]at hl e;cases hr:zck h k false g.used.toNat (o+((atH h (4096+(k:Int)*h.pw+o)).n.toNat+1)) with
       | none=>rw [hr]at hl;cases hl
       | some r=>
        rw [hr]at hl;cases hl;obtain ⟨i,j,G,b⟩:=zb8 e;have hpos:=b.pos;have hn:0<=(atH h (4096+(k:Int)*h.pw+o)).n:=by have:=hpos.1;unfold osz at this;omega
        obtain ⟨q1,q2,q3⟩:=zim (p:=(k:Int)) (o:=(o:Int)) hc (by unfold inPg;exact qab ⟨by omega,by omega,by omega,by omega⟩)
        obtain ⟨o1,o2,o3⟩:=zg5 hc q1;have hik:(i:Int)=k:=by rw [<-b.oi,o1];exact q2
        obtain rfl:i=k:=by omega
        have hG:G=g:=by have:=b.pg;rw [hg]at this;injection this with this;exact this.symm
        subst hG;have hkd:=b.kd;have had:=b.ad;have hjo:(j:Int)=o:=by omega
        have hfit:(o:Int)+osz h (4096+(i:Int)*h.pw+o)<=G.used:=by
         rcases hkd with ⟨a1,a2,-⟩ | ⟨a1,-⟩
         · omega
         · omega
        unfold osz at hfit;refine ⟨rfl,hpos.1,?_⟩;have:=zor hok hg h1 hu f _ r (by omega) (by omega) hr
        rwa [show 4096+(i:Int)*h.pw+((o+((atH h (4096+(i:Int)*h.pw+o)).n.toNat+1):Nat):Int)=4096+(i:Int)*h.pw+o+osz h (4096+(i:Int)*h.pw+o) from by unfold osz;omega]at this
     · rw [zdb hlt e]at hl;cases hl
  · rw [zbS hlt]at hl;cases hl;show _=_
    omega
theorem zcY{h:Hp}(hok:okH h=true){k:Nat}{g:Pg}(hg:h.pages[k]?=some g)(h1:g.kind=1)(hp:zbj h k=0):
 0<=g.used/\g.used<=h.pw/\Tile (osz h) (4096+(k:Int)*h.pw) (4096+(k:Int)*h.pw+g.used) (zaB h k)/\∀ q∈zaB h k,okD (zap h q)=true/\osz h q=dN (zap h q)+1:=by
 have hkl:=(qah.1 hg).1;obtain ⟨p1,p2,p3,p4,p5,p6,p7⟩:=zan hok;have hm:=zaI _ _ _ _ p7 g (qav hg);have hu:=hm.2.2.2.2.2.1 h1;refine ⟨hu.1,hu.2,?_,fun q hq=>?_⟩
 · have hw:=zem hok (i:=(k:Int)) (by omega) (by rw [zeI hg];omega)
   rw [hp]at hw;have hs:(zcI h k).isSome=true:=by
    cases e:(zcI h k).isSome
    · rw [e]at hw;exact absurd hw.1 (by decide)
    · rfl
   obtain ⟨l,hl⟩:=qcv.1 hs;rw [hl]at hw;rw [hw.2];unfold zcI at hl;rw [zeI hg,qaj (show ¬g.kind=2 by omega)]at hl
   have:=zor hok hg h1 hu.2 g.used.toNat 0 l (by omega) (by omega) hl
   simpa using this
 · obtain ⟨i,j,G,b⟩:=zb8 (zbD hq);exact ⟨b.od,b.sz⟩
theorem zeo{h:Hp}(hok:okH h=true){k:Nat}{g:Pg}(hg:h.pages[k]?=some g)(h1:g.kind=2)(hp:zbj h k=0):
 zaB h k=[4096+(k:Int)*h.pw]/\okD (zap h (4096+(k:Int)*h.pw))=true/\(dN (zap h (4096+(k:Int)*h.pw)):Int)+1=g.used/\atE h (4096+(k:Int)*h.pw)=0:=by
 have hkl:=(qah.1 hg).1;obtain ⟨p1,p2,p3,p4,p5,p6,p7⟩:=zan hok;have c:=zaj p1;have hm:=zaI _ _ _ _ p7 g (qav hg);have hu:=zfv (hm.2.2.2.2.2.2.1 h1);have hw:=zem hok (i:=(k:Int)) (by omega) (by rw [zeI hg];omega)
 rw [hp]at hw;have hs:(zcI h k).isSome=true:=by
  cases e:(zcI h k).isSome
  · rw [e]at hw;exact absurd hw.1 (by decide)
  · rfl
 obtain ⟨l,hl⟩:=qcv.1 hs;rw [hl]at hw;have ead:za7 h.pw h.np k (0:Nat)=4096+(k:Int)*h.pw:=by
  rw [(zdN p1 (by unfold inPg;exact qab ⟨by omega,by omega,by omega,by omega⟩)).1];omega
 have hlt:0<g.used.toNat:=by omega
 unfold zcI at hl;rw [zeI hg,qab h1]at hl;have he:atE h (4096+(k:Int)*h.pw)=0:=by
  refine qaY fun e=>?_
  rw [zdb hlt (by rw [ead];exact e)]at hl
  cases hl
 rw [zdU hlt (by rw [ead];exact he),ead]at hl
 cases hl;obtain ⟨i,j,G,b⟩:=zb8 he;obtain ⟨q1,q2,q3⟩:=zim (p:=(k:Int)) (o:=0) p1 (by unfold inPg;exact qab ⟨by omega,by omega,by omega,by omega⟩)
 obtain ⟨o1,o2,o3⟩:=zg5 p1 q1;have hik:(i:Int)=k:=by
  have:=b.oi
  rw [show (4096+(k:Int)*h.pw)=4096+(k:Int)*h.pw+0 from by omega,o1]at this
  rw [<-this];exact q2
 obtain rfl:i=k:=by omega
 have hG:G=g:=by have:=b.pg;rw [hg]at this;injection this with this;exact this.symm
 subst hG;refine ⟨hw.2,b.od,?_,he⟩;have:=b.sz
 rcases b.kd with ⟨a1,-⟩ | ⟨a1,a2,a3,a4⟩
 · omega
 · omega
theorem zdi{h:Hp}(G:Good h){a b:Int}(ha:a∈zat h)(hb:b∈zat h)(hne:a≠b):a+osz h a<=b\/b+osz h b<=a:=by
 rw [(zdh G.ok G.pg).2]at ha hb;have hp:=(zdC G.ok h.pages.length (qan _)).1;rcases zfl hp ha hb with e | e | e
 · exact absurd e hne
 · exact .inl e
 · exact .inr e
theorem zaW{h:Hp}{a:Int}:a∈zaf h↔a∈zat h/\¬(atH h a).k=0:=by
 unfold zaf zb7;rw [qbC,qaa]
theorem zko{h h':Hp}(G:Good h)(ok':okH h'=true)(epw:h'.pw=h.pw)(enp:h'.np=h.np)(epl:h'.pages.length=h.pages.length)
 (pg:∀ (k:Nat) (g:Pg),h.pages[k]?=some g->∃ g',h'.pages[k]?=some g'/\g'.kind=g.kind/\g'.used=g.used) (hw:∀ x∈zat h,zap h' x=zap h x) :
 (∀ k:Nat,k<h.pages.length->zbj h' k=0/\zaB h' k=zaB h k)/\zat h'=zat h/\(∀ x∈zat h,atE h' x=0/\atH h' x=atH h x)/\zaf h'=zaf h:=by
 have h1:∀ k:Nat,k<h.pages.length->zbj h' k=0/\zaB h' k=zaB h k:=fun k hk=>by
  have hg:h.pages[k]?=some h.pages[k]:=qal hk
  generalize h.pages[k]=g at hg
  obtain ⟨g',hg',e1,e2⟩:=pg k g hg;have hin:∀ x∈zaB h k,x∈zat h:=fun x hx=>(zaA G.ok G.pg).2 ⟨k,hk,hx⟩
  by_cases k1:g.kind=1
  · obtain ⟨t1,t2,t3,t4⟩:=zcY G.ok hg k1 (G.pg k hk);refine zdA ok' hg' (by omega) (by omega) (by omega) (sz:=osz h) (by rw [epw,e2];exact t3) fun q hq=>?_
    rw [hw q (hin q hq)];exact t4 q hq
  by_cases k2:g.kind=2
  · obtain ⟨t1,t2,t3,t4⟩:=zeo G.ok hg k2 (G.pg k hk);have hwb:=hw (4096+(k:Int)*h.pw) (hin _ (by rw [t1];exact qau.2 rfl))
    obtain ⟨r1,r2,-⟩:=zfY ok' hg' (by omega) (by rw [epw,hwb];exact t2) (by rw [epw,hwb,e2];exact t3)
    exact ⟨r1,by rw [r2,t1,epw]⟩
  · have hz:g.kind=0\/g.kind=3:=by
     obtain ⟨p1,p2,p3,p4,p5,p6,p7⟩:=zan G.ok;have:=(zaI _ _ _ _ p7 g (qav hg)).2.2.2.2.2.2.2.2
     omega
    obtain ⟨r1,r2⟩:=zaY G.ok hg hz;obtain ⟨s1,s2⟩:=zaY ok' hg' (by omega)
    exact ⟨s1,by rw [s2,r2]⟩
 have h2:zat h'=zat h:=by
  rw [(zdh ok' (fun k hk=>(h1 k (by omega)).1)).2,(zdh G.ok G.pg).2,epl]
  unfold zbC;rw [List.flatMap_def,List.flatMap_def];congr 1
  refine List.map_congr_left fun k hk=>(h1 k (qbw.1 hk)).2
 have h3:∀ x∈zat h,atE h' x=0/\atH h' x=atH h x:=fun x hx=>by
  have e1:=zaG hx;rw [<-h2]at hx;have e2:=zaG hx;rw [h2]at hx;refine ⟨e2,?_⟩;obtain ⟨i,j,g,b⟩:=zb8 e1;obtain ⟨i',j',g',b'⟩:=zb8 e2;rw [b.hd,b'.hd,hw x hx]
 refine ⟨h1,h2,h3,?_⟩;unfold zaf zb7;rw [h2];exact List.filter_congr fun x hx=>by rw [(h3 x hx).2]
end Go.VI.P
namespace Go.VI.P
open Go
open Go.RowKit
theorem zaF{h:Hp}{x:Int}(h0:4096<=x):zap h x=(zao h.words x).toNat:=by
 unfold zap zao;by_cases c:okA h.words.length x 1=true
 · rw [if_pos c]
 · rw [if_neg c];have:¬(x-4096).toNat<h.words.length:=fun q=>c (zaM.2 (by omega))
   rw [qaA,qbN (by omega)];rfl
theorem zkw{k n m i:Int}(h:ptrB k n m i=true):zaD k n m=true/\0<=i/\i<n:=by
 unfold ptrB at h;simp only [qae,qaa]at h;exact ⟨h.1.1.1,h.1.1.2,h.1.2⟩
theorem zgY{h h':Hp}(hok:okH h=true)(ok':okH h'=true)(epw:h'.pw=h.pw){k:Nat}{g g':Pg}(hg:h.pages[k]?=some g)(hg':h'.pages[k]?=some g')(e1:g'.kind=g.kind)(e2:g'.used=g.used)(hp:zbj h k=0)
 (hw:∀ x∈zaB h k,zap h' x=zap h x):zbj h' k=0/\zaB h' k=zaB h k:=by
 by_cases k1:g.kind=1
 · obtain ⟨t1,t2,t3,t4⟩:=zcY hok hg k1 hp;refine zdA ok' hg' (by omega) (by omega) (by omega) (sz:=osz h) (by rw [epw,e2];exact t3) fun q hq=>?_
   rw [hw q hq];exact t4 q hq
 by_cases k2:g.kind=2
 · obtain ⟨t1,t2,t3,t4⟩:=zeo hok hg k2 hp;have hwb:=hw (4096+(k:Int)*h.pw) (by rw [t1];exact qau.2 rfl)
   obtain ⟨r1,r2,-⟩:=zfY ok' hg' (by omega) (by rw [epw,hwb];exact t2) (by rw [epw,hwb,e2];exact t3)
   exact ⟨r1,by rw [r2,t1,epw]⟩
 · have hz:g.kind=0\/g.kind=3:=by
    obtain ⟨p1,p2,p3,p4,p5,p6,p7⟩:=zan hok;have:=(zaI _ _ _ _ p7 g (qav hg)).2.2.2.2.2.2.2.2
    omega
   obtain ⟨r1,r2⟩:=zaY hok hg hz;obtain ⟨s1,s2⟩:=zaY ok' hg' (by omega)
   exact ⟨s1,by rw [s2,r2]⟩
theorem zun{h h':Hp}{x:Int}(e1:atE h x=0)(e2:atE h' x=0)(hw:zap h' x=zap h x):atH h' x=atH h x:=by
 obtain ⟨i,j,g,b⟩:=zb8 e1;obtain ⟨i',j',g',b'⟩:=zb8 e2;rw [b.hd,b'.hd,hw]
theorem zsn{h H:Hp}(G:Good h)(ok:okH H=true)(epw:H.pw=h.pw)(enp:H.np=h.np)(epl:H.pages.length=h.pages.length){A s:Int}{J:Nat}(hJ:J<h.pages.length)
 (hpv:∀ k:Nat,k<h.pages.length->zbj H k=0/\∀ x,x∈zaB H k↔x∈zaB h k\/(k=J/\x=A))
 (hw:∀ p,p<A\/A+s<=p->zao H.words p=zao h.words p)
 (hdj:∀ x∈zat h,x+osz h x<=A\/A+s<=x) (hA:¬(atH H A).k=0) (hs:(atH H A).n+1=s)
 (hf:∀ i,0<=i->i<s-1->zao H.words (A+1+i)=0)
 (hsp:∀ (k:Nat) (g:Pg),H.pages[k]?=some g->g.kind=0\/g.space=H.space)
 (hkd:∀ (k:Nat) (g g':Pg),h.pages[k]?=some g->H.pages[k]?=some g'->¬zaB h k=[]->g'.kind=g.kind)
 (hclA:∀ g,H.pages[J]?=some g->g.kind=1->s<=zdX h.pw h.np)
 (hcr:(zaQ H.pages:Int)<=H.np / 4):Good H/\∀ x,x∈zaf H↔x∈zaf h\/x=A:=by
 have hst:∀ x,x∈zat H↔x∈zat h\/x=A:=fun x=>by
  rw [zaA ok (fun k hk=>(hpv k (by omega)).1),zaA G.ok G.pg,epl]
  constructor
  · rintro ⟨k,hk,hx⟩;rcases ((hpv k hk).2 x).1 hx with e | e
    · exact .inl ⟨k,hk,e⟩
    · exact .inr e.2
  · rintro (⟨k,hk,hx⟩ | e)
    · exact ⟨k,hk,((hpv k hk).2 x).2 (.inl hx)⟩
    · exact ⟨J,hJ,((hpv J hJ).2 x).2 (.inr ⟨rfl,e⟩)⟩
 have hAs:A∈zat H:=(hst A).2 (.inr rfl);have hAe:=zaG hAs;obtain ⟨av1,av2,av3,av4,av5,av6⟩:=zdT hAe;have hold:∀ x∈zat h,atH H x=atH h x:=fun x hx=>by
  have e1:=zaG hx;have e2:=zaG ((hst x).2 (.inl hx));have hb:=zn2 e1;refine zun e1 e2 ?_;obtain ⟨i,j,g,b⟩:=zb8 e1;have:=b.pos
  rw [zaF hb.1,zaF hb.1,hw x (by have:=hdj x hx;omega)]
 have hob:∀ x,x∈zaf H↔x∈zaf h\/x=A:=fun x=>by
  rw [zaW,zaW,hst];constructor
  · rintro ⟨e | e,e2⟩
    · rw [hold x e]at e2;exact .inl ⟨e,e2⟩
    · exact .inr e
  · rintro (⟨e,e2⟩ | e)
    · exact ⟨.inl e,by rw [hold x e];exact e2⟩
    · rw [e];exact ⟨.inr rfl,hA⟩
 refine ⟨⟨ok,hsp,fun k hk=>(hpv k (by omega)).1,fun k g hg x hx=>?_,fun p p0 p1=>?_,fun a ha i hi=>?_,hcr⟩,hob⟩
 · have hk:k<h.pages.length:=by have:=(qah.1 hg).1;omega
   have hgo:h.pages[k]?=some h.pages[k]:=qal hk
   generalize h.pages[k]=go at hgo
   rcases ((hpv k hk).2 x).1 hx with e | ⟨e1,e2⟩
   · have:=G.cls k go hgo x e
     have hsx:x∈zat h:=(zaA G.ok G.pg).2 ⟨k,hk,e⟩;have hkk:=hkd k go g hgo hg (fun c=>by rw [c]at e;cases e)
     rw [hold x hsx,epw,enp,hkk];exact this
   · subst e1 e2;refine ⟨fun k1=>?_,fun _=>hA⟩
     rw [zbs av2,hs,epw,enp];exact hclA g hg k1
 · rw [epw,enp]at p1;by_cases c:A<=p/\p<A+s
   · refine .inl ⟨A,hAs,c.1,?_⟩;unfold zcb;rw [if_neg hA,zbs av2,hs];exact c.2
   · rcases G.zero p p0 p1 with ⟨x,hx,h2,h3⟩ | e
     · refine .inl ⟨x,(hst x).2 (.inl hx),h2,?_⟩;unfold zcb at h3 ⊢
       rw [hold x hx];exact h3
     · right
       rw [hw p (by omega)];exact e
 · obtain ⟨q1,q2,q3⟩:=zkw hi;rcases (hob a).1 ha with e | e
   · have hsx:=(zaW.1 e).1;rw [hold a hsx]at hi q3;have hd:=hdj a hsx;unfold osz at hd;rw [hw (a+1+i) (by omega)]
     rcases G.ptr a e i hi with c | c
     · exact .inl c
     · exact .inr ((hob _).2 (.inl c))
   · subst e;exact .inl (hf i q2 (by omega))
theorem zj8:∀ (ps qs:List Pg),ps.length=qs.length->(∀ (k:Nat) (x y:Pg),ps[k]?=some x->qs[k]?=some y->(y.kind=1/\0<y.pins)->(x.kind=1/\0<x.pins))->zaQ qs<=zaQ ps
 | [],[],_,_=>qan _
 | [],_::_,h,_=>by simp at h
 | _::_,[],h,_=>by simp at h
 | x::ps,y::qs,h,hk=>by
  have ih:=zj8 ps qs (by simpa using h) fun k a b ha hb=>hk (k+1) a b (by simpa using ha) (by simpa using hb)
  have h0:=hk 0 x y rfl rfl;rw [zaQ,zaQ];by_cases c:y.kind=1/\0<y.pins
  · rw [if_pos c,if_pos (h0 c)];omega
  · rw [if_neg c];omega
theorem zkS{xs:List Int}{A k n m:Int}(hn:0<=n)(hok:okA xs.length A (zch k n m).length=true):zao (zaz xs A (zch k n m)) A=zcU k n m/\(∀ i,0<=i->i<n->zao (zaz xs A (zch k n m)) (A+1+i)=0)/\∀ p,p<A\/A+(n+1)<=p->zao (zaz xs A (zch k n m)) p=zao xs p:=by
 have hlen:=zep (k:=k) (n:=n) (m:=m)
 have hk:=zaM.1 hok;obtain ⟨i0,hi0⟩:∃ i0:Nat,A=4096+(i0:Int):=⟨(A-4096).toNat,by omega⟩
 have hsp:zaz xs A (zch k n m)=Go.splice xs i0 (zch k n m):=by rw [hi0];rw [hi0]at hok;exact (zrT hok).1
 have hfit:i0+(zch k n m).length<=xs.length:=by omega
 refine ⟨?_,fun i q0 q1=>?_,fun p hp=>za5 hok (by omega)⟩
 · rw [zbK _ (by omega),hsp,hi0,show ((4096+(i0:Int))-4096).toNat=i0 from by omega,zdj hfit (qan _) (by omega),qbL];rfl
 · rw [zbK _ (by omega),hsp,hi0,show (4096+(i0:Int)+1+i-4096).toNat=i0+(i.toNat+1) from by omega,zdj hfit (by omega) (by omega),show i0+(i.toNat+1)-i0=i.toNat+1 from by omega]
   unfold zch;rw [qb2,qbY,if_pos (by omega)];rfl
theorem zlm{h:Hp}{k n m:Int}(he:zcz h k n m=0):okH h=true/\zaD k n m=true/\¬k=0/\zaT k n m=n+1/\¬zax h.pw h.np (n+1) = -1/\zdo h (n+1)=true/\0<=n /\
 okH (zbT h (n+1))=true/\(zbT h (n+1)).words=h.words/\okA h.words.length (zb6 h (n+1)) (zch k n m).length=true /\
 zdu h k n m={ zbT h (n+1) with words:=zaz h.words (zb6 h (n+1)) (zch k n m) }/\zfI h k n m=zb6 h (n+1):=by
 obtain ⟨ha,hr⟩:zgg h k n m=true/\zkP h k n m=true:=by
  unfold zcz at he;split at he
  · rename_i h1;split at he
    · rename_i h2;exact ⟨h1,h2⟩
    · exact absurd he (by decide)
  · exact absurd he (by decide)
 obtain ⟨e1,e2,e3⟩:=zky h k n m;rw [e1]at hr;unfold zgg ziK at ha;simp only [qae,qaa]at ha;obtain ⟨ho,⟨hv,hk0⟩,hnd⟩:=ha;have hs:=zbs hv;have hn0:=(zaE hv).2.2.1;rw [hs]at hr hnd e2 e3;have hop:okP h=true:=by unfold okP;rw [zce];exact ho
 obtain ⟨q1,q2,q3,q4⟩:=zfk hop (show 1<=n+1 by omega) hnd hr
 have hoh:okH (zbT h (n+1))=true:=by unfold okP at q1;rw [zce]at q1;exact q1
 have hil:(zch k n m).length=(n+1).toNat:=by rw [zep];omega
 have hka:okA (zbT h (n+1)).words.length (zb6 h (n+1)) (zch k n m).length=true:=by rw [q2,hil];exact q4
 have hie:zgE (zbT h (n+1)) (zb6 h (n+1)) k n m=0:=by
  unfold zgE;rw [if_pos ⟨hv,hoh⟩];unfold ze3;rw [if_pos hka]
 refine ⟨ho,hv,hk0,hs,hnd,hr,hn0,hoh,q2,by rw [hil];exact q4,?_,by unfold zfI;rw [if_pos he,e3]⟩
 unfold zdu;rw [if_pos he,e2,e3];unfold zjG;rw [if_pos hie,q2]
theorem zg3{h:Hp}{ws:List Int}(hl:ws.length=h.words.length):okH { h with words:=ws }=okH h:=by
 unfold okH;show zc0 h.pw h.np ws.length h.pages h.space h.bump=_
 rw [hl]
theorem ztj{h:Hp}(G:Good h){k n m:Int}(hm:0<=m)(he:zcz h k n m=0):Good (zdu h k n m)/\∀ x,x∈zaf (zdu h k n m)↔x∈zaf h\/x=zfI h k n m:=by
 obtain ⟨ho,hv,hk0,hs,hnd,hr,hn0,hoh,hpw,hoA,eH,eA⟩:=zlm he;rw [eH,eA];generalize hA:zb6 h (n+1)=A at *
 have hlenL:=zep (k:=k) (n:=n) (m:=m)
 obtain ⟨l1,l2,l3⟩:=zkS (k:=k) (m:=m) hn0 hoA
 have hoA':=zaM.1 hoA;have vp:=zaE hv;have hc:=(zan ho).1;have c:=zaj hc;have hlen:=zfm ho;generalize hX:zbT h (n+1)=X at *
 have okX:okH { X with words:=zaz h.words A (zch k n m) }=true:=by
  rw [zg3 (by rw [zcB hoA,hpw])];exact hoh
 generalize hH:({ X with words:=zaz h.words A (zch k n m) }:Hp)=H at *
 have eW:H.words=zaz h.words A (zch k n m):=by rw [<-hH]
 have eP:H.pages=X.pages:=by rw [<-hH]
 have hwA:zap H A=(zcU k n m).toNat:=by rw [zaF hoA'.1,eW,l1]
 have hwb:=zkc hv hm;obtain ⟨d1,d2,d3,d4⟩:=zjW hv hm (x:=(zcU k n m).toNat) (by omega)
 rw [<-hwA]at d1 d2 d3 d4;have hwout:∀ p,p<A\/A+(n+1)<=p->zao H.words p=zao h.words p:=fun p hp=>by rw [eW];exact l3 p hp
 by_cases hbig:0<zax h.pw h.np (n+1)
 ·
  have hX':X=zkU h (n+1) (zax h.pw h.np (n+1)):=by rw [<-hX];unfold zbT;rw [if_pos hbig]
  have hA':A=zjg h (zax h.pw h.np (n+1)):=by rw [<-hA];unfold zb6;rw [if_pos hbig]
  have hr':zeN h (zax h.pw h.np (n+1))=true:=by unfold zdo at hr;rw [if_pos hbig]at hr;exact hr
  obtain ⟨j,kk,f1,f2,f3,f4,f5,f6,f7,f8⟩:=ztf ho rfl hr';have eA2:A=4096+(j:Int)*h.pw:=by rw [hA'];unfold zjg;rw [f1]
  have ePg:H.pages=(put h.pages j kk ⟨3,h.space,0,0⟩).set j ⟨2,h.space,n+1,0⟩:=by rw [eP,hX'];exact f7
  have epw:H.pw=h.pw:=by rw [<-hH,hX'];rfl
  have enp:H.np=h.np:=by rw [<-hH,hX'];rfl
  have esp:H.space=h.space:=by rw [<-hH,hX'];rfl
  have hpl:(put h.pages j kk ⟨3,h.space,0,0⟩).length=h.pages.length:=zd8 f4
  have epl:H.pages.length=h.pages.length:=by rw [ePg,List.length_set,hpl]
  have hgj:H.pages[j]?=some ⟨2,h.space,n+1,0⟩:=by rw [ePg,qcq (by omega)]
  have hgt:∀ t:Nat,j<t->t<j+kk->H.pages[t]?=some ⟨3,h.space,0,0⟩:=fun t t1 t2=>by
   rw [ePg,qbu (by omega)];exact zkt f4 (by omega) t2
  have hgo:∀ t:Nat,t<j\/j+kk<=t->H.pages[t]?=h.pages[t]?:=fun t ht=>by
   rw [ePg,qbu (by omega)];exact zdn f4 (by omega)
  have hnf:=zfv (pw:=h.pw) (np:=h.np) (n:=n+1) (by omega)
  have hdj:∀ x∈zat h,x+osz h x<=A\/A+(n+1)<=x:=fun x hx=>by
   obtain ⟨i,jj,g,b⟩:=zb8 (zaG hx);have hp:=b.pos;have hup:=b.upto;by_cases cc:(i:Int)<j
   · left
     have h6:=f6 j (qan _) (by omega)
     obtain ⟨y,y1,y2⟩:=h6;have:=zaJ b y1 y2
     rcases this with q | q
     · omega
     · exfalso
       have:((i:Int)+1)*h.pw<=(j:Int)*h.pw:=qaK (by omega) (by omega)
       rw [qa7,qa5]at this;have hj1:=b.jl;have had:=b.ad;omega
   · by_cases cc2:(i:Int)<j+kk
     · exfalso
       obtain ⟨y,y1,y2⟩:=f6 i (by omega) (by omega)
       have:=b.pg
       rw [y1]at this;injection this with this
       subst this;rcases b.kd with ⟨q,-⟩ | ⟨q,-⟩ <;> omega
     · right
       have:((j:Int)+kk)*h.pw<=(i:Int)*h.pw:=qaK (by omega) (by omega)
       rw [qa7]at this;have had:=b.ad;rw [f2]at hnf;omega
  obtain ⟨r1,r2,r3,r4⟩:=zfY okX hgj rfl (by rw [epw,<-eA2];exact d1) (by rw [epw,<-eA2];show (dN (zap H A):Int)+1=n+1;omega)
  rw [epw,<-eA2]at r2 r3 r4;refine zsn G okX epw enp epl (J:=j) (by omega) (fun t ht=>?_) hwout hdj (by rw [r4];show ¬(dK (zap H A):Int)=0;rw [d2];exact hk0) (by rw [r4];show (dN (zap H A):Int)+1=n+1;rw [d3]) (fun i i0 i1=>by rw [eW];exact l2 i i0 (by omega)) (fun t g hg=>?_) (fun t g g' hg hg' hne=>?_) (fun g hg k1=>?_) ?_
  · by_cases tj:t=j
    · subst tj;refine ⟨r1,fun x=>?_⟩
      obtain ⟨y,y1,y2⟩:=f6 t (qan _) (by omega)
      rw [r2,(zaY ho y1 (.inl y2)).2];simp
    by_cases tr:j<t/\t<j+kk
    · obtain ⟨y,y1,y2⟩:=f6 t (by omega) tr.2
      obtain ⟨n1,n2⟩:=zaY okX (hgt t tr.1 tr.2) (.inr rfl);refine ⟨n1,fun x=>?_⟩
      rw [n2,(zaY ho y1 (.inl y2)).2];simp [tj]
    · have hg:h.pages[t]?=some h.pages[t]:=qal ht
      generalize h.pages[t]=g at hg
      have hg':=hgo t (by omega)
      rw [hg]at hg'
      obtain ⟨n1,n2⟩:=zgY ho okX epw hg hg' rfl rfl (G.pg t ht) fun x hx=>by
       have hsx:x∈zat h:=(zaA G.ok G.pg).2 ⟨t,ht,hx⟩;have hb:=zn2 (zbD hx);obtain ⟨i,jj,g,b⟩:=zb8 (zbD hx);have hp:=b.pos;rw [zaF hb.1,zaF hb.1,hwout x (by have:=hdj x hsx;omega)]
      refine ⟨n1,fun x=>?_⟩
      rw [n2];simp [tj]
  · by_cases tj:t=j
    · subst tj;rw [hgj]at hg;injection hg with hg;subst hg;right;exact esp.symm
    by_cases tr:j<t/\t<j+kk
    · rw [hgt t tr.1 tr.2]at hg;injection hg with hg;subst hg;right;exact esp.symm
    · rw [hgo t (by omega)]at hg
      rw [esp];exact G.sp t g hg
  · by_cases tr:j<=t/\t<j+kk
    · obtain ⟨y,y1,y2⟩:=f6 t tr.1 tr.2;exact absurd (zaY ho y1 (.inl y2)).2 hne
    · rw [hgo t (by omega),hg]at hg';injection hg' with hg';rw [hg']
  · rw [hgj]at hg;injection hg with hg;subst hg;cases k1
  · rw [enp];have:=zj8 h.pages H.pages epl.symm fun t x y hx hy hyk=>by
     by_cases tj:t=j
     · subst tj;rw [hgj]at hy;injection hy with hy;subst hy;exact absurd hyk.1 (by show ¬(2:Int)=1;decide)
     by_cases tr:j<t/\t<j+kk
     · rw [hgt t tr.1 tr.2]at hy;injection hy with hy;subst hy;exact absurd hyk.1 (by show ¬(3:Int)=1;decide)
     · rw [hgo t (by omega),hx]at hy;injection hy with hy;subst hy;exact hyk
    have:=G.crowd
    omega
 ·
  have hX':X=zjb h (n+1):=by rw [<-hX];unfold zbT;rw [if_neg hbig]
  have hA':A=zgW h (n+1):=by rw [<-hA];unfold zb6;rw [if_neg hbig]
  have hr':zb1 h (n+1)=true:=by unfold zdo at hr;rw [if_neg hbig]at hr;exact hr
  obtain ⟨j,x0,f1,f2,f3,f4,f5,f6,f7,f8,f9⟩:=small_spec ho hr';have eA2:A=4096+(j:Int)*h.pw+x0.used:=by
   rw [hA'];unfold zgW;rw [f1,qad,zar f4]
  have ePg:H.pages=(zbH h (n+1)).set j ⟨x0.kind,x0.space,x0.used+(n+1),x0.pins⟩:=by
   rw [eP,hX'];show zf4 (zbH h (n+1)) (ze4 h (n+1)).toNat (n+1)=_
   unfold zf4;rw [f1,qad,zar f4]
  have epw:H.pw=h.pw:=by rw [<-hH,hX'];rfl
  have enp:H.np=h.np:=by rw [<-hH,hX'];rfl
  have esp:H.space=h.space:=by rw [<-hH,hX'];rfl
  have epl:H.pages.length=h.pages.length:=by rw [ePg,List.length_set,f3]
  have hgj:H.pages[j]?=some ⟨x0.kind,x0.space,x0.used+(n+1),x0.pins⟩:=by rw [ePg,qcq (by omega)]
  have hgo:∀ t:Nat,t≠j->H.pages[t]?=h.pages[t]?:=fun t ht=>by
   rw [ePg,qbu (by omega)]
   rcases f9 with ⟨-,q,-⟩ | ⟨-,q,-⟩
   · rw [q,qbu (by omega)]
   · rw [q]
  obtain ⟨g0,hg0,hold⟩:∃ g0,h.pages[j]?=some g0/\((g0.kind=0/\x0.used=0/\x0.pins=0)\/g0=x0):=by
   rcases f9 with ⟨-,q,q2,-,y,y1,y2⟩ | ⟨-,q,-⟩
   · exact ⟨y,y1,.inl ⟨y2,by rw [q2],by rw [q2]⟩⟩
   · rw [q]at f4;exact ⟨x0,f4,.inr rfl⟩
  have htile:Tile (osz h) (4096+(j:Int)*h.pw) (4096+(j:Int)*h.pw+x0.used) (zaB h j)/\∀ q∈zaB h j,okD (zap h q)=true/\osz h q=dN (zap h q)+1:=by
   rcases hold with ⟨q1,q2,-⟩ | q
   · rw [(zaY ho hg0 (.inl q1)).2,q2];exact ⟨by show _=_;omega,fun q hq=>by cases hq⟩
   · subst q;obtain ⟨t1,t2,t3,t4⟩:=zcY ho hg0 f5 (G.pg j f2);exact ⟨t3,t4⟩
  have hgj2:=hgj;have hjm:=zaI _ _ _ _ (zan okX).2.2.2.2.2.2 _ (qav hgj);have hused:=hjm.2.2.2.2.2.1 f5;rw [epw]at hused;have hused:0<=x0.used+(n+1)/\x0.used+(n+1)<=h.pw:=hused
  have hdj:∀ x∈zat h,x+osz h x<=A\/A+(n+1)<=x:=fun x hx=>by
   obtain ⟨t,ht,hxt⟩:=(zaA G.ok G.pg).1 hx;by_cases tj:t=j
   · subst tj;have:=zeA htile.1 x hxt
     left;omega
   · obtain ⟨jj,g,b⟩:=zaU ho ht hxt;have hp:=b.pos;obtain ⟨u1,u2,u3,u4⟩:=b.upto;by_cases cc:t<j
     · left
       have hps:(t:Int)+zdl h g<=j:=by
        refine qaY fun q=>?_
        obtain ⟨y,y1,y2⟩:=u4 j cc (by omega)
        rw [hg0]at y1;injection y1 with y1
        subst y1;rcases hold with ⟨q1,-⟩ | q1
        · omega
        · subst q1;omega
       have:((t:Int)+zdl h g)*h.pw<=(j:Int)*h.pw:=qaK hps (by omega)
       omega
     · right
       have:((j:Int)+1)*h.pw<=(t:Int)*h.pw:=qaK (by omega) (by omega)
       rw [qa7,qa5]at this;omega
  have hwold:∀ t:Nat,t<h.pages.length->∀ x∈zaB h t,zap H x=zap h x:=fun t ht x hx=>by
   have hsx:x∈zat h:=(zaA G.ok G.pg).2 ⟨t,ht,hx⟩;have hb:=zn2 (zbD hx);obtain ⟨i,jj,g,b⟩:=zb8 (zbD hx);have hp:=b.pos;rw [zaF hb.1,zaF hb.1,hwout x (by have:=hdj x hsx;omega)]
  have hnew:Tile (fun q=>(dN (zap H q):Int)+1) (4096+(j:Int)*H.pw) (4096+(j:Int)*H.pw+(x0.used+(n+1))) (zaB h j++[A]):=by
   rw [epw,eA2];refine zkh (zcV (fun q hq=>?_) htile.1) (by show 1<=(dN (zap H _):Int)+1;omega) ?_
   · rw [hwold j f2 q hq];exact (htile.2 q hq).2.symm
   · rw [<-eA2,d3];omega
  have hnewq:∀ q∈zaB h j++[A],okD (zap H q)=true/\(fun q=>(dN (zap H q):Int)+1) q=dN (zap H q)+1:=fun q hq=>by
   rcases qao.1 hq with q1 | q1
   · exact ⟨by rw [hwold j f2 q q1];exact (htile.2 q q1).1,rfl⟩
   · rw [qau.1 q1];exact ⟨d1,rfl⟩
  obtain ⟨r1,r2⟩:=zdA okX hgj f5 hused.1 (by rw [epw];exact hused.2) hnew hnewq
  obtain ⟨r3,r4⟩:=zvS okX hgj f5 (by rw [epw];exact hused.2) hnew hnewq (q:=A) (by simp)
  refine zsn G okX epw enp epl (J:=j) f2 (fun t ht=>?_) hwout hdj (by rw [r4];show ¬(dK (zap H A):Int)=0;rw [d2];exact hk0) (by rw [r4];show (dN (zap H A):Int)+1=n+1;rw [d3]) (fun i i0 i1=>by rw [eW];exact l2 i i0 (by omega)) (fun t g hg=>?_) (fun t g g' hg hg' hne=>?_) (fun g hg k1=>?_) ?_
  · by_cases tj:t=j
    · subst tj;refine ⟨r1,fun x=>?_⟩
      rw [r2];simp
    · have hg:h.pages[t]?=some h.pages[t]:=qal ht
      generalize h.pages[t]=g at hg
      have hg':=hgo t tj;rw [hg]at hg'
      obtain ⟨n1,n2⟩:=zgY ho okX epw hg hg' rfl rfl (G.pg t ht) (hwold t ht);refine ⟨n1,fun x=>?_⟩
      rw [n2];simp [tj]
  · by_cases tj:t=j
    · subst tj;rw [hgj]at hg;injection hg with hg;subst hg;right
      rw [esp];exact f8
    · rw [hgo t tj]at hg;rw [esp];exact G.sp t g hg
  · by_cases tj:t=j
    · subst tj;rw [hgj]at hg';injection hg' with hg';subst hg'
      rw [hg0]at hg;injection hg with hg;subst hg
      rcases hold with ⟨q1,-⟩ | q1
      · exact absurd (zaY ho hg0 (.inl q1)).2 hne
      · rw [q1]
    · rw [hgo t tj,hg]at hg';injection hg' with hg';rw [hg']
  · rw [zjY hc];exact (zkR hc hbig hnd).2
  · rw [enp];have:=zj8 h.pages H.pages epl.symm fun t x y hx hy hyk=>by
     by_cases tj:t=j
     · subst tj;rw [hgj]at hy;injection hy with hy;subst hy
       rw [hg0]at hx;injection hx with hx;subst hx
       rcases hold with ⟨q1,q2,q3⟩ | q1
       · exfalso;have:=hyk.2;simp only at this;omega
       · rw [q1];exact hyk
     · rw [hgo t tj,hx]at hy;injection hy with hy;subst hy;exact hyk
    have:=G.crowd
    omega
end Go.VI.P
namespace Go.VI.P
open Go
open Go.RowKit
structure GW (x:Wd):Prop where
 good:Good x.h
 wb:WB x.h.words
 st:∀ a∈x.st,a=0\/a∈zaf x.h
 wk:∀ a∈x.wk,a=0\/a∈zaf x.h
theorem GW.root{x:Wd}(G:GW x){a:Int}(h:a∈0::(x.st++x.wk)):a=0\/a∈zaf x.h:=by
 rcases qas.1 h with e | e
 · exact .inl e
 · rcases qao.1 e with e | e
   · exact G.st a e
   · exact G.wk a e
theorem zjc(pw np:Int):∀ n:Nat,zaL pw np (List.replicate n Pg.zero) 0=true
 | 0=>rfl
 | n+1=>by
  rw [qcE,zaL];have:zcc pw np Pg.zero (List.replicate n Pg.zero) 0=some 0:=by
   unfold zcc;rw [if_neg (by unfold Pg.zero zea;decide),if_pos (by rfl),if_pos rfl];rfl
  rw [this];exact zjc pw np n
theorem zlf:∀ n:Nat,zaQ (List.replicate n Pg.zero)=0
 | 0=>rfl
 | n+1=>by rw [qcE,zaQ,zlf n];rfl
theorem zmF{pw np:Int}(hc:confB pw np=true):Good (zl2 pw np)/\zaf (zl2 pw np)=[]/\WB (zl2 pw np).words:=by
 obtain ⟨e,-⟩:=znD hc;obtain ⟨c1,c2⟩:=conf_prod hc;have c:=zaj hc;rw [e];have hok:okH ⟨pw,np,List.replicate (np*pw).toNat 0,List.replicate np.toNat Pg.zero,0,-1⟩=true:=by
  unfold okH;show zc0 pw np (List.replicate (np*pw).toNat 0).length (List.replicate np.toNat Pg.zero) 0 (-1)=true
  rw [zoB hc (by rw [qa2];omega) (by rw [qa2];omega) (by omega) (by omega) (by unfold zdS;exact qab (.inl rfl))]
  exact zjc pw np _
 have hpg:∀ (k:Nat) (g:Pg),(List.replicate np.toNat Pg.zero)[k]?=some g->g=Pg.zero:=fun k g hg=>by
  rw [qbY]at hg;split at hg
  · injection hg with hg;exact hg.symm
  · cases hg
 have hnone:∀ k:Nat,k<(List.replicate np.toNat Pg.zero).length->zbj ⟨pw,np,List.replicate (np*pw).toNat 0,List.replicate np.toNat Pg.zero,0,-1⟩ k=0/\zaB ⟨pw,np,List.replicate (np*pw).toNat 0,List.replicate np.toNat Pg.zero,0,-1⟩ k=[]:=fun k hk=>
  zaY hok (g:=Pg.zero) (by show (List.replicate np.toNat Pg.zero)[k]?=_;rw [qbY,if_pos (by simpa using hk)]) (.inl rfl)
 have hob:zaf ⟨pw,np,List.replicate (np*pw).toNat 0,List.replicate np.toNat Pg.zero,0,-1⟩=[]:=by
  refine List.eq_nil_iff_forall_not_mem.2 fun x hx=>?_
  obtain ⟨k,hk,h2⟩:=(zaA hok (fun k hk=>(hnone k hk).1)).1 (zaW.1 hx).1
  rw [(hnone k hk).2]at h2;cases h2
 refine ⟨⟨hok,fun k g hg=>?_,fun k hk=>(hnone k hk).1,fun k g hg x hx=>?_,fun p p0 p1=>?_,fun a ha=>?_,?_⟩,hob,WB.zeros _⟩
 · rw [hpg k g hg];exact .inl rfl
 · rw [(hnone k (qah.1 hg).1).2]at hx;cases hx
 · right
   unfold zao;split
   · rw [qaA,qbY];split <;> rfl
   · rfl
 · rw [hob]at ha;cases ha
 · show (zaQ (List.replicate np.toNat Pg.zero):Int)<=np / 4
   rw [zlf];omega
theorem zws{h:Hp}(G:Good h){a i b:Int}(ha:a∈zaf h)(hi0:0<=i)(hi1:i<(atH h a).n)(hb:ptrB (atH h a).k (atH h a).n (atH h a).m i=true->b=0\/b∈zaf h):
 Good (setV h a i b)/\zaf (setV h a i b)=zaf h/\(setV h a i b).words=zaz h.words (a+1+i) [b]/\okA h.words.length (a+1+i) 1=true/\(setV h a i b).pages=h.pages/\zat (setV h a i b)=zat h/\∀ x∈zat h,atH (setV h a i b) x=atH h x:=by
 obtain ⟨g1,g2⟩:=zqy ha;obtain ⟨f1,f2⟩:=zmK g1 hi0 (by rw [g2];exact hi1)
 have eS:setV h a i b={ h with words:=zaz h.words (a+1+i) [b] }:=by unfold setV;rw [if_pos f1]
 rw [eS];have hok:okH { h with words:=zaz h.words (a+1+i) [b] }=true:=by rw [zg3 (zcB f2)];exact G.ok
 have hsa:=(zaW.1 ha).1;have hout:∀ p,p≠a+1+i->zao (zaz h.words (a+1+i) [b]) p=zao h.words p:=fun p hp=>za5 f2 (by simp only [qbz];omega)
 have hin:zao (zaz h.words (a+1+i) [b]) (a+1+i)=b:=zdx f2
 have hne:∀ x∈zat h,x≠a+1+i:=fun x hx e=>by
  by_cases c:x=a
  · omega
  · obtain ⟨i',j,g,bb⟩:=zb8 (zaG hx);have hp:=bb.pos;have:=zdi G hx hsa c
    unfold osz at this hp;omega
 obtain ⟨l1,l2,l3,l4⟩:=zko (h':={ h with words:=zaz h.words (a+1+i) [b] }) G hok rfl rfl rfl (fun k g hg=>⟨g,hg,rfl,rfl⟩) fun x hx=>by
  have hbx:=zn2 (zaG hx);rw [zaF hbx.1,zaF hbx.1];show (zao (zaz h.words (a+1+i) [b]) x).toNat=_
  rw [hout x (hne x hx)]
 refine ⟨⟨hok,G.sp,fun k hk=>(l1 k hk).1,fun k g hg x hx=>?_,fun p p0 p1=>?_,fun c hc j hj=>?_,G.crowd⟩,l4,rfl,f2,rfl,l2,fun x hx=>(l3 x hx).2⟩
 · have hk:k<h.pages.length:=(qah.1 hg).1;rw [(l1 k hk).2]at hx;rw [(l3 x ((zaA G.ok G.pg).2 ⟨k,hk,hx⟩)).2];exact G.cls k g hg x hx
 · rw [l2];show (∃ x∈zat h,x<=p/\p<x+zcb _ x)\/zao (zaz h.words (a+1+i) [b]) p=0
   by_cases c:p=a+1+i
   · left
     refine ⟨a,hsa,by omega,?_⟩
     unfold zcb;rw [(l3 a hsa).2,if_neg (zaW.1 ha).2,zbs (zdT (zaG hsa)).2.1];omega
   · rw [hout p c];rcases G.zero p p0 p1 with ⟨x,hx,h2,h3⟩ | e
     · left
       refine ⟨x,hx,h2,?_⟩;unfold zcb at h3 ⊢
       rw [(l3 x hx).2];exact h3
     · exact .inr e
 · rw [l4]at hc ⊢
   have hsc:=(zaW.1 hc).1;rw [(l3 c hsc).2]at hj;show zao (zaz h.words (a+1+i) [b]) (c+1+j)=0\/zao (zaz h.words (a+1+i) [b]) (c+1+j)∈zaf h
   obtain ⟨q1,q2,q3⟩:=zkw hj;by_cases e:c=a
   · subst e;by_cases e2:j=i
     · subst e2;rw [hin];exact hb hj
     · rw [hout _ (by omega)];exact G.ptr c hc j hj
   · have:=zdi G hsc hsa e
     unfold osz at this;rw [hout _ (by omega)];exact G.ptr c hc j hj
theorem zsN{pw np:Int}{ps:List Pg}{i:Nat}{g:Pg}{p:Int}(h:zbi pw np ps=true)(hg:ps[i]?=some g)(hk:g.kind=1\/g.kind=2)(hp:zea p=true):zbi pw np (ps.set i ⟨g.kind,g.space,g.used,p⟩)=true:=by
 have hil:=(qah.1 hg).1;rw [za9]at h ⊢
 have hget:∀ t,(ps.set i ⟨g.kind,g.space,g.used,p⟩)[t]?=if i=t then some ⟨g.kind,g.space,g.used,p⟩ else ps[t]?:=fun t=>by
  rw [qaP];by_cases e:i=t
  · subst e;rw [if_pos rfl,if_pos rfl,if_pos hil]
  · rw [if_neg e,if_neg e]
 have hD:∀ t,(((ps.set i ⟨g.kind,g.space,g.used,p⟩).getD t Pg.zero).kind=(ps.getD t Pg.zero).kind)/\(((ps.set i ⟨g.kind,g.space,g.used,p⟩).getD t Pg.zero).used=(ps.getD t Pg.zero).used):=fun t=>by
  rw [qaA,qaA,hget];by_cases e:i=t
  · subst e;rw [if_pos rfl,hg];exact ⟨rfl,rfl⟩
  · rw [if_neg e];exact ⟨rfl,rfl⟩
 have how:∀ (t:Nat) (b:Int),zbI pw np (ps.set i ⟨g.kind,g.space,g.used,p⟩) t b=zbI pw np ps t b:=by
  intro t;induction t with
  | zero=>intro b;rfl
  | succ t ih=>intro b;rw [zbI,zbI,(hD t).1,(hD t).2,ih]
 intro t x hx;rw [hget]at hx;have hlen:(ps.set i ⟨g.kind,g.space,g.used,p⟩).length=ps.length:=List.length_set ..
 have htail:∀ (s:Int) (a m:Nat),zbE s ((ps.drop a).take m)=true->zbE s (((ps.set i ⟨g.kind,g.space,g.used,p⟩).drop a).take m)=true:=fun s a m ht=>by
  rw [zbY]at ht ⊢
  intro u u1 u2 z hz;rw [hget]at hz;by_cases e:i=u
  · subst e;have:=ht i u1 u2 g hg
    omega
  · rw [if_neg e]at hz;exact ht u u1 u2 z hz
 by_cases e:i=t
 · subst e;rw [if_pos rfl]at hx;injection hx with hx
   have ho:=h i g hg;subst hx;unfold zbq at ho ⊢
   dsimp only;rcases hk with k1 | k2
   · rw [if_neg (by omega),if_pos k1]at ho ⊢
     unfold zcZ at ho ⊢
     simp only [qae]at ho ⊢;exact ⟨ho.1,hp⟩
   · rw [if_neg (by omega),if_neg (by omega),if_pos k2]at ho ⊢
     unfold zcp at ho ⊢
     simp only [qae]at ho ⊢;obtain ⟨⟨⟨⟨o1,o2⟩,o3⟩,o4⟩,o5⟩:=ho;exact ⟨⟨⟨⟨o1,o2⟩,hp⟩,by rw [hlen];exact o4⟩,htail _ _ _ o5⟩
 · rw [if_neg e]at hx;have ho:=h t x hx;unfold zbq at ho ⊢
   by_cases c0:x.kind=0
   · rw [if_pos c0]at ho ⊢;exact ho
   rw [if_neg c0]at ho ⊢
   by_cases c1:x.kind=1
   · rw [if_pos c1]at ho ⊢;exact ho
   rw [if_neg c1]at ho ⊢
   by_cases c2:x.kind=2
   · rw [if_pos c2]at ho ⊢
     unfold zcp at ho ⊢
     simp only [qae]at ho ⊢;obtain ⟨⟨⟨⟨o1,o2⟩,o3⟩,o4⟩,o5⟩:=ho;exact ⟨⟨⟨⟨o1,o2⟩,o3⟩,by rw [hlen];exact o4⟩,htail _ _ _ o5⟩
   rw [if_neg c2]at ho ⊢
   by_cases c3:x.kind=3
   · rw [if_pos c3]at ho ⊢
     unfold zdW zfq at ho ⊢
     rw [how];exact ho
   · rw [if_neg c3]at ho;cases ho
theorem ztu{ps qs:List Pg}{b:Int}(hl:qs.length=ps.length)(hk:∀ k:Nat,(qs.getD k Pg.zero).kind=(ps.getD k Pg.zero).kind):zdS qs b=zdS ps b:=by
 unfold zdS;rw [hl,hk]
theorem zpE:∀ (ps:List Pg) (i:Nat) (g y:Pg),ps[i]?=some g->zaQ (ps.set i y)+(if g.kind=1/\0<g.pins then 1 else 0)=zaQ ps+(if y.kind=1/\0<y.pins then 1 else 0)
 | [],i,g,y,h=>by simp at h
 | x::ps,0,g,y,h=>by
  simp only [qcI,Option.some.injEq]at h;subst h;rw [List.set_cons_zero,zaQ,zaQ];omega
 | x::ps,i+1,g,y,h=>by
  have ih:=zpE ps i g y (by simpa using h)
  rw [List.set_cons_succ,zaQ,zaQ];omega
theorem zwt{h:Hp}(G:Good h){a:Int}{i:Nat}{g:Pg}{p:Int}(ha:a∈zaf h)(hi:ofI h.pw h.np a=i)(hg:h.pages[i]?=some g)(hp:zea p=true)
 (hc:¬(g.kind=1/\0<g.pins)->g.kind=1->0<p->(zaQ h.pages:Int)<h.np / 4) :
 Good { h with pages:=h.pages.set i ⟨g.kind,g.space,g.used,p⟩ }/\zaf { h with pages:=h.pages.set i ⟨g.kind,g.space,g.used,p⟩ }=zaf h:=by
 obtain ⟨i',j,g',b⟩:=zai ha;have hii:i'=i:=by have:=b.oi;omega
 subst hii;have hgg:g'=g:=by have:=b.pg;rw [hg]at this;injection this with this;exact this.symm
 subst hgg;have hkd:g'.kind=1\/g'.kind=2:=by rcases b.kd with ⟨k,-⟩ | ⟨k,-⟩ <;> omega
 have hil:=(qah.1 hg).1;have hgetD:∀ t:Nat,((h.pages.set i' ⟨g'.kind,g'.space,g'.used,p⟩).getD t Pg.zero).kind=(h.pages.getD t Pg.zero).kind:=fun t=>by
  rw [qaA,qaA,qaP];by_cases e:i'=t
  · subst e;rw [if_pos rfl,if_pos hil,hg];rfl
  · rw [if_neg e]
 have hok:okH { h with pages:=h.pages.set i' ⟨g'.kind,g'.space,g'.used,p⟩ }=true:=by
  obtain ⟨p1,p2,p3,p4,p5,p6⟩:=za2 (h:=h) (by unfold okP;rw [zce];exact G.ok)
  have:=zoO (h:={ h with pages:=h.pages.set i' ⟨g'.kind,g'.space,g'.used,p⟩ }) p1 p2 (by show ((h.pages.set i' _).length:Int)=_;rw [List.length_set];exact p3) p4 (by rw [ztu (List.length_set ..) hgetD];exact p5) (zsN p6 hg hkd hp)
  unfold okP at this;rw [zce]at this;exact this
 have hpg:∀ (k:Nat) (y:Pg),h.pages[k]?=some y->∃ y',(h.pages.set i' ⟨g'.kind,g'.space,g'.used,p⟩)[k]?=some y'/\y'.kind=y.kind/\y'.used=y.used/\y'.space=y.space:=fun k y hy=>by
  rw [qaP];by_cases e:i'=k
  · subst e;rw [if_pos rfl,if_pos hil];rw [hg]at hy;injection hy with hy;subst hy;exact ⟨_,rfl,rfl,rfl,rfl⟩
  · rw [if_neg e];exact ⟨y,hy,rfl,rfl,rfl⟩
 obtain ⟨l1,l2,l3,l4⟩:=zko (h':={ h with pages:=h.pages.set i' ⟨g'.kind,g'.space,g'.used,p⟩ }) G hok rfl rfl (List.length_set ..) (fun k y hy=>by obtain ⟨y',y1,y2,y3,-⟩:=hpg k y hy;exact ⟨y',y1,y2,y3⟩) fun x hx=>rfl
 have hback:∀ (k:Nat) (y':Pg),(h.pages.set i' ⟨g'.kind,g'.space,g'.used,p⟩)[k]?=some y'->∃ y,h.pages[k]?=some y/\y'.kind=y.kind/\y'.space=y.space:=fun k y' hy=>by
  have hk:k<h.pages.length:=by have:=(qah.1 hy).1;rwa [List.length_set]at this
  have hy0:h.pages[k]?=some h.pages[k]:=qal hk
  obtain ⟨y2,y3,y4,y5,y6⟩:=hpg k _ hy0;rw [hy]at y3;injection y3 with y3
  subst y3;exact ⟨_,hy0,y4,y6⟩
 refine ⟨⟨hok,fun k y' hy=>?_,fun k hk=>(l1 k (by simpa using hk)).1,fun k y' hy x hx=>?_,fun q q0 q1=>?_,fun c hc2 t ht=>?_,?_⟩,l4⟩
 · obtain ⟨y,y1,y2,y3⟩:=hback k y' hy;rw [y2,y3];exact G.sp k y y1
 · obtain ⟨y,y1,y2,y3⟩:=hback k y' hy;have hk:k<h.pages.length:=(qah.1 y1).1;rw [(l1 k hk).2]at hx;rw [(l3 x ((zaA G.ok G.pg).2 ⟨k,hk,hx⟩)).2,y2];exact G.cls k y y1 x hx
 · rw [l2];rcases G.zero q q0 q1 with ⟨x,hx,h2,h3⟩ | e
   · left
     refine ⟨x,hx,h2,?_⟩;unfold zcb at h3 ⊢
     rw [(l3 x hx).2];exact h3
   · exact .inr e
 · rw [l4]at hc2 ⊢
   rw [(l3 c (zaW.1 hc2).1).2]at ht;exact G.ptr c hc2 t ht
 · have hcs:=zpE h.pages i' g' ⟨g'.kind,g'.space,g'.used,p⟩ hg;have hcr:=G.crowd;show (zaQ (h.pages.set i' ⟨g'.kind,g'.space,g'.used,p⟩):Int)<=h.np / 4
   by_cases c1:g'.kind=1/\0<g'.pins
   · rw [if_pos c1]at hcs;split at hcs <;> omega
   · rw [if_neg c1]at hcs;by_cases c2:g'.kind=1/\0<p
     · rw [if_pos (show (⟨g'.kind,g'.space,g'.used,p⟩:Pg).kind=1/\0<(⟨g'.kind,g'.space,g'.used,p⟩:Pg).pins from c2)]at hcs
       have:=hc c1 c2.1 c2.2
       omega
     · rw [if_neg (show ¬((⟨g'.kind,g'.space,g'.used,p⟩:Pg).kind=1/\0<(⟨g'.kind,g'.space,g'.used,p⟩:Pg).pins) from c2)]at hcs
       omega
def zsE:Prop:=∀ (x:Wd),GW x->zet x.h x.st x.wk=0->GW ⟨ziI x.h x.st x.wk,zli x.h x.st,zpH x.h x.st x.wk⟩
theorem zuW(hC:zsE):∀ (n:Nat) (x:Wd),Made n x->n<=400->GW x:=by
 intro n x hm;induction hm with
 | empty pw np h1 h2=>
  intro _;obtain ⟨g1,g2,g3⟩:=zmF (pw:=pw) (np:=np) (zvq (by omega))
  exact ⟨g1,g3,(fun a ha=>nomatch ha),(fun a ha=>nomatch ha)⟩
 | step n x y hm hs ih=>
  intro hn;have G:=ih (by omega)
  have L:=zpn n x hm (by omega)
  cases hs with
  | none=>exact G
  | put k n' m k1 k3 n0 n1 m0 m1 he=>
   obtain ⟨g1,g2⟩:=ztj G.good m0 he;refine ⟨g1,?_,fun a ha=>?_,fun a ha=>?_⟩
   · obtain ⟨-,hv,-,-,-,-,-,-,-,-,eH,-⟩:=zlm he;show WB (zdu x.h k n' m).words
     rw [eH];exact zdv G.wb (zsi hv m0)
   · show a=0\/a∈zaf (zdu x.h k n' m)
     rcases qao.1 ha with e | e
     · rcases G.st a e with q | q
       · exact .inl q
       · exact .inr ((g2 a).2 (.inl q))
     · rw [qau.1 e];exact .inr ((g2 _).2 (.inr rfl))
   · show a=0\/a∈zaf (zdu x.h k n' m)
     rcases G.wk a ha with q | q
     · exact .inl q
     · exact .inr ((g2 a).2 (.inl q))
  | link a i b ha hg i0 i1 b0 b1 hb=>
   have hob:a∈zaf x.h:=by
    rcases G.root ha with e | e
    · subst e;have:=(znL hg).2.2.2.2.2.1
      omega
    · exact e
   obtain ⟨-,g2⟩:=zqy hob;rw [g2]at i1 hb;obtain ⟨s1,s2,s3,s4,s5⟩:=zws G.good hob i0 i1 (b:=b) fun q=>G.root (hb q)
   refine ⟨s1,?_,fun c hc=>?_,fun c hc=>?_⟩
   · show WB (setV x.h a i b).words
     rw [s3];exact zdv G.wb (fun z hz=>by rw [qau.1 hz];exact ⟨b0,b1⟩)
   · show c=0\/c∈zaf (setV x.h a i b)
     rw [s2];exact G.st c hc
   · show c=0\/c∈zaf (setV x.h a i b)
     rw [s2];exact G.wk c hc
  | pin a i g p ha ho hi hg hp=>
   have hob:a∈zaf x.h:=by
    rcases G.root ha with e | e
    · subst e;have:=(zr9 ho).1
      have h1:=(zan G.good.ok).1;rw [(ze6 h1 (by unfold inAr;exact qaj (by omega))).2.2]at ho
      cases ho
    · exact e
   have hpb:=L.pins g (qav hg);obtain ⟨g1,g2⟩:=zwt G.good hob hi hg (p:=p) (by unfold zea;exact qab (by omega)) (fun c1 c2 c3=>by
    rcases hp with ⟨q1,q2⟩ | ⟨q1,q2⟩
    · exact absurd ⟨c2,q1⟩ c1
    · rcases q2 with q2 | q2 | q2
      · exact absurd ⟨c2,q2⟩ c1
      · omega
      · exact q2)
   refine ⟨g1,G.wb,fun c hc=>?_,fun c hc=>?_⟩
   · show c=0\/c∈zaf { x.h with pages:=x.h.pages.set i ⟨g.kind,g.space,g.used,p⟩ }
     rw [g2];exact G.st c hc
   · show c=0\/c∈zaf { x.h with pages:=x.h.pages.set i ⟨g.kind,g.space,g.used,p⟩ }
     rw [g2];exact G.wk c hc
  | drop i r b hr=>
   refine ⟨G.good,G.wb,fun c hc=>G.st c ?_,fun c hc=>?_⟩
   · rcases qao.1 hc with e | e
     · exact qb1 e
     · exact qb8 e
   · have hc:c∈(if b=true then x.wk++[r] else x.wk):=hc
     split at hc
     · rcases qao.1 hc with e | e
       · exact G.wk c e
       · rw [qau.1 e];exact G.st r (qav hr)
     · exact G.wk c hc
  | collect hE=>exact hC x G hE
  | dup a ha=>
   refine ⟨G.good,G.wb,fun c hc=>?_,G.wk⟩
   rcases qao.1 hc with e | e
   · exact G.st c e
   · rw [qau.1 e];exact G.root ha
end Go.VI.P
namespace Go.VI.P
open Go
open Go.RowKit
def bs(h:Hp)(k:Nat):Int:=4096+(k:Int)*h.pw
def Fw(os qs:List Int)(v w:Int):Prop:=(v=0/\w=0)\/∃ t:Nat,os[t]?=some v/\qs[t]?=some w
theorem Fw.more{os qs os' qs':List Int}{v w:Int}(h:Fw os qs v w)(h1:∃ l,os'=os++l)(h2:∃ l,qs'=qs++l):Fw os' qs' v w:=by
 rcases h with e | ⟨t,e1,e2⟩
 · exact .inl e
 · obtain ⟨l1,rfl⟩:=h1;obtain ⟨l2,rfl⟩:=h2;have t1:=(qah.1 e1).1;have t2:=(qah.1 e2).1;exact .inr ⟨t,by rw [qbx t1];exact e1,by rw [qbx t2];exact e2⟩
structure CI (h:Hp) (x:Wk) (os:List Int) (D:Nat->Int->Prop):Prop where
 inv:Inv h x
 len:os.length=x.queue.length
 dl:∀ i j,D i j->i<os.length
 oin:∀ o∈os,o∈zaf h
 qnd:x.queue.Nodup
 seen:∀ a∈zaf h,a∈os↔(a∈x.queue\/okT (evWd x a).toNat=true)
 plc:∀ (i:Nat) (o q:Int),os[i]?=some o->x.queue[i]?=some q->q=o\/(okT (evWd x o).toNat=true/\tgtV (evWd x o).toNat=q/\zbp x q/\∀ i' j' g',Begins h o i' j' g'->g'.kind=1)
 hd:∀ (i:Nat) (o q:Int),os[i]?=some o->x.queue[i]?=some q->evWd x q=zao h.words o
 fl:∀ (i:Nat) (o q:Int),os[i]?=some o->x.queue[i]?=some q->∀ j,0<=j->j<(atH h o).n->(D i j->ptrB (atH h o).k (atH h o).n (atH h o).m j=true->Fw os x.queue (zao h.words (o+1+j)) (zao x.h.words (q+1+j)))/\((D i j->ptrB (atH h o).k (atH h o).n (atH h o).m j=false)->zao x.h.words (q+1+j)=zao h.words (o+1+j))
 un:∀ a∈zaf h,¬a∈os->∀ j,0<=j->j<osz h a->zao x.h.words (a+j)=zao h.words (a+j)
 ot:∀ p,(∀ a∈zaf h,p<a\/a+osz h a<=p)->(∀ (k:Nat) (g0:Pg),h.pages[k]?=some g0->g0.kind=0->p<bs h k\/bs h k+h.pw<=p)->zao x.h.words p=zao h.words p
 fr:∀ (k:Nat) (g0:Pg) (p:Int),h.pages[k]?=some g0->g0.kind=0->bs h k<=p->p<bs h k+h.pw->(¬(k:Int)∈x.taken\/∃ g,x.h.pages[k]?=some g/\bs h k+g.used<=p)->zao x.h.words p=0
 tile:∀ k:Nat,(k:Int)∈x.taken->∃ u l,x.h.pages[k]?=some ⟨1,1-h.space,u,0⟩/\Tile (evN x) (bs h k) (bs h k+u) l/\∀ q,q∈l↔q∈x.queue/\bs h k<=q/\q<bs h k+h.pw
 ppg:∀ (k:Nat) (g0:Pg),h.pages[k]?=some g0->¬(k:Int)∈x.taken->∃ s,x.h.pages[k]?=some ⟨g0.kind,s,g0.used,g0.pins⟩/\(g0.kind=0->s=g0.space)/\(g0.kind=1->s=if 0<g0.pins then 1-h.space else h.space) /\
  (g0.kind=2->s=if bs h k∈x.queue then 1-h.space else h.space)/\(g0.kind=3->s=if bs h (za0 h.pages k)∈x.queue then 1-h.space else h.space)
 kp:∀ q∈x.queue,q∈zaf h->∀ i j g,Begins h q i j g->g.kind=2\/(g.kind=1/\0<g.pins)
 wb:WB x.h.words
theorem CI.congr{h:Hp}{x:Wk}{os:List Int}{D E:Nat->Int->Prop}(C:CI h x os D)(el:∀ i j,E i j->i<os.length)(he:∀ (i:Nat) (o:Int),os[i]?=some o->∀ j,ptrB (atH h o).k (atH h o).n (atH h o).m j=true->(D i j↔E i j)):CI h x os E :=
 ⟨C.inv,C.len,el,C.oin,C.qnd,C.seen,C.plc,C.hd,fun i o q h1 h2 j j0 j1=>by
  obtain ⟨f1,f2⟩:=C.fl i o q h1 h2 j j0 j1;refine ⟨fun e p=>f1 ((he i o h1 j p).2 e) p,fun e=>f2 fun d=>?_⟩
  cases hp:ptrB (atH h o).k (atH h o).n (atH h o).m j
  · rfl
  · have:=e ((he i o h1 j hp).1 d)
    rw [hp]at this;exact this,C.un,C.ot,C.fr,C.tile,C.ppg,C.kp,C.wb⟩
theorem zfU{os:List Int}{a o:Int}{i:Nat}(h:(os++[a])[i]?=some o):os[i]?=some o\/(i=os.length/\o=a):=by
 by_cases c:i<os.length
 · rw [qbx c]at h;exact .inl h
 · have hl:=(qah.1 h).1;rw [qaz,qbz]at hl;have e:i=os.length:=by omega
   subst e;rw [qbJ (qan _),qbL]at h;simp only [qcI,Option.some.injEq]at h;exact .inr ⟨rfl,h.symm⟩
theorem zk0(ps:List Pg):∀ k:Nat,(∀ t,za0 ps k<t->t<=k->(ps.getD t Pg.zero).kind=3)/\(za0 ps k=0\/¬(ps.getD (za0 ps k) Pg.zero).kind=3)
 | 0=>⟨fun t h1 h2=>by unfold za0 at h1;omega,.inl rfl⟩
 | k+1=>by
  obtain ⟨ih1,ih2⟩:=zk0 ps k;unfold za0;by_cases c:(ps.getD (k+1) Pg.zero).kind=3
  · rw [if_pos c];refine ⟨fun t h1 h2=>?_,ih2⟩
    by_cases e:t=k+1
    · rw [e];exact c
    · exact ih1 t h1 (by omega)
  · rw [if_neg c];exact ⟨fun t h1 h2=>by omega,.inr c⟩
theorem zl5{h:Hp}(hp:0<=h.pw){k k':Nat}(hk:k<k'):bs h k+h.pw<=bs h k':=by
 unfold bs;have:((k:Int)+1)*h.pw<=(k':Int)*h.pw:=qaK (by omega) hp
 rw [qa7,qa5]at this;omega
theorem zc5{h:Hp}(hp:0<=h.pw){k k':Nat}{p:Int}(h1:bs h k<=p)(h2:p<bs h k+h.pw)(h3:bs h k'<=p)(h4:p<bs h k'+h.pw):k=k':=by
 refine qaY fun c=>?_
 by_cases hlt:k<k'
 · have:=zl5 hp hlt;omega
 · have:=zl5 (h:=h) hp (show k'<k by omega);omega
theorem ze7{h:Hp}{a:Int}{i j:Nat}{g:Pg}(b:Begins h a i j g):bs h i<=a/\a<bs h i+h.pw:=by
 have:=b.ad
 have:=b.jl
 unfold bs;omega
theorem CI.begin{h:Hp}(G:Good h)(hwb:WB h.words):CI h (zbV h) [] (fun _ _=>False):=by
 have I:=zhC G.ok;have hpw:=I.conf;have hw:(zbV h).h.words=h.words:=rfl
 have hev:∀ a,evWd (zbV h) a=zao h.words a:=fun a=>rfl
 refine ⟨I,rfl,(fun i j c=>c.elim),(fun o ho=>nomatch ho),qb9,fun a ha=>?_,(fun i o q h1=>by simp at h1),(fun i o q h1=>by simp at h1),(fun i o q h1=>by simp at h1),fun a ha _ j _ _=>rfl,fun p _ _=>rfl,fun k g0 p hg hk h1 h2 _=>?_,(fun k hk=>nomatch hk),fun k g0 hg _=>?_,(fun q hq=>nomatch hq),hwb⟩
 · have:=zdZ (x:=zbV h) ha rfl
   constructor
   · intro c;cases c
   · rintro (c | c)
     · cases c
     · rw [this.2.2.2]at c;cases c
 · show zao h.words p=0
   have hkl:=(qah.1 hg).1;have hpp:=za1 (p:=(k:Int)) (zan G.ok).1 (by omega) (by omega)
   unfold bs at h1 h2;rcases G.zero p (by omega) (by omega) with ⟨x,hx,q1,q2⟩ | e
   · exfalso
     obtain ⟨i,j,g,b⟩:=zb8 (zaG hx);have hz:=zot (zaG hx);have:=zaJ b hg hk
     have hb:=b.pos;omega
   · exact e
 · have hsp:=G.sp k g0 hg;have e:(zbV h).h.pages[k]?=some (if g0.kind=1/\0<g0.pins then ⟨g0.kind,1-h.space,g0.used,g0.pins⟩ else g0):=by
    show (h.pages.map _)[k]?=_
    rw [qbr,hg];rfl
   by_cases c:g0.kind=1/\0<g0.pins
   · rw [if_pos c]at e;exact ⟨_,e,fun q=>by omega,fun _=>by rw [if_pos c.2],fun q=>by omega,fun q=>by omega⟩
   · rw [if_neg c]at e;refine ⟨g0.space,e,fun _=>rfl,fun q=>?_,fun q=>?_,fun q=>?_⟩
     · rw [if_neg (fun q2=>c ⟨q,q2⟩)];omega
     · show g0.space=if bs h k∈([]:List Int) then _ else _
       rw [if_neg (by simp)];omega
     · show g0.space=if bs h (za0 h.pages k)∈([]:List Int) then _ else _
       rw [if_neg (by simp)];omega
theorem CI.kept{h:Hp}{x y:Wk}{os:List Int}{D:Nat->Int->Prop}(C:CI h x os D){a:Int}(ha:a∈zaf h)(hq:¬a∈x.queue)(ht:okT (evWd x a).toNat=false)
 (Iy:Inv h y) (ew:y.h.words=x.h.words) (eq:y.queue=x.queue++[a]) (et:y.taken=x.taken) (ep:y.h.pw=x.h.pw) (htk:∀ k:Nat,(k:Int)∈x.taken->y.h.pages[k]?=x.h.pages[k]?)
 (hpp:∀ (k:Nat) (g0:Pg),h.pages[k]?=some g0->¬(k:Int)∈x.taken->∃ s,y.h.pages[k]?=some ⟨g0.kind,s,g0.used,g0.pins⟩/\(g0.kind=0->s=g0.space)/\(g0.kind=1->s=if 0<g0.pins then 1-h.space else h.space) /\
  (g0.kind=2->s=if bs h k∈y.queue then 1-h.space else h.space)/\(g0.kind=3->s=if bs h (za0 h.pages k)∈y.queue then 1-h.space else h.space))
 (hkp:∀ i j g,Begins h a i j g->g.kind=2\/(g.kind=1/\0<g.pins)):CI h y (os++[a]) D:=by
 have I:=C.inv;have hcf:=I.conf;have hev:∀ b,evWd y b=evWd x b:=fun b=>by unfold evWd;rw [ew]
 have hevN:∀ b,evN y b=evN x b:=fun b=>by unfold evN;rw [hev]
 have hao:¬a∈os:=fun c=>by
  rcases (C.seen a ha).1 c with e | e
  · exact hq e
  · rw [ht]at e;cases e
 have hcp:∀ q,zbp x q->zbp y q:=fun q ⟨k,g,c1,c2,c3,c4,c5⟩=>⟨k,g,by rw [et];exact c1,by rw [htk k c1];exact c2,by rw [ep];exact c3,by rw [hev];exact c4,by rw [hevN,ep];exact c5⟩
 have e0:evWd x a=zao h.words a:=by
  rcases I.un a ha with e | e
  · exact e
  · rw [ht]at e;exact absurd e.1 (by decide)
 obtain ⟨ia,ja,ga,ba⟩:=zai ha;have hon:=ze7 ba;have hlen:(os++[a]).length=y.queue.length:=by rw [eq,qaz,qaz,C.len]
 have hqg:∀ (i:Nat) (o q:Int),(os++[a])[i]?=some o->y.queue[i]?=some q->(os[i]?=some o/\x.queue[i]?=some q)\/(i=os.length/\o=a/\q=a):=fun i o q h1 h2=>by
  rw [eq]at h2;rcases zfU h1 with e | ⟨e1,e2⟩
  · rcases zfU h2 with e' | ⟨e1',-⟩
    · exact .inl ⟨e,e'⟩
    · have:=(qah.1 e).1
      rw [C.len]at this;omega
  · rcases zfU h2 with e' | ⟨-,e2'⟩
    · have:=(qah.1 e').1
      rw [<-C.len]at this;omega
    · exact .inr ⟨e1,e2,e2'⟩
 refine ⟨Iy,hlen,fun i j d=>by rw [qaz];have:=C.dl i j d;omega,fun o ho=>?_,?_,fun c hc=>?_,fun i o q h1 h2=>?_,fun i o q h1 h2=>?_,fun i o q h1 h2 j j0 j1=>?_,fun c hc hn j j0 j1=>?_,fun p h1 h2=>by rw [ew];exact C.ot p h1 h2,fun k g0 p hg hk h1 h2 h3=>?_,fun k hk=>?_,fun k g0 hg hk=>hpp k g0 hg (by rw [<-et];exact hk),fun q hq2 hqo=>?_,by rw [ew];exact C.wb⟩
 · rcases qao.1 ho with e | e
   · exact C.oin o e
   · rw [qau.1 e];exact ha
 · rw [eq];exact List.nodup_append.2 ⟨C.qnd,by simp,fun u hu v hv=>by rw [qau.1 hv];exact fun e=>hq (e ▸ hu)⟩
 · rw [hev,eq,qao,qao,C.seen c hc];simp only [qau];constructor
   · rintro ((e | e) | e)
     · exact .inl (.inl e)
     · exact .inr e
     · exact .inl (.inr e)
   · rintro ((e | e) | e)
     · exact .inl (.inl e)
     · exact .inr e
     · exact .inl (.inr e)
 · rcases hqg i o q h1 h2 with ⟨e1,e2⟩ | ⟨-,e1,e2⟩
   · rcases C.plc i o q e1 e2 with e | ⟨e3,e4,e5,e6⟩
     · exact .inl e
     · exact .inr ⟨by rw [hev];exact e3,by rw [hev];exact e4,hcp q e5,e6⟩
   · left;rw [e1,e2]
 · rw [hev];rcases hqg i o q h1 h2 with ⟨e1,e2⟩ | ⟨-,e1,e2⟩
   · exact C.hd i o q e1 e2
   · rw [e1,e2];exact e0
 · rw [ew];rcases hqg i o q h1 h2 with ⟨e1,e2⟩ | ⟨ei,e1,e2⟩
   · obtain ⟨f1,f2⟩:=C.fl i o q e1 e2 j j0 j1;exact ⟨fun d p=>(f1 d p).more ⟨_,rfl⟩ ⟨_,eq⟩,f2⟩
   · subst e1 e2;refine ⟨fun d=>by have:=C.dl i j d;omega,fun _=>?_⟩
     have:=C.un q ha hao (j+1) (by omega) (by unfold osz;omega)
     rwa [show q+(j+1)=q+1+j from by omega]at this
 · rw [ew];exact C.un c hc (fun e=>hn (qa6 _ e)) j j0 j1
 · rw [ew];refine C.fr k g0 p hg hk h1 h2 ?_;rw [et]at h3;by_cases c:(k:Int)∈x.taken
   · rcases h3 with e | e
     · exact .inl e
     · rw [htk k c]at e;exact .inr e
   · exact .inl c
 · rw [et]at hk;obtain ⟨u,l,t1,t2,t3⟩:=C.tile k hk;obtain ⟨k2,g0,g2,f1,f2,f3,-⟩:=I.tk _ hk;obtain rfl:k=k2:=by omega
   refine ⟨u,l,by rw [htk k hk];exact t1,zcV (fun q _=>hevN q) t2,fun q=>?_⟩
   rw [t3,eq,qao,qau];constructor
   · rintro ⟨q1,q2⟩;exact ⟨.inl q1,q2⟩
   · rintro ⟨q1 | q1,q2,q3⟩
     · exact ⟨q1,q2,q3⟩
     · subst q1;exfalso
       have:=zc5 (by omega) q2 q3 hon.1 hon.2
       subst this;have:=ba.pg
       rw [f2]at this;injection this with this
       subst this;rcases ba.kd with ⟨q,-⟩ | ⟨q,-⟩ <;> omega
 · rw [eq]at hq2;rcases qao.1 hq2 with e | e
   · exact C.kp q e hqo
   · rw [qau.1 e];exact hkp
end Go.VI.P
namespace Go.VI.P
open Go
open Go.RowKit
theorem zki{h:Hp}(hok:okH h=true){k:Nat}{g:Pg}(hg:h.pages[k]?=some g)(hk:g.kind=3):∃ l y,l<k/\za0 h.pages k=l/\h.pages[l]?=some y/\y.kind=2:=by
 obtain ⟨p1,p2,p3,p4,p5,p6,p7⟩:=zan hok;have hT:zbi h.pw h.np h.pages=true:=by rw [<-zjd];exact p7
 have ho:=za9.1 hT k g hg;unfold zbq at ho;rw [if_neg (by omega),if_neg (by omega),if_neg (by omega),if_pos hk]at ho
 unfold zdW at ho;simp only [qae]at ho;have ho:=ho.2;unfold zfq at ho;obtain ⟨l,l1,l2,l3,l4⟩:=(zcJ h.pw h.np h.pages k 1).1 ho;have hkl:=(qah.1 hg).1;have hl:h.pages[l]?=some h.pages[l]:=qal (by omega)
 rw [zar hl]at l2 l4;generalize h.pages[l]=y at hl l2 l4
 obtain ⟨t1,t2,t3⟩:=zdJ p7 hl l2;refine ⟨l,y,l1,?_,hl,l2⟩;obtain ⟨d,rfl⟩:∃ d,k=l+d:=⟨k-l,by omega⟩
 refine zdL (by rw [zar hl];omega) d fun t q1 q2=>?_
 obtain ⟨z,z1,z2,-⟩:=t3 t q1 (by omega)
 rw [zar z1];exact z2
theorem zja{α:Type}{P:α->Bool}:∀ (l:List α) (n:Nat),n<=l.length->(∀ t y,t<n->l[t]?=some y->P y=true)->n<=(l.takeWhile P).length
 | l,0,_,_=>qbb _
 | [],n+1,h,_=>by simp at h
 | y::r,n+1,h,hp=>by
  rw [qcF,hp 0 y (by omega) rfl]
  simp only [if_true,qaO];have:=zja r n (by simpa using h) fun t z ht hz=>hp (t+1) z (by omega) (by simpa using hz)
  omega
theorem CI.keep1{h:Hp}{x:Wk}{os:List Int}{D:Nat->Int->Prop}(C:CI h x os D){a:Int}(ha:a∈zaf h)(hq:¬a∈x.queue)(ht:okT (evWd x a).toNat=false)(hpr:zd9 x (evI x a)=true):CI h (zdK x a) (os++[a]) D:=by
 have I:=C.inv;have hcf:=I.conf;obtain ⟨i,j,g,b⟩:=zai ha;have hoi:evI x a=i:=by unfold evI;rw [I.pw,I.np];exact b.oi
 obtain ⟨s,s1,s2,s3,s4,s5⟩:=C.ppg i g b.pg (I.begun b);rw [hoi]at hpr;unfold zd9 at hpr;rw [qad,s1]at hpr;simp only [qae,qaa,qap,qaf]at hpr;obtain ⟨-,⟨k1,k2⟩,-⟩:=hpr;rw [I.sp]at k2;have hpins:0<g.pins:=qaY fun c=>k2 (by rw [s3 k1,if_neg c])
 have hon:=ze7 b;have hnb:∀ (k:Nat) (y:Pg),h.pages[k]?=some y->y.kind=2->bs h k≠a:=fun k y hy hk e=>by
  have:=zc5 (h:=h) (by omega) (k:=k) (k':=i) (p:=a) (by omega) (by omega) hon.1 hon.2
  subst this;have:=b.pg
  rw [hy]at this;injection this with this
  subst this;omega
 refine C.kept ha hq ht (I.keep ha hq ht).1 rfl rfl rfl rfl (fun _ _=>rfl) (fun k g0 hg hk=>?_) fun i' j' g' b'=>?_
 · obtain ⟨s',q1,q2,q3,q4,q5⟩:=C.ppg k g0 hg hk;refine ⟨s',q1,q2,q3,fun k2=>?_,fun k3=>?_⟩
   · rw [q4 k2];have:bs h k∈(zdK x a).queue↔bs h k∈x.queue:=by
      show bs h k∈x.queue++[a]↔_
      rw [qao,qau];exact ⟨fun c=>c.elim id fun e=>absurd e (hnb k g0 hg k2),.inl⟩
     simp only [this]
   · rw [q5 k3];obtain ⟨l,y,-,l2,l3,l4⟩:=zki I.ok hg k3;rw [l2];have:bs h l∈(zdK x a).queue↔bs h l∈x.queue:=by
      show bs h l∈x.queue++[a]↔_
      rw [qao,qau];exact ⟨fun c=>c.elim id fun e=>absurd e (hnb l y l3 l4),.inl⟩
     simp only [this]
 · have:i'=i:=by have h1:=b.oi;have h2:=b'.oi;omega
   subst this;have:g'=g:=by have h1:=b.pg;have h2:=b'.pg;rw [h1]at h2;injection h2 with h2;exact h2.symm
   subst this;exact .inr ⟨k1,hpins⟩
theorem CI.keep2{h:Hp}{x:Wk}{os:List Int}{D:Nat->Int->Prop}(C:CI h x os D){a:Int}(ha:a∈zaf h)(hq:¬a∈x.queue)(ht:okT (evWd x a).toNat=false)(hbig:zhw x a=true):CI h (zdK (zcx x (evI x a).toNat) a) (os++[a]) D:=by
 have I:=C.inv;have hcf:=I.conf;obtain ⟨i,j,g,b⟩:=zai ha;have hoi:evI x a=i:=by unfold evI;rw [I.pw,I.np];exact b.oi
 obtain ⟨s,s1,s2,s3,s4,s5⟩:=C.ppg i g b.pg (I.begun b);unfold zhw at hbig;rw [hoi,qad,zar s1]at hbig;have k2:g.kind=2:=qar hbig
 have haj:a=bs h i:=by
  rcases b.kd with ⟨k,-⟩ | ⟨-,k,-⟩
  · omega
  · have:=b.ad;unfold bs;omega
 rw [hoi,qad];obtain ⟨I2,L2,e1,e2⟩:=I.large s1 (by exact k2)
 have hbs:∀ k:Nat,bs h k=a->k=i:=fun k e=>by
  have:(k:Int)*h.pw=(i:Int)*h.pw:=by unfold bs at e haj;omega
  have h0:h.pw≠0:=by omega
  have:=Int.eq_of_mul_eq_mul_right h0 this
  omega
 have htk3:∀ k:Nat,(k:Int)∈x.taken->∃ y,x.h.pages[k]?=some y/\y.kind=1:=fun k hk=>by
  obtain ⟨u,l,t1,-⟩:=C.tile k hk;exact ⟨_,t1,rfl⟩
 have hrange:∀ (k:Nat) (g0:Pg),h.pages[k]?=some g0->¬(k:Int)∈x.taken->((i<=k/\k<zcn x.h.pages i)↔(k=i\/(g0.kind=3/\za0 h.pages k=i))):=fun k g0 hg hk=>by
  have hkl:=(qah.1 hg).1;constructor
  · rintro ⟨r1,r2⟩;by_cases e:k=i
    · exact .inl e
    · right
      have hall:∀ t,i<t->t<=k->(h.pages.getD t Pg.zero).kind=3:=fun t t1 t2=>by
       unfold zcn at r2;obtain ⟨z,z1,z2⟩:=zdV (l:=x.h.pages.drop (i+1)) (k:=t-(i+1)) (P:=fun y=>decide (y.kind=3)) (by omega)
       rw [qba,show i+1+(t-(i+1))=t from by omega]at z1
       have z2:z.kind=3:=qar z2
       have hnt:¬(t:Int)∈x.taken:=fun c=>by
        obtain ⟨y,y1,y2⟩:=htk3 t c;rw [z1]at y1;injection y1 with y1;subst y1;omega
       have ht0:h.pages[t]?=some h.pages[t]:=qal (by omega)
       obtain ⟨y,y1,y2,y3⟩:=I.pg t _ ht0 hnt;rw [z1]at y1;injection y1 with y1;subst y1
       rw [zar ht0];omega
      obtain ⟨d,rfl⟩:∃ d,k=i+d:=⟨k-i,by omega⟩
      refine ⟨?_,zdL (by rw [zar b.pg];omega) d hall⟩
      have:=hall (i+d) (by omega) (qan _)
      rwa [zar hg]at this
  · rintro (e | ⟨e1,e2⟩)
    · subst e;exact ⟨qan _,by unfold zcn;omega⟩
    · have hle:=zpr h.pages k;have hne:k≠i:=fun c=>by subst c;have:=b.pg;rw [hg]at this;injection this with this;subst this;omega
      obtain ⟨hs1,-⟩:=zk0 h.pages k;rw [e2]at hs1;refine ⟨by omega,?_⟩
      unfold zcn;have hpl:=I.pl;have:=zja (P:=fun y:Pg=>decide (y.kind=3)) (x.h.pages.drop (i+1)) (k-i) (by rw [qaM];omega) fun t y ht1 hy=>by
       rw [qba]at hy;have h3:=hs1 (i+1+t) (by omega) (by omega)
       have ht0:h.pages[i+1+t]?=some h.pages[i+1+t]:=qal (by omega)
       rw [zar ht0]at h3;have hnt:¬((i+1+t:Nat):Int)∈x.taken:=fun c=>by
        obtain ⟨k3,g0',g',f0,f1,f2,-⟩:=I.tk _ c;obtain rfl:i+1+t=k3:=by omega
        rw [ht0]at f1;injection f1 with f1;rw [f1]at h3;omega
       obtain ⟨y',y1,y2,y3⟩:=I.pg _ _ ht0 hnt;rw [hy]at y1;injection y1 with y1;subst y1
       exact qab (by omega)
      omega
 have hpage:∀ (k:Nat) (y:Pg),x.h.pages[k]?=some y->(zdK (zcx x i) a).h.pages[k]?=some (if i<=k/\k<zcn x.h.pages i then ⟨y.kind,1-x.h.space,y.used,y.pins⟩ else y):=fun k y hy=>zh7 hy
 refine C.kept ha hq ht (I2.keep ha (by rw [e2];exact hq) (by rw [e1];exact ht)).1 rfl rfl rfl rfl (fun k hk=>?_) (fun k g0 hg hk=>?_) fun i' j' g' b'=>?_
 · obtain ⟨y,y1,y2⟩:=htk3 k hk;rw [hpage k y y1,y1];rw [if_neg];rintro ⟨r1,r2⟩;unfold zcn at r2;by_cases e:k=i
   · subst e;rw [s1]at y1;injection y1 with y1;subst y1;simp only at y2;omega
   · obtain ⟨z,z1,z2⟩:=zdV (l:=x.h.pages.drop (i+1)) (k:=k-(i+1)) (P:=fun y=>decide (y.kind=3)) (by omega)
     rw [qba,show i+1+(k-(i+1))=k from by omega,y1]at z1
     injection z1 with z1
     subst z1;have:=qar z2
     omega
 · obtain ⟨s',q1,q2,q3,q4,q5⟩:=C.ppg k g0 hg hk;have hm:∀ c,c∈(zdK (zcx x i) a).queue↔c∈x.queue\/c=a:=fun c=>by
    show c∈x.queue++[a]↔_
    rw [qao,qau]
   have hr:=hrange k g0 hg hk;rw [hpage k _ q1,I.sp];by_cases c:i<=k/\k<zcn x.h.pages i
   · rw [if_pos c];refine ⟨1-h.space,rfl,fun k0=>?_,fun k1=>?_,fun kk2=>?_,fun k3=>?_⟩
     · rcases hr.1 c with e | ⟨e,-⟩
       · subst e;have:=b.pg;rw [hg]at this;injection this with this;subst this;omega
       · omega
     · rcases hr.1 c with e | ⟨e,-⟩
       · subst e;have:=b.pg;rw [hg]at this;injection this with this;subst this;omega
       · omega
     · rcases hr.1 c with e | ⟨e,-⟩
       · subst e;rw [if_pos ((hm _).2 (.inr haj.symm))]
       · omega
     · rcases hr.1 c with e | ⟨-,e⟩
       · subst e;have:=b.pg;rw [hg]at this;injection this with this;subst this;omega
       · rw [e,if_pos ((hm _).2 (.inr haj.symm))]
   · rw [if_neg c];have hc:=fun d=>c (hr.2 d)
     refine ⟨s',rfl,q2,q3,fun kk2=>?_,fun k3=>?_⟩
     · rw [q4 kk2];have:bs h k∈(zdK (zcx x i) a).queue↔bs h k∈x.queue:=by
        rw [hm];exact ⟨fun d=>d.elim id fun e=>absurd (.inl (hbs k e)) hc,.inl⟩
       simp only [this]
     · rw [q5 k3];have:bs h (za0 h.pages k)∈(zdK (zcx x i) a).queue↔bs h (za0 h.pages k)∈x.queue:=by
        rw [hm];exact ⟨fun d=>d.elim id fun e=>absurd (.inr ⟨k3,hbs _ e⟩) hc,.inl⟩
       simp only [this]
 · have:i'=i:=by have h1:=b.oi;have h2:=b'.oi;omega
   subst this;have:g'=g:=by have h1:=b.pg;have h2:=b'.pg;rw [h1]at h2;injection h2 with h2;exact h2.symm
   subst this;exact .inl k2
theorem ztp{h:Hp}{x:Wk}{os:List Int}{D:Nat->Int->Prop}(C:CI h x os D){a:Int}(ha:a∈zaf h)(ht:okT (evWd x a).toNat=false)(hbig:zhw x a=false)(hpl:plB x (evN x a)=true):
 ∃ (J:Nat) (u:Int) (g0:Pg),plA x (evN x a)=bs h J+u/\evN x a=osz h a/\0<=u/\u+osz h a<=h.pw/\(J:Int)<h.np/\h.pages[J]?=some g0/\g0.kind=0 /\
  (∀ k:Nat,k≠J->(zbA x a).h.pages[k]?=x.h.pages[k]?)/\(zbA x a).h.pages[J]?=some ⟨1,1-h.space,u+osz h a,0⟩/\(∀ t,t∈(zbA x a).taken↔t∈x.taken\/t=J) /\
  ((J:Int)∈x.taken->x.h.pages[J]?=some ⟨1,1-h.space,u,0⟩)/\(¬(J:Int)∈x.taken->u=0)/\(zbA x a).queue=x.queue++[bs h J+u] /\
  (∀ p,p≠a->(p<bs h J+u\/bs h J+u+osz h a<=p)->zao (zbA x a).h.words p=zao x.h.words p) /\
  (∀ j,0<=j->j<osz h a->zao (zbA x a).h.words (bs h J+u+j)=zao x.h.words (a+j))/\zao (zbA x a).h.words a=fwdV (bs h J+u)/\(a+osz h a<=bs h J\/bs h J+h.pw<=a)/\∀ i' j' g',Begins h a i' j' g'->g'.kind=1:=by
 have I:=C.inv;obtain ⟨c1,c2,c3,c4,c5,c6,c7,c8,c9⟩:=I.conf;obtain ⟨i,j,g,b⟩:=zai ha;have hbp:=b.pos;have hbw:=b.wl;have hwl:=I.wl;have e0:evWd x a=zao h.words a:=(I.un a ha).elim id (fun c=>by rw [ht]at c;exact absurd c.1 (by decide))
 obtain ⟨e1,e2,e3,-⟩:=zdZ ha e0;have hoi:evI x a=i:=by unfold evI;rw [I.pw,I.np];exact b.oi
 obtain ⟨y,f1,f2,f3⟩:=I.pg i g b.pg (I.begun b);have hk1:g.kind=1:=by
  rcases b.kd with ⟨k,-⟩ | ⟨k,-⟩
  · exact k
  · unfold zhw at hbig;rw [hoi,qad,zar f1]at hbig;have:=qa9 hbig
    omega
 have hn:osz h a<=h.pw:=by
  rcases b.kd with ⟨k,l,m⟩ | ⟨k,-⟩ <;> omega
 rw [e2]at hpl ⊢
 obtain ⟨J,y0,p1,p2,p3,p4,p5,p6,p7⟩:=zfX I.plok hpl;have hplen:=I.pl;rw [I.pw]at p6 p7;have eP:(zbA x a).h.pages=(plPs x (osz h a)).set J ⟨y0.kind,y0.space,y0.used+osz h a,y0.pins⟩:=by
  show (plW x (evN x a)).h.pages=_
  rw [e2];show zf4 (plPs x (osz h a)) (plJ x (osz h a)).toNat (osz h a)=_
  unfold zf4;rw [p1,qad,zar p4]
 have eT:(zbA x a).taken=plT x (osz h a):=by show (plW x (evN x a)).taken=_;rw [e2];rfl
 have eA:plA x (osz h a)=bs h J+y0.used:=by
  unfold plA bs;rw [p1,qad,zar p4,I.pw]
 have eQ:(zbA x a).queue=x.queue++[bs h J+y0.used]:=by show x.queue++[plA x (evN x a)]=_;rw [e2,eA]
 have hJlt:(J:Int)<h.np:=by omega
 obtain ⟨g0,hg0,hk0,hsame,hJpage,htk,hin,hout⟩:∃ g0,h.pages[J]?=some g0/\g0.kind=0/\(∀ k:Nat,k≠J->(plPs x (osz h a))[k]?=x.h.pages[k]?)/\(y0.kind=1/\y0.space=1-h.space/\y0.pins=0)/\(∀ t,t∈plT x (osz h a)↔t∈x.taken\/t=J) /\
  ((J:Int)∈x.taken->x.h.pages[J]?=some ⟨1,1-h.space,y0.used,0⟩)/\(¬(J:Int)∈x.taken->y0.used=0)/\y0.used+osz h a<=h.pw:=by
  rcases p7 with ⟨r1,r2,r3,r4⟩ | ⟨r1,r2,r3,r4,z,r5,r6⟩
  · have hm:(J:Int)∈x.taken:=qcG r3;obtain ⟨k2,g0,g',f0,f1',f2',-⟩:=I.tk _ hm;obtain rfl:J=k2:=by omega
    obtain ⟨u,l,t1,-⟩:=C.tile _ hm;rw [r2]at p4;rw [t1]at p4;injection p4 with p4
    subst p4;refine ⟨g0,f1',f2',fun k _=>by rw [r2],⟨rfl,rfl,rfl⟩,fun t=>?_,fun _=>t1,fun c=>absurd hm c,r4⟩
    unfold plT;rw [if_pos r1]
    constructor
    · exact .inl
    · rintro (q | q)
      · exact q
      · rw [q];exact hm
  · have hnt:¬(J:Int)∈x.taken:=fun hm=>by
     obtain ⟨u,l,t1,-⟩:=C.tile _ hm;rw [r5]at t1;injection t1 with t1;subst t1;cases r6
    have hlt:J<h.pages.length:=by omega
    have hh:h.pages[J]?=some h.pages[J]:=qal hlt
    obtain ⟨g',q1,q2,q3⟩:=I.pg J _ hh hnt;rw [r5]at q1;injection q1 with q1;subst q1
    subst r4;refine ⟨_,hh,by omega,fun k hk=>by rw [r3,qbu (by omega)],⟨rfl,by rw [<-I.sp],rfl⟩,fun t=>?_,fun hm=>absurd hm hnt,fun _=>rfl,by show 0+osz h a<=h.pw;omega⟩
    unfold plT;rw [r1,r2]
    simp
 obtain ⟨hout,hfit⟩:=hout;have hpp:=za1 (p:=(J:Int)) (zan I.ok).1 (by omega) hJlt
 have hfree:=zaJ b hg0 hk0;have hbsJ:bs h J=4096+(J:Int)*h.pw:=rfl
 have ka:okA x.h.words.length (bs h J+y0.used) (osz h a).toNat=true:=zaM.2 (by omega)
 have kb:okA x.h.words.length a (osz h a).toNat=true:=zaM.2 (by omega)
 have kc:okA (zeL x.h.words (bs h J+y0.used) a (osz h a)).length a [fwdV (bs h J+y0.used)].length=true:=by rw [znF (by omega) ka kb];exact zaM.2 (by simp only [qbz];omega)
 have hW:(zbA x a).h.words=zaz (zeL x.h.words (bs h J+y0.used) a (osz h a)) a [fwdV (bs h J+y0.used)]:=by
  show zlh x a=_
  unfold zlh;rw [e2,eA]
 refine ⟨J,y0.used,g0,eA,rfl,p5,hfit,hJlt,hg0,hk0,fun k hk=>?_,?_,fun t=>by rw [eT];exact htk t,hin,hout,eQ,fun p q1 q2=>?_,fun t t0 t1=>?_,?_,by rw [hbsJ];exact hfree,fun i' j' g' b'=>?_⟩
 · rw [eP,qbu (by omega)];exact hsame k hk
 · rw [eP,qcq (by omega),hJpage.1,hJpage.2.1,hJpage.2.2]
 · rw [hW,za5 kc (by simp only [qbz];omega)]
   exact zhk (by omega) ka kb (by omega)
 · rw [hW,za5 kc (by simp only [qbz];omega)]
   exact zjf (by omega) ka kb t0 t1
 · rw [hW];exact zdx kc
 · have e1:i'=i:=by have h1:=b.oi;have h2:=b'.oi;omega
   subst e1;have h1:=b.pg;have h2:=b'.pg;rw [h1]at h2;injection h2 with h2
   rw [<-h2];exact hk1
end Go.VI.P
namespace Go.VI.P
open Go
open Go.RowKit
theorem CI.copied{h:Hp}{x:Wk}{os:List Int}{D:Nat->Int->Prop}(C:CI h x os D){a:Int}(ha:a∈zaf h)(hq:¬a∈x.queue)(ht:okT (evWd x a).toNat=false)(hpr:zd9 x (evI x a)=false)(hbig:zhw x a=false)(hpl:plB x (evN x a)=true):
 CI h (zbA x a) (os++[a]) D/\(zbA x a).queue=x.queue++[plA x (evN x a)]:=by
 have I:=C.inv;obtain ⟨c1,c2,c3,c4,c5,c6,c7,c8,c9⟩:=I.conf;obtain ⟨J,u,g0,eA,eN,u0,u1,hJ,hg0,hk0,hoth,hJp,htk,hin,hnin,eQ,wout,win,wself,hfr,hk1⟩:=ztp C ha ht hbig hpl;rw [eA];obtain ⟨T,hT⟩:∃ T,bs h J+u=T:=⟨_,rfl⟩
 rw [hT]at eQ wout win wself ⊢
 obtain ⟨N,hN⟩:∃ N,osz h a=N:=⟨_,rfl⟩
 rw [hN]at u1 hJp wout win hfr;obtain ⟨ia,ja,ga,ba⟩:=zai ha;have hbp:=ba.pos;rw [hN]at hbp;have Iy:=(I.copied ha hq ht hpr hbig hpl).1;obtain ⟨y,hy⟩:∃ y,zbA x a=y:=⟨_,rfl⟩
 have hpw:(zbA x a).h.pw=h.pw:=I.pw
 rw [hy]at Iy eQ wout win wself hoth hJp htk hpw ⊢
 have hxpw:=I.pw;have hev:∀ p,p≠a->(p<T\/T+N<=p)->evWd y p=evWd x p:=fun p h1 h2=>wout p h1 h2
 have hobjw:∀ c∈zaf h,c≠a->∀ j,0<=j->j<osz h c->zao y.h.words (c+j)=zao x.h.words (c+j):=fun c hc hne j j0 j1=>by
  obtain ⟨i3,j3,g3,b3⟩:=zai hc;have h1:=zaJ b3 hg0 hk0;have h2:=zcL hc ha hne;have h3:=b3.pos;unfold bs at hT;exact wout _ (by omega) (by omega)
 have hobj:∀ c∈zaf h,c≠a->evWd y c=evWd x c:=fun c hc hne=>by
  obtain ⟨i3,j3,g3,b3⟩:=zai hc;have:=hobjw c hc hne 0 (by omega) (by have:=b3.pos;omega)
  rw [qbO]at this;exact this
 have hcop:∀ q,zbp x q->∃ (k:Nat) (g:Pg),(k:Int)∈x.taken/\x.h.pages[k]?=some g/\bs h k<=q/\okD (evWd x q).toNat=true/\1<=evN x q/\q+evN x q<=bs h k+g.used/\g.used<=h.pw/\(q+evN x q<=T\/T+N<=q)/\(a<bs h k\/bs h k+h.pw<=a):=fun q hc=>by
  obtain ⟨k,g,d1,d2,d3,d4,d5⟩:=hc;rw [hxpw]at d3 d5;obtain ⟨k3,y0,y3,l0,l1,l2,l3,l4,l5,l6⟩:=I.tk _ d1;obtain rfl:k=k3:=by omega
  rw [d2]at l3;injection l3 with l3
  subst l3;have hev1:=(zhv d4).1;have ha1:=zaJ ba l1 l2;refine ⟨k,g,d1,d2,d3,d4,by omega,d5,l6,?_,by unfold bs;omega⟩
  by_cases hkJ:k=J
  · subst hkJ;have:=hin d1
    rw [d2]at this;injection this with this
    left
    have hgu:g.used=u:=by rw [this]
    unfold bs at hT;omega
  · by_cases hlt:k<J
    · have:=zl5 (h:=h) (by omega) hlt
      left;unfold bs at hT this;omega
    · have:=zl5 (h:=h) (by omega) (show J<k by omega)
      right;unfold bs at hT this;omega
 have hcopw:∀ q,zbp x q->∀ j,0<=j->j<evN x q->zao y.h.words (q+j)=zao x.h.words (q+j):=fun q hc j j0 j1=>by
  obtain ⟨k,g,d1,d2,d3,d4,d5,d6,d7,d8,d9⟩:=hcop q hc;exact wout _ (by omega) (by omega)
 have hcopev:∀ q,zbp x q->evWd y q=evWd x q:=fun q hc=>by
  obtain ⟨k,g,d1,d2,d3,d4,d5,d6,d7,d8,d9⟩:=hcop q hc;have:=hcopw q hc 0 (by omega) (by omega)
  rw [qbO]at this;exact this
 have hcc:∀ q,zbp x q->zbp y q:=fun q hc=>by
  have e1:=hcopev q hc;have e2:evN y q=evN x q:=by unfold evN;rw [e1]
  obtain ⟨k,g,d1,d2,d3,d4,d5,d6,d7,d8,d9⟩:=hcop q hc;by_cases hkJ:k=J
  · subst hkJ;have h3:=hin d1;rw [d2]at h3;injection h3 with h3
    have hgu:g.used=u:=by rw [h3]
    exact ⟨k,_,(htk _).2 (.inl d1),hJp,by rw [hpw];exact d3,by rw [e1];exact d4,by rw [e2,hpw];show q+evN x q<=4096+(k:Int)*h.pw+(u+N);unfold bs at d6;omega⟩
  · exact ⟨k,g,(htk _).2 (.inl d1),by rw [hoth k hkJ];exact d2,by rw [hpw];exact d3,by rw [e1];exact d4,by rw [e2,hpw];exact d6⟩
 have hqev:∀ q∈x.queue,evWd y q=evWd x q:=fun q h1=>by
  rcases I.qs q h1 with h2 | h2
  · exact hobj q h2 (fun e=>hq (by rw [<-e];exact h1))
  · exact hcopev q h2
 have hnotobj:∀ c∈zaf h,c≠T:=fun c hc e=>by
  obtain ⟨i3,j3,g3,b3⟩:=zai hc;have h1:=zaJ b3 hg0 hk0;have h3:=b3.pos;unfold bs at hT;omega
 have hTq:¬T∈x.queue:=fun h1=>by
  rcases I.qs T h1 with h2 | h2
  · exact hnotobj T h2 rfl
  · obtain ⟨k,g,d1,d2,d3,d4,d5,d6,d7,d8,d9⟩:=hcop T h2;omega
 have hao:¬a∈os:=fun c=>by
  rcases (C.seen a ha).1 c with e | e
  · exact hq e
  · rw [ht]at e;cases e
 have e0:evWd x a=zao h.words a:=by
  rcases I.un a ha with e | e
  · exact e
  · rw [ht]at e;exact absurd e.1 (by decide)
 have eT:evWd y T=evWd x a:=by
  have:=win 0 (by omega) (by omega)
  rw [qbO,qbO]at this;exact this
 have eTN:evN y T=N:=by
  unfold evN;rw [eT]
  obtain ⟨e1,e2,-⟩:=zdZ ha e0;unfold evN at e2;rw [e2,hN]
 have hbJ:4096<=bs h J/\bs h J+h.pw<=4096+h.np*h.pw:=by
  have hpp:=za1 (p:=(J:Int)) (zan I.ok).1 (by omega) hJ
  unfold bs;omega
 have hokT:okT (evWd y a).toNat=true/\tgtV (evWd y a).toNat=T:=by
  have:evWd y a=fwdV T:=wself
  rw [this];have h1:=znl (a:=T) (by omega) (by omega)
  refine ⟨h1,?_⟩;rw [zwT h1,(zw4 (a:=T) (by omega)).1];omega
 have hcT:zbp y T:=by
  refine ⟨J,_,(htk _).2 (.inr rfl),hJp,by rw [hpw];unfold bs at hT;omega,?_,?_⟩
  · rw [eT];exact (zdZ ha e0).1
  · rw [eTN,hpw];show T+N<=4096+(J:Int)*h.pw+(u+N);unfold bs at hT;omega
 have hqg:∀ (i:Nat) (o q:Int),(os++[a])[i]?=some o->y.queue[i]?=some q->(os[i]?=some o/\x.queue[i]?=some q)\/(i=os.length/\o=a/\q=T):=fun i o q h1 h2=>by
  rw [eQ]at h2;rcases zfU h1 with e | ⟨e1,e2⟩
  · rcases zfU h2 with e' | ⟨e1',-⟩
    · exact .inl ⟨e,e'⟩
    · have:=(qah.1 e).1
      rw [C.len]at this;omega
  · rcases zfU h2 with e' | ⟨-,e2'⟩
    · have:=(qah.1 e').1
      rw [<-C.len]at this;omega
    · exact .inr ⟨e1,e2,e2'⟩
 have hoa:∀ (i:Nat) (o:Int),os[i]?=some o->o≠a:=fun i o h1 e=>hao (by rw [<-e];exact qav h1)
 refine ⟨⟨Iy,by rw [eQ,qaz,qaz,C.len];rfl,fun i j d=>by rw [qaz];have:=C.dl i j d;omega,fun o ho=>?_,?_,fun c hc=>?_,fun i o q h1 h2=>?_,fun i o q h1 h2=>?_,fun i o q h1 h2 j j0 j1=>?_,fun c hc hn j j0 j1=>?_,fun p h1 h2=>?_,fun k g5 p hg hk h1 h2 h3=>?_,fun k hk=>?_,fun k g5 hg hk=>?_,fun q hq2 hqo=>?_,by rw [<-hy];exact zw9 I.plok hpl C.wb⟩,eQ⟩
 · rcases qao.1 ho with e | e
   · exact C.oin o e
   · rw [qau.1 e];exact ha
 · rw [eQ];exact List.nodup_append.2 ⟨C.qnd,by simp,fun w hw v hv=>by rw [qau.1 hv];exact fun e=>hTq (e ▸ hw)⟩
 · rw [eQ,qao,qao,qau,qau];by_cases e:c=a
   · subst e;exact ⟨fun _=>.inr hokT.1,fun _=>.inr rfl⟩
   · rw [hobj c hc e,C.seen c hc];have:=hnotobj c hc
     constructor
     · rintro ((q | q) | q)
       · exact .inl (.inl q)
       · exact .inr q
       · exact absurd q e
     · rintro ((q | q) | q)
       · exact .inl (.inl q)
       · exact absurd q this
       · exact .inl (.inr q)
 · rcases hqg i o q h1 h2 with ⟨e1,e2⟩ | ⟨-,e1,e2⟩
   · rcases C.plc i o q e1 e2 with e | ⟨e3,e4,e5,e6⟩
     · exact .inl e
     · have:=hobj o (C.oin o (qav e1)) (hoa i o e1)
       exact .inr ⟨by rw [this];exact e3,by rw [this];exact e4,hcc q e5,e6⟩
   · right
     rw [e1,e2];exact ⟨hokT.1,hokT.2,hcT,hk1⟩
 · rcases hqg i o q h1 h2 with ⟨e1,e2⟩ | ⟨-,e1,e2⟩
   · rw [hqev q (qav e2)];exact C.hd i o q e1 e2
   · rw [e1,e2,eT];exact e0
 · rcases hqg i o q h1 h2 with ⟨e1,e2⟩ | ⟨ei,e1,e2⟩
   · have hqm:=qav e2;have hwe:zao y.h.words (q+1+j)=zao x.h.words (q+1+j):=by
      have hhd:=C.hd i o q e1 e2;have hob:=C.oin o (qav e1);rcases I.qs q hqm with h5 | h5
      · have hne:q≠a:=fun e=>hq (by rw [<-e];exact hqm)
        have hsz:j+1<osz h q:=by
         obtain ⟨i3,j3,g3,b3⟩:=zai h5;obtain ⟨i4,j4,g4,b4⟩:=zai hob;have k1:=b3.sz;have k2:=b4.sz;have hk:=I.kept h5 hqm;rw [hk]at hhd;have:zap h q=zap h o:=by rw [zaF b3.pos.2,zaF b4.pos.2,hhd]
         rw [this]at k1;unfold osz at k2;omega
        have:=hobjw q h5 hne (j+1) (by omega) hsz
        rwa [show q+(j+1)=q+1+j from by omega]at this
      · have hsz:j+1<evN x q:=by
         obtain ⟨k,g,d1,d2,d3,d4,d5,d6,d7,d8,d9⟩:=hcop q h5;have k1:=(zhv d4).1;obtain ⟨i4,j4,g4,b4⟩:=zai hob;have k2:=b4.sz;rw [hhd,<-zaF b4.pos.2]at k1;unfold osz at k2;omega
        have:=hcopw q h5 (j+1) (by omega) hsz
        rwa [show q+(j+1)=q+1+j from by omega]at this
     rw [hwe];obtain ⟨f1,f2⟩:=C.fl i o q e1 e2 j j0 j1;exact ⟨fun d p=>(f1 d p).more ⟨_,rfl⟩ ⟨_,eQ⟩,f2⟩
   · subst e1 e2;refine ⟨fun d=>by have:=C.dl i j d;omega,fun _=>?_⟩
     have hs:j+1<N:=by rw [<-hN];unfold osz;omega
     have h5:=win (j+1) (by omega) hs
     have h6:=C.un o ha hao (j+1) (by omega) (by rw [hN];exact hs)
     rw [show q+1+j=q+(j+1) from by omega,h5,h6,show o+(j+1)=o+1+j from by omega]
 · have hne:c≠a:=fun e=>hn (by rw [e];exact qbl _ (qau.2 rfl))
   rw [hobjw c hc hne j j0 j1];exact C.un c hc (fun e=>hn (qa6 _ e)) j j0 j1
 · have hpa:=h1 a ha;have hpj:=h2 J g0 hg0 hk0;rw [wout p (by omega) (by omega)]
   exact C.ot p h1 h2
 · have hpa:=zaJ ba hg hk;by_cases e:k=J
   · subst e;have h3':bs h k+(u+N)<=p:=by
      rcases h3 with q | ⟨g6,q1,q2⟩
      · exact absurd ((htk _).2 (.inr rfl)) q
      · rw [hJp]at q1;injection q1 with q1;subst q1;exact q2
     rw [wout p (by unfold bs at h1 h2;omega) (by omega)]
     refine C.fr k g5 p hg hk h1 h2 ?_;by_cases c:(k:Int)∈x.taken
     · exact .inr ⟨_,hin c,by show bs h k+u<=p;omega⟩
     · exact .inl c
   · have hdisj:p<bs h J\/bs h J+h.pw<=p:=by
      by_cases hlt:k<J
      · have:=zl5 (h:=h) (by omega) hlt;omega
      · have:=zl5 (h:=h) (by omega) (show J<k by omega);omega
     rw [wout p (by unfold bs at h1 h2;omega) (by omega)]
     refine C.fr k g5 p hg hk h1 h2 ?_;rcases h3 with q | q
     · exact .inl fun c=>q ((htk _).2 (.inl c))
     · rw [hoth k e]at q;exact .inr q
 · by_cases e:k=J
   · subst e;by_cases c:(k:Int)∈x.taken
     · obtain ⟨u',l,t1,t2,t3⟩:=C.tile k c;have hu:u'=u:=by have:=hin c;rw [t1]at this;injection this with this;injection this
       subst hu;rw [hT]at t2;have hlq:∀ q∈l,evN y q=evN x q:=fun q hql=>by unfold evN;rw [hqev q ((t3 q).1 hql).1]
       refine ⟨u'+N,l++[T],hJp,?_,fun q=>?_⟩
       · refine zkh (zcV hlq t2) (by rw [eTN];omega) (by rw [eTN];omega)
       · rw [qao,qau,t3,eQ,qao,qau];constructor
         · rintro (⟨q1,q2⟩ | q1)
           · exact ⟨.inl q1,q2⟩
           · rw [q1];exact ⟨.inr rfl,by omega,by omega⟩
         · rintro ⟨q1 | q1,q2⟩
           · exact .inl ⟨q1,q2⟩
           · exact .inr q1
     · have hu:=hnin c;subst hu;refine ⟨0+N,[T],hJp,⟨by omega,by rw [eTN];omega,by show _=_;rw [eTN];omega⟩,fun q=>?_⟩
       rw [qau,eQ,qao,qau];constructor
       · intro q1;rw [q1];exact ⟨.inr rfl,by omega,by omega⟩
       · rintro ⟨q1 | q1,q2,q3⟩
         · exfalso
           rcases I.qs q q1 with h5 | h5
           · obtain ⟨i3,j3,g3,b3⟩:=zai h5;have:=zaJ b3 hg0 hk0
             have:=b3.pos
             unfold bs at q2 q3;omega
           · obtain ⟨k3,g3,d1,d2,d3,d4,d5,d6,d7,d8,d9⟩:=hcop q h5;have:=zc5 (h:=h) (by omega) q2 q3 d3 (by omega)
             subst this;exact c d1
         · exact q1
   · have hk':(k:Int)∈x.taken:=by
      rcases (htk _).1 hk with q | q
      · exact q
      · exact absurd (by omega) e
     obtain ⟨u',l,t1,t2,t3⟩:=C.tile k hk';have hlq:∀ q∈l,evN y q=evN x q:=fun q hql=>by unfold evN;rw [hqev q ((t3 q).1 hql).1]
     refine ⟨u',l,by rw [hoth k e];exact t1,zcV hlq t2,fun q=>?_⟩
     rw [t3,eQ,qao,qau];constructor
     · rintro ⟨q1,q2⟩;exact ⟨.inl q1,q2⟩
     · rintro ⟨q1 | q1,q2,q3⟩
       · exact ⟨q1,q2,q3⟩
       · exfalso
         exact e (zc5 (h:=h) (by omega) q2 q3 (by omega) (by omega))
 · have hk':¬(k:Int)∈x.taken:=fun c=>hk ((htk _).2 (.inl c))
   have e:k≠J:=fun c=>hk ((htk _).2 (.inr (by rw [c])))
   obtain ⟨s',q1,q2,q3,q4,q5⟩:=C.ppg k g5 hg hk';have hnb:∀ (l:Nat) (z:Pg),h.pages[l]?=some z->z.kind=2->(bs h l∈y.queue↔bs h l∈x.queue):=fun l z hz hzk=>by
    rw [eQ,qao,qau];refine ⟨fun c=>c.elim id fun c=>?_,.inl⟩
    exfalso
    have:l=J:=zc5 (h:=h) (p:=T) (by omega) (by omega) (by omega) (by omega) (by omega)
    subst this;rw [hg0]at hz;injection hz with hz;subst hz;omega
   refine ⟨s',by rw [hoth k e];exact q1,q2,q3,fun kk2=>?_,fun k3=>?_⟩
   · rw [q4 kk2];simp only [hnb k g5 hg kk2]
   · rw [q5 k3];obtain ⟨l,z,-,l2,l3,l4⟩:=zki I.ok hg k3;rw [l2];simp only [hnb l z l3 l4]
 · rw [eQ]at hq2;rcases qao.1 hq2 with e | e
   · exact C.kp q e hqo
   · exact absurd (qau.1 e) (hnotobj q hqo)
theorem CI.forward{h:Hp}{x:Wk}{os:List Int}{D:Nat->Int->Prop}(C:CI h x os D){v:Int}(hv:v=0\/v∈zaf h)(he:evE x v=0):
 ∃ os',CI h (evW x v) os' D/\(∃ l,os'=os++l)/\(∃ l,(evW x v).queue=x.queue++l)/\Fw os' (evW x v).queue v (evA x v):=by
 have I:=C.inv;unfold evE at he;unfold evW evA;by_cases h0:v=0\/v∈x.queue
 · have hc:evC x v=0:=by unfold evC;rw [if_pos h0]
   rw [hc];refine ⟨os,C,⟨[],by simp⟩,⟨[],by simp⟩,?_⟩
   by_cases hz:v=0
   · exact .inl ⟨hz,hz⟩
   have hob:=hv.resolve_left hz;have hin:=h0.resolve_left hz;obtain ⟨t,ht,e⟩:=qbR.1 hin;have hlen:=C.len;have ho:os[t]?=some os[t]:=qal (by omega)
   have hq:x.queue[t]?=some v:=by rw [qal ht,e]
   rcases C.plc t _ v ho hq with q | ⟨-,-,q,-⟩
   · exact .inr ⟨t,by rw [ho,<-q],hq⟩
   · exfalso
     obtain ⟨k,g0,d1,d2,d3,d4,d5,d6,d7⟩:=I.copy q;obtain ⟨i3,j3,g3,b3⟩:=zai hob;have h1:=zaJ b3 d1 d2;have h3:=b3.pos;omega
 have hz:¬v=0:=fun c=>h0 (.inl c)
 have hq:¬v∈x.queue:=fun c=>h0 (.inr c)
 have ho2:=hv.resolve_left hz;have ho:v∈x.old:=by rw [I.old];exact ho2
 by_cases ht:okT (evWd x v).toNat=true
 · have hc:evC x v=2:=by unfold evC;rw [if_neg h0,if_neg (by simpa using ho),if_pos ht]
   rw [hc];refine ⟨os,C,⟨[],by simp⟩,⟨[],by simp⟩,.inr ?_⟩
   have hin:=(C.seen v ho2).2 (.inr ht);obtain ⟨t,htl,e⟩:=qbR.1 hin;have hlen:=C.len;have hos:os[t]?=some v:=by rw [qal htl,e]
   have hqq:x.queue[t]?=some x.queue[t]:=qal (by omega)
   rcases C.plc t v _ hos hqq with q | ⟨-,q,-⟩
   · exact absurd (by rw [<-q];exact qbU _) hq
   · exact ⟨t,hos,by show x.queue[t]?=some (tgtV (evWd x v).toNat);rw [hqq,<-q]⟩
 replace ht:okT (evWd x v).toNat=false:=by simpa using ht
 have hnew:∀ w,Fw (os++[v]) (x.queue++[w]) v w:=fun w=>.inr ⟨os.length,by rw [qbJ (qan _),qbL];rfl,by rw [C.len,qbJ (qan _),qbL];rfl⟩
 by_cases h3:¬ofE x.h.pw x.h.np v=0\/(x.h.pages.length:Int)<=evI x v
 · have hc:evC x v=3:=by unfold evC;rw [if_neg h0,if_neg (by simpa using ho),if_neg (by simp [ht]),if_pos h3]
   rw [hc]at he;exact absurd he (by decide)
 cases hpr:zd9 x (evI x v) with
 | true=>
  have hc:evC x v=4:=by unfold evC;rw [if_neg h0,if_neg (by simpa using ho),if_neg (by simp [ht]),if_neg h3,if_pos hpr]
  rw [hc];exact ⟨os++[v],C.keep1 ho2 hq ht hpr,⟨[v],rfl⟩,⟨[v],rfl⟩,hnew v⟩
 | false=>
  cases hbig:zhw x v with
  | true=>
   have hc:evC x v=5:=by unfold evC;rw [if_neg h0,if_neg (by simpa using ho),if_neg (by simp [ht]),if_neg h3,if_neg (by simp [hpr]),if_pos hbig]
   rw [hc];exact ⟨os++[v],C.keep2 ho2 hq ht hbig,⟨[v],rfl⟩,⟨[v],rfl⟩,hnew v⟩
  | false=>
   cases hpp:plB x (evN x v) with
   | true=>
    have hc:evC x v=7:=by unfold evC;rw [if_neg h0,if_neg (by simpa using ho),if_neg (by simp [ht]),if_neg h3,if_neg (by simp [hpr]),if_neg (by simp [hbig]),if_pos hpp]
    rw [hc];obtain ⟨r1,r2⟩:=C.copied ho2 hq ht hpr hbig hpp;refine ⟨os++[v],r1,⟨[v],rfl⟩,⟨[plA x (evN x v)],r2⟩,?_⟩;show Fw (os++[v]) (zbA x v).queue v (plA x (evN x v))
    rw [r2];exact hnew _
   | false=>
    have hc:evC x v=6:=by unfold evC;rw [if_neg h0,if_neg (by simpa using ho),if_neg (by simp [ht]),if_neg h3,if_neg (by simp [hpr]),if_neg (by simp [hbig]),if_neg (by simp [hpp])]
    rw [hc]at he;exact absurd he (by decide)
end Go.VI.P
namespace Go.VI.P
open Go
open Go.RowKit
theorem zuN{l:List Int}(h:l.Nodup){i j:Nat}{q:Int}(h1:l[i]?=some q)(h2:l[j]?=some q):i=j:=by
 obtain ⟨k1,e1⟩:=qah.1 h1;obtain ⟨k2,e2⟩:=qah.1 h2;refine qaY fun c=>?_
 have hp:=List.pairwise_iff_getElem.1 h;by_cases hlt:i<j
 · exact hp i j k1 k2 hlt (e1.trans e2.symm)
 · exact hp j i k2 k1 (by omega) (e2.trans e1.symm)
theorem CI.size{h:Hp}{x:Wk}{os:List Int}{D:Nat->Int->Prop}(C:CI h x os D){i:Nat}{o q:Int}(h1:os[i]?=some o)(h2:x.queue[i]?=some q):evN x q=osz h o/\evH x q=atH h o/\okD (evWd x q).toNat=true/\(evWd x q).toNat=zap h o:=by
 have ho:=C.oin o (qav h1);obtain ⟨i3,j3,g3,b⟩:=zai ho;have hw:(evWd x q).toNat=zap h o:=by rw [C.hd i o q h1 h2,zaF b.pos.2]
 have hd:okD (evWd x q).toNat=true:=by rw [hw];exact b.od
 obtain ⟨d1,d2,d3⟩:=zmN hd;refine ⟨?_,?_,hd,hw⟩
 · rw [(zhv hd).1,hw,b.sz]
 · rw [b.hd];unfold evH hdOf;rw [d1,d2,d3,hw]
theorem CI.nd{h:Hp}{x:Wk}{os:List Int}{D:Nat->Int->Prop}(C:CI h x os D){i j:Nat}{q:Int}(h1:x.queue[i]?=some q)(h2:x.queue[j]?=some q):i=j:=zuN C.qnd h1 h2
theorem CI.apart{h:Hp}{x:Wk}{os:List Int}{D:Nat->Int->Prop}(C:CI h x os D){q r:Int}(hq:q∈x.queue)(hr:r∈x.queue)(hne:q≠r):q+evN x q<=r\/r+evN x r<=q:=by
 have I:=C.inv;have hob:∀ c∈x.queue,c∈zaf h->evN x c=osz h c:=fun c hc ho=>(zdZ ho (I.kept ho hc)).2.1
 rcases I.qs q hq with a | a <;> rcases I.qs r hr with b | b
 · rw [hob q hq a,hob r hr b];exact zcL a b hne
 · rw [hob q hq a];exact I.old_copy a b
 · rw [hob r hr b];exact (I.old_copy b a).symm
 · exact I.dj q hq r hr a b hne
theorem CI.write{h:Hp}{x:Wk}{os:List Int}{D:Nat->Int->Prop}(C:CI h x os D){s:Nat}{o A i w:Int}(hs:os[s]?=some o)(hA:x.queue[s]?=some A)(hp:ptrB (atH h o).k (atH h o).n (atH h o).m i=true)
 (hw:Fw os x.queue (zao h.words (o+1+i)) w):CI h { x with h:={ x.h with words:=zaz x.h.words (A+1+i) [w] } } os (fun t j=>D t j\/(t=s/\j=i)):=by
 have I:=C.inv;have hcf:=I.conf;obtain ⟨z1,z2,z3,z4⟩:=C.size hs hA;have hAm:=qav hA;obtain ⟨-,i0,i1⟩:=zkw hp;obtain ⟨n1,n2,n3⟩:=I.inside hAm i0 (by rw [z2];exact i1)
 have Iy:=(I.write n1 n2 n3 (v:=w)).1
 have hin:A+1+i<A+evN x A:=by rw [z1];unfold osz;omega
 have hwb:0<=w/\w<18446744073709551616:=by
  rcases hw with ⟨-,e⟩ | ⟨t,-,e⟩
  · omega
  · have:=I.queue_bd (qav e);omega
 obtain ⟨y,hy⟩:∃ y,({ x with h:={ x.h with words:=zaz x.h.words (A+1+i) [w] } }:Wk)=y:=⟨_,rfl⟩
 have hout:∀ p,p≠A+1+i->zao y.h.words p=zao x.h.words p:=fun p hpn=>by rw [<-hy];exact za5 n1 (by simp only [qbz];omega)
 have hself:zao y.h.words (A+1+i)=w:=by rw [<-hy];exact zdx n1
 have eq:y.queue=x.queue:=by rw [<-hy]
 have et:y.taken=x.taken:=by rw [<-hy]
 have ep:y.h.pages=x.h.pages:=by rw [<-hy]
 have epw:y.h.pw=x.h.pw:=by rw [<-hy]
 rw [hy]at Iy ⊢
 have hev:∀ p,p≠A+1+i->evWd y p=evWd x p:=hout
 have hevq:∀ q∈x.queue,evWd y q=evWd x q:=fun q hq=>hev q (fun e=>n3 q hq e.symm)
 have hevo:∀ c∈zaf h,evWd y c=evWd x c:=fun c hc=>hev c (fun e=>n2 c hc e.symm)
 have hcp:∀ q∈x.queue,zbp x q->zbp y q:=fun q hq ⟨k,g,c1,c2,c3,c4,c5⟩=>⟨k,g,by rw [et];exact c1,by rw [ep];exact c2,by rw [epw];exact c3,by rw [hevq q hq];exact c4,by unfold evN;rw [hevq q hq,epw];exact c5⟩
 have hplace:(A∈zaf h/\evN x A=osz h A)\/∃ (k:Nat) (g0 g:Pg),(k:Int)∈x.taken/\h.pages[k]?=some g0/\g0.kind=0/\x.h.pages[k]?=some g/\bs h k<=A/\A+evN x A<=bs h k+g.used/\g.used<=h.pw:=by
  rcases I.qs A hAm with a | a
  · exact .inl ⟨a,(zdZ a (I.kept a hAm)).2.1⟩
  · right
    obtain ⟨k,g,d1,d2,d3,d4,d5⟩:=a;obtain ⟨k3,y0,y3,l0,l1,l2,l3,l4,l5,l6⟩:=I.tk _ d1;obtain rfl:k=k3:=by omega
    rw [d2]at l3;injection l3 with l3;subst l3
    rw [I.pw]at d3 d5;exact ⟨k,y0,g,d1,l1,l2,d2,d3,d5,l6⟩
 refine ⟨Iy,by rw [eq];exact C.len,fun t j d=>?_,C.oin,by rw [eq];exact C.qnd,fun c hc=>?_,fun t o' q h1 h2=>?_,fun t o' q h1 h2=>?_,fun t o' q h1 h2 j j0 j1=>?_,fun c hc hn j j0 j1=>?_,fun p h1 h2=>?_,fun k g0 p hg hk h1 h2 h3=>?_,fun k hk=>?_,fun k g0 hg hk=>?_,fun q hq hqo=>?_,by rw [<-hy];exact zdv C.wb (fun z hz=>by rw [qau.1 hz];exact hwb)⟩
 · rcases d with d | ⟨d,-⟩
   · exact C.dl t j d
   · rw [d];exact (qah.1 hs).1
 · rw [hevo c hc,eq];exact C.seen c hc
 · rw [eq]at h2;rcases C.plc t o' q h1 h2 with e | ⟨e1,e2,e3,e4⟩
   · exact .inl e
   · have:=hevo o' (C.oin o' (qav h1))
     exact .inr ⟨by rw [this];exact e1,by rw [this];exact e2,hcp q (qav h2) e3,e4⟩
 · rw [eq]at h2;rw [hevq q (qav h2)];exact C.hd t o' q h1 h2
 · rw [eq]at h2;rw [eq];obtain ⟨f1,f2⟩:=C.fl t o' q h1 h2 j j0 j1;by_cases e:t=s
   · subst e;rw [hs]at h1;injection h1 with h1;subst h1
     rw [hA]at h2;injection h2 with h2;subst h2
     by_cases e2:j=i
     · subst e2;rw [hself];exact ⟨fun _ _=>hw,fun c=>by have:=c (.inr ⟨rfl,rfl⟩);rw [hp]at this;cases this⟩
     · rw [hout _ (by omega)]
       exact ⟨fun d p=>f1 (d.elim id fun c=>absurd c.2 e2) p,fun c=>f2 fun d=>c (.inl d)⟩
   · have hne:q≠A:=fun c=>e (C.nd (by rw [<-c];exact h2) hA)
     have:=C.apart (qav h2) hAm hne
     obtain ⟨y1,y2,-,-⟩:=C.size h1 h2;have hjs:q+1+j<q+evN x q:=by rw [y1];unfold osz;omega
     rw [hout _ (by omega)]
     exact ⟨fun d p=>f1 (d.elim id fun c=>absurd c.1 e) p,fun c=>f2 fun d=>c (.inl d)⟩
 · rw [hout _ ?_]
   · exact C.un c hc hn j j0 j1
   · intro e;obtain ⟨i4,j4,g4,b4⟩:=zai hc;have hb4:=b4.pos;rcases hplace with ⟨a1,a2⟩ | ⟨k,g0,g,k1,k2,k3,k4,k5,k6,k7⟩
     · have hne:c≠A:=fun e2=>hn ((C.seen c hc).2 (.inl (by rw [e2];exact hAm)))
       have:=zcL hc a1 hne
       omega
     · have:=zaJ b4 k2 k3
       unfold bs at k5 k6;omega
 · rw [hout _ ?_]
   · exact C.ot p h1 h2
   · intro e;rcases hplace with ⟨a1,a2⟩ | ⟨k,g0,g,k1,k2,k3,k4,k5,k6,k7⟩
     · have:=h1 A a1;omega
     · have:=h2 k g0 k2 k3;omega
 · rw [hout _ ?_]
   · refine C.fr k g0 p hg hk h1 h2 ?_;rw [et,ep]at h3;exact h3
   · intro e;rcases hplace with ⟨a1,a2⟩ | ⟨k',g0',g',k1,k2,k3,k4,k5,k6,k7⟩
     · obtain ⟨i4,j4,g4,b4⟩:=zai a1;have:=zaJ b4 hg hk
       unfold bs at h1 h2;omega
     · have:=zc5 (h:=h) (by omega) h1 h2 (k':=k') (by omega) (by omega)
       subst this;rw [et,ep]at h3;rcases h3 with c | ⟨g5,c1,c2⟩
       · exact c k1
       · rw [k4]at c1;injection c1 with c1;subst c1;omega
 · rw [et]at hk;obtain ⟨u,l,t1,t2,t3⟩:=C.tile k hk;refine ⟨u,l,by rw [ep];exact t1,zcV (fun q hq=>by unfold evN;rw [hevq q ((t3 q).1 hq).1]) t2,fun q=>by rw [eq];exact t3 q⟩
 · rw [et]at hk;rw [ep,eq];exact C.ppg k g0 hg hk
 · rw [eq]at hq;exact C.kp q hq hqo
theorem zvE{h:Hp}(G:Good h){s:Nat}{o A:Int}:∀ (l:List Int) (x:Wk) (os:List Int) (D:Nat->Int->Prop),CI h x os D->os[s]?=some o->x.queue[s]?=some A->(∀ i∈l,ptrB (atH h o).k (atH h o).n (atH h o).m i=true/\¬D s i)->l.Nodup->(stGo x A l).2=0 ->
 ∃ os',CI h (stGo x A l).1 os' (fun t j=>D t j\/(t=s/\j∈l))/\(∃ m,os'=os++m)/\(∃ m,(stGo x A l).1.queue=x.queue++m)/\(stGo x A l).1.sc=x.sc
 | [],x,os,D,C,hs,hA,hl,hn,he=>⟨os,C.congr (fun i j d=>by rcases d with d | ⟨-,d⟩;exact C.dl i j d;cases d) (fun i o' _ j _=>⟨.inl,fun d=>d.elim id fun c=>nomatch c.2⟩),⟨[],by simp⟩,⟨[],by simp [stGo]⟩,rfl⟩
 | i::r,x,os,D,C,hs,hA,hl,hn,he=>by
  have I:=C.inv;rw [stGo]at he ⊢
  by_cases e0:evE x (zao x.h.words (A+1+i))=0
  · rw [if_pos e0]at he ⊢
    obtain ⟨p1,p2⟩:=hl i (qaX ..);obtain ⟨-,i0,i1⟩:=zkw p1;have hv:zao x.h.words (A+1+i)=zao h.words (o+1+i):=(C.fl s o A hs hA i i0 i1).2 fun d=>absurd d p2
    have hob:=C.oin o (qav hs);obtain ⟨os1,C1,⟨m1,rfl⟩,⟨m2,q2⟩,F1⟩:=C.forward (G.ptr o hob i p1) (by rw [<-hv];exact e0)
    have hsl:=(qah.1 hs).1;have hAl:=(qah.1 hA).1;have hs1:(os++m1)[s]?=some o:=by rw [qbx hsl];exact hs
    have hA1:(evW x (zao h.words (o+1+i))).queue[s]?=some A:=by rw [q2,qbx hAl];exact hA
    have C2:=C1.write hs1 hA1 p1 F1;have eN:zcr x (A+1+i)={ evW x (zao h.words (o+1+i)) with h:={ (evW x (zao h.words (o+1+i))).h with words:=zaz (evW x (zao h.words (o+1+i))).h.words (A+1+i) [evA x (zao h.words (o+1+i))] } }:=by
     unfold zcr;rw [hv]
    rw [<-eN]at C2;have hq2:(zcr x (A+1+i)).queue=x.queue++m2:=by rw [eN];exact q2
    obtain ⟨nd1,nd2⟩:=qbm.1 hn;obtain ⟨os',C3,⟨m3,r1⟩,⟨m4,r2⟩,r3⟩:=zvE G r (zcr x (A+1+i)) (os++m1) _ C2 hs1 (by rw [hq2,qbx hAl];exact hA) (fun j hj=>⟨(hl j (qaD _ hj)).1,fun d=>by
     rcases d with d | ⟨-,d⟩
     · exact (hl j (qaD _ hj)).2 d
     · rw [d]at hj;exact nd1 hj⟩) nd2 he
    refine ⟨os',C3.congr (fun t j d=>?_) (fun t o' _ j _=>?_),⟨m1++m3,by rw [r1,qaG]⟩,⟨m2++m4,by rw [r2,hq2,qaG]⟩,?_⟩
    · rcases d with d | ⟨d1,d2⟩
      · have:=C.dl t j d
        rw [r1,qaz,qaz];omega
      · rw [d1,r1,qaz,qaz];omega
    · constructor
      · rintro ((d | ⟨d1,d2⟩) | ⟨d1,d2⟩)
        · exact .inl d
        · exact .inr ⟨d1,by rw [d2];exact qaX ..⟩
        · exact .inr ⟨d1,qaD _ d2⟩
      · rintro (d | ⟨d1,d2⟩)
        · exact .inl (.inl d)
        · rcases qas.1 d2 with q | q
          · exact .inl (.inr ⟨d1,q⟩)
          · exact .inr ⟨d1,q⟩
    · rw [r3];show (evW x (zao x.h.words (A+1+i))).sc=x.sc
      exact (I.forward e0).2.sc
  · rw [if_neg e0]at he;exact absurd he e0
theorem zv1{k n m i:Int}(h:ptrB k n m i=true):i∈zel k n m:=by
 obtain ⟨v,i0,i1⟩:=zkw h;unfold zel;rw [if_pos v];unfold zdk;rw [qbC];refine ⟨qay.2 ⟨i.toNat,qbw.2 (by omega),?_⟩,h⟩
 show ((i.toNat:Nat):Int)=i
 omega
theorem zsU(k n m:Int):(zel k n m).Nodup:=by
 unfold zel;split
 · unfold zdk;refine List.Pairwise.filter _ ?_;exact List.Pairwise.map _ (fun a b hab=>fun e=>hab (Int.ofNat.inj e)) List.nodup_range
 · exact qb9
theorem zxc{h:Hp}(G:Good h):∀ (f:Nat) (x:Wk) (s:Nat) (os:List Int),CI h x os (fun t _=>t<s)->x.sc=s->s<=os.length->(zaf h).length+1<=s+f->(allV f x).2=0 ->
 ∃ os',CI h (allV f x).1 os' (fun t _=>t<os'.length)/\(∃ m,os'=os++m)/\(∃ m,(allV f x).1.queue=x.queue++m)
 | 0,x,s,os,C,hsc,hs,hf,he=>by
  have:=C.inv.qlen
  have:=C.len
  omega
 | f+1,x,s,os,C,hsc,hs,hf,he=>by
  have hlen:=C.len;cases hq:x.queue[s]? with
  | none=>
   rw [zn4 hsc hq];have hge:=qcm.1 hq;have e:s=os.length:=by omega
   subst e;exact ⟨os,C,⟨[],by simp⟩,⟨[],by simp⟩⟩
  | some A=>
   rw [zri hsc hq]at he ⊢
   by_cases e:stE x A=0
   · rw [if_pos e]at he ⊢
     have hlt:=(qah.1 hq).1;have hos:os[s]?=some os[s]:=qal (by omega)
     generalize os[s]=o at hos
     obtain ⟨z1,z2,z3,z4⟩:=C.size hos hq;have hL:stL x A=zel (atH h o).k (atH h o).n (atH h o).m:=by unfold stL;rw [z2]
     have e2:(stGo x A (zel (atH h o).k (atH h o).n (atH h o).m)).2=0:=by rw [<-hL];exact e
     obtain ⟨os1,C1,⟨m1,r1⟩,⟨m2,r2⟩,r3⟩:=zvE G (s:=s) (o:=o) (A:=A) _ x os _ C hos hq (fun i hi=>⟨zku hi,by omega⟩) (zsU _ _ _) e2
     have C2:CI h (stGo x A (zel (atH h o).k (atH h o).n (atH h o).m)).1 os1 (fun t _=>t<s+1):=C1.congr (fun t j d=>by rw [r1,qaz];omega) (fun t o' ho' j hp=>by
      constructor
      · rintro (d | ⟨d,-⟩) <;> omega
      · intro d;by_cases c:t=s
        · right
          refine ⟨c,?_⟩;subst c;rw [r1,qbx (by omega),hos]at ho'
          injection ho' with ho'
          rw [ho'];exact zv1 hp
        · left;omega)
     rw [<-hL]at C2 r2 r3;have C3:CI h (stW x A) os1 (fun t _=>t<s+1):=⟨C2.inv.reports _ _ _ _ _ _ _,C2.len,C2.dl,C2.oin,C2.qnd,C2.seen,C2.plc,C2.hd,C2.fl,C2.un,C2.ot,C2.fr,C2.tile,C2.ppg,C2.kp,C2.wb⟩
     have hb:=C.inv.qlen;obtain ⟨os',C4,⟨m3,q1⟩,⟨m4,q2⟩⟩:=zxc G f (stW x A) (s+1) os1 C3 (by
      show wrap64 ((stGo x A (stL x A)).1.sc+1)=_
      rw [r3,hsc];unfold wrap64;omega) (by rw [r1,qaz];omega) (by omega) he
     exact ⟨os',C4,⟨m1++m3,by rw [q1,r1,qaG]⟩,⟨m2++m4,by rw [q2];show (stGo x A (stL x A)).1.queue++m4=_;rw [r2,qaG]⟩⟩
   · rw [if_neg e]at he;exact absurd he e
theorem zsF{h:Hp}:∀ (rs:List Int) (x:Wk) (os acc:List Int) (D:Nat->Int->Prop),CI h x os D->(∀ r∈rs,r=0\/r∈zaf h)->(zaK x acc rs).2.2=0 ->
 ∃ os' out,CI h (zaK x acc rs).1 os' D/\(zaK x acc rs).2.1=acc++out/\out.length=rs.length/\(∀ (i:Nat) (r w:Int),rs[i]?=some r->out[i]?=some w->Fw os' (zaK x acc rs).1.queue r w)/\(∃ m,os'=os++m)/\(∃ m,(zaK x acc rs).1.queue=x.queue++m)/\(zaK x acc rs).1.sc=x.sc
 | [],x,os,acc,D,C,_,_=>⟨os,[],C,by simp [zaK],rfl,(fun i r w h1=>by simp at h1),⟨[],by simp⟩,⟨[],by simp [zaK]⟩,rfl⟩
 | r::rs,x,os,acc,D,C,hr,he=>by
  rw [zaK]at he ⊢
  by_cases e0:evE x r=0
  · rw [if_pos e0]at he ⊢
    obtain ⟨os1,C1,⟨m1,p1⟩,⟨m2,p2⟩,F1⟩:=C.forward (hr r (qaX ..)) e0;obtain ⟨os',out,C2,q1,q2,q3,⟨m3,q4⟩,⟨m4,q5⟩,q6⟩:=zsF rs (evW x r) os1 (acc++[evA x r]) D C1 (fun c hc=>hr c (qaD _ hc)) he
    refine ⟨os',evA x r::out,C2,by rw [q1,qaG];rfl,by simp [q2],fun i r' w h1 h2=>?_,⟨m1++m3,by rw [q4,p1,qaG]⟩,⟨m2++m4,by rw [q5,p2,qaG]⟩,?_⟩
    · cases i with
      | zero=>
       simp only [qcI,Option.some.injEq]at h1 h2;subst h1 h2;exact F1.more ⟨_,q4⟩ ⟨_,q5⟩
      | succ i=>
       rw [qb2]at h1 h2;exact q3 i r' w h1 h2
    · rw [q6];exact (C.inv.forward e0).2.sc
  · rw [if_neg e0]at he;exact absurd he e0
end Go.VI.P
namespace Go.VI.P
open Go
open Go.RowKit
theorem zsr(x:Wk):∀ (n j:Nat),(frPs x n)[j]?=if j<n/\frB x j=true then (x.h.pages[j]?).map (fun _=>Pg.zero) else x.h.pages[j]?
 | 0,j=>by rw [if_neg (by omega)];rfl
 | n+1,j=>by
  have ih:=zsr x n j;rw [frPs];by_cases hf:frB x n=true
  · rw [if_pos hf,qaP];by_cases e:n=j
    · subst e;rw [if_pos rfl,zhq,if_pos (show n<n+1/\frB x n=true from ⟨by omega,hf⟩)]
      by_cases hl:n<x.h.pages.length
      · rw [if_pos hl,qal hl];rfl
      · rw [if_neg hl,qbN (by omega)];rfl
    · rw [if_neg e,ih];by_cases c:j<n/\frB x j=true
      · rw [if_pos c,if_pos ⟨by omega,c.2⟩]
      · rw [if_neg c,if_neg (fun d=>c ⟨by omega,d.2⟩)]
  · rw [if_neg hf,ih];by_cases c:j<n/\frB x j=true
    · rw [if_pos c,if_pos ⟨by omega,c.2⟩]
    · rw [if_neg c,if_neg (fun d=>c ⟨by
       by_cases e:j=n
       · subst e;exact absurd d.2 hf
       · omega,d.2⟩)]
theorem zsq(x:Wk)(h0:0<=x.h.pw)(hw:(x.h.words.length:Int)=x.h.pages.length*x.h.pw){j t:Nat}(hj:j<x.h.pages.length)(ht:t<x.h.pw.toNat):∀ n,n<=x.h.pages.length->(frWs x n)[j*x.h.pw.toNat+t]?=if j<n/\frB x j=true then some 0 else x.h.words[j*x.h.pw.toNat+t]?
 | 0,_=>by rw [if_neg (by omega)];rfl
 | n+1,hn=>by
  have ih:=zsq x h0 hw hj ht n (by omega)
  have hlen:=zhp x h0 hw n (by omega)
  have hpw:=zie (k:=n) h0 (by omega) hw
  rw [frWs];by_cases hf:frB x n=true
  · rw [if_pos hf];have hfit:n*x.h.pw.toNat+(List.replicate x.h.pw.toNat (0:Int)).length<=(frWs x n).length:=by rw [qa2,hlen];exact hpw
    by_cases e:j=n
    · subst e;rw [zdj hfit (by omega) (by rw [qa2];omega),if_pos ⟨by omega,hf⟩,show j*x.h.pw.toNat+t-j*x.h.pw.toNat=t from by omega,qbY,if_pos ht]
    · rw [zei hfit (by
       rw [qa2];by_cases hlt:j<n
       · left
         have:(j+1)*x.h.pw.toNat<=n*x.h.pw.toNat:=qaN _ (by omega)
         rw [qaI,qa3]at this;omega
       · right
         have:(n+1)*x.h.pw.toNat<=j*x.h.pw.toNat:=qaN _ (by omega)
         rw [qaI,qa3]at this;omega),ih]
      by_cases c:j<n/\frB x j=true
      · rw [if_pos c,if_pos ⟨by omega,c.2⟩]
      · rw [if_neg c,if_neg (fun d=>c ⟨by omega,d.2⟩)]
  · rw [if_neg hf,ih];by_cases c:j<n/\frB x j=true
    · rw [if_pos c,if_pos ⟨by omega,c.2⟩]
    · rw [if_neg c,if_neg (fun d=>c ⟨by
       by_cases e:j=n
       · subst e;exact absurd d.2 hf
       · omega,d.2⟩)]
theorem ziB{h:Hp}:∀ (l:List Int) (y:Wk),l.Pairwise (fun a b=>a+osz h a<=b)->(∀ a∈l,a∈zaf h)->y.h.words.length=h.words.length->(∀ a∈l,zfD y a=true->evWd y a=zao h.words a) ->
 (∀ p,(∀ a∈l,zfD y a=true->p<a\/a+osz h a<=p)->zao (l.foldl zau y).h.words p=zao y.h.words p) /\
 (∀ a∈l,zfD y a=true->zao (l.foldl zau y).h.words a=encV 0 (atH h a).n 0/\∀ j,1<=j->j<osz h a->zao (l.foldl zau y).h.words (a+j)=0)
 | [],y,_,_,_,_=>⟨fun p _=>rfl,(fun a ha=>nomatch ha)⟩
 | a::l,y,hp,hm,e,hev=>by
  obtain ⟨p1,p2⟩:=List.pairwise_cons.1 hp;rw [qbT];by_cases hb:zfD y a=true
  · have h1:=hev a (qaX ..) hb;have ha:=hm a (qaX ..);obtain ⟨e1,e2,e3,-⟩:=zdZ ha h1;obtain ⟨i,j,g,b⟩:=zai ha;have hpos:=b.pos;have hwl:=b.wl;have hen:(evH y a).n=(atH h a).n:=by unfold osz at e3;omega
    have hosz:osz h a=(atH h a).n+1:=rfl
    have hln:((zfC y a).length:Int)=osz h a:=by unfold zfC;rw [qaO,qa2];omega
    have hok:okA y.h.words.length a (zfC y a).length=true:=zaM.2 (by omega)
    have hW:(zau y a).h.words=zaz y.h.words a (zfC y a):=by unfold zau;rw [if_pos hb]
    have hv:zaD 0 (atH h a).n 0=true:=zgo (.inl rfl) (by omega) (zdT (zco ha).1).2.2.2.2.2 rfl
    have hfl:zfC y a=zch 0 (atH h a).n 0:=by
     unfold zfC zch;rw [hen,(zvk hv).1]
    obtain ⟨i1,i2,i3⟩:=zkS (xs:=y.h.words) (A:=a) (k:=0) (n:=(atH h a).n) (m:=0) (by omega) (by rw [<-hfl];exact hok)
    rw [<-hfl,<-hW]at i1 i2 i3;obtain ⟨q1,q2⟩:=ziB l (zau y a) p2 (fun c hc=>hm c (qaD _ hc)) (by rw [hW,zcB hok];exact e) (fun c hc hf=>by
     rw [zht]at hf;have h2:=hev c (qaD _ hc) hf;have h3:=p1 c hc;rw [<-h2];exact i3 c (by omega))
    refine ⟨fun p hpp=>?_,fun c hc hf=>?_⟩
    · rw [q1 p (fun c hc hf=>by rw [zht]at hf;exact hpp c (qaD _ hc) hf)]
      exact i3 p (by have:=hpp a (qaX ..) hb;omega)
    · rcases qas.1 hc with q | q
      · subst q;have hrest:∀ p,c<=p->p<c+osz h c->zao (l.foldl zau (zau y c)).h.words p=zao (zau y c).h.words p:=fun p z1 z2=>q1 p fun d hd _=>by have:=p1 d hd;omega
        refine ⟨?_,fun j j0 j1=>?_⟩
        · rw [hrest c (by omega) (by omega),i1,(zvk hv).1]
        · rw [hrest (c+j) (by omega) (by omega),show c+j=c+1+(j-1) from by omega]
          exact i2 (j-1) (by omega) (by omega)
      · exact q2 c q (by rw [zht];exact hf)
  · have hW:zau y a=y:=by unfold zau;rw [if_neg hb]
    rw [hW];obtain ⟨q1,q2⟩:=ziB l y p2 (fun c hc=>hm c (qaD _ hc)) e (fun c hc hf=>hev c (qaD _ hc) hf)
    refine ⟨fun p hpp=>q1 p fun c hc hf=>hpp c (qaD _ hc) hf,fun c hc hf=>?_⟩
    rcases qas.1 hc with q | q
    · rw [q]at hf;exact absurd hf hb
    · exact q2 c q hf
theorem zvg:∀ (l:List Int) (y:Wk),WB y.h.words->WB (l.foldl zau y).h.words
 | [],y,h=>h
 | a::l,y,h=>by
  rw [qbT];refine zvg l _ ?_;unfold zau;split
  · refine zdv h fun z hz=>?_
    unfold zfC at hz;rcases qas.1 hz with e | e
    · rw [e];exact zvl _
    · rw [List.eq_of_mem_replicate e];omega
  · exact h
def endH(x:Wk):Hp:={ (ztk (zaH x)).h with space:=1-(ztk (zaH x)).h.space,bump:=((ztk (zaH x)).taken.getLast?).getD (-1) }
structure EP (h:Hp) (x:Wk) (k:Nat) (g0:Pg):Prop where
 tk:(k:Int)∈x.taken->g0.kind=0/\frB (zaH x) k=false/\∃ u,(endH x).pages[k]?=some ⟨1,1-h.space,u,0⟩/\x.h.pages[k]?=some ⟨1,1-h.space,u,0⟩/\0<=u/\u<=h.pw
 k0:¬(k:Int)∈x.taken->g0.kind=0->frB (zaH x) k=false/\(endH x).pages[k]?=some g0
 k1:g0.kind=1->0<g0.pins->frB (zaH x) k=false/\(endH x).pages[k]?=some ⟨1,1-h.space,g0.used,g0.pins⟩
 k1':g0.kind=1->¬0<g0.pins->frB (zaH x) k=true/\(endH x).pages[k]?=some Pg.zero
 k2:g0.kind=2->bs h k∈x.queue->frB (zaH x) k=false/\(endH x).pages[k]?=some ⟨2,1-h.space,g0.used,g0.pins⟩
 k2':g0.kind=2->¬bs h k∈x.queue->frB (zaH x) k=true/\(endH x).pages[k]?=some Pg.zero
 k3:g0.kind=3->bs h (za0 h.pages k)∈x.queue->frB (zaH x) k=false/\(endH x).pages[k]?=some ⟨3,1-h.space,g0.used,g0.pins⟩
 k3':g0.kind=3->¬bs h (za0 h.pages k)∈x.queue->frB (zaH x) k=true/\(endH x).pages[k]?=some Pg.zero
theorem za3{h:Hp}{x:Wk}{os:List Int}{D:Nat->Int->Prop}(G:Good h)(C:CI h x os D){k:Nat}{g0:Pg}(hg:h.pages[k]?=some g0):EP h x k g0:=by
 have I:=C.inv;have hcf:=I.conf;obtain ⟨f1,f2,f3,f4,f5,f6,f7,f8⟩:=zeq x.old x;have hkl:=(qah.1 hg).1;have hpl:=I.pl;have hFp:(zaH x).h.pages=x.h.pages:=f3
 have hFs:(zaH x).h.space=h.space:=by rw [<-I.sp];exact f4
 have hP:∀ y,x.h.pages[k]?=some y->(frB (zaH x) k=decide (¬y.kind=0/\y.space=h.space))/\(endH x).pages[k]?=if ¬y.kind=0/\y.space=h.space then some Pg.zero else some y:=fun y hy=>by
  have e1:frB (zaH x) k=decide (¬y.kind=0/\y.space=h.space):=by
   unfold frB;rw [hFp,hFs,zar hy];by_cases c1:y.kind=0 <;> by_cases c2:y.space=h.space <;> simp [c1,c2]
  refine ⟨e1,?_⟩;show (frPs (zaH x) (zaH x).h.pages.length)[k]?=_
  rw [zsr,hFp,hy,e1];by_cases c:¬y.kind=0/\y.space=h.space
  · rw [if_pos c,if_pos ⟨by omega,qab c⟩];rfl
  · rw [if_neg c,if_neg (fun d=>c (qar d.2))]
 have keep:∀ y,x.h.pages[k]?=some y->y.space=1-h.space->frB (zaH x) k=false/\(endH x).pages[k]?=some y:=fun y hy hs=>by
  obtain ⟨a,b⟩:=hP y hy;have c:¬(¬y.kind=0/\y.space=h.space):=fun c=>by omega
  rw [if_neg c]at b;exact ⟨by rw [a];exact qaj c,b⟩
 have gone:∀ y,x.h.pages[k]?=some y->¬y.kind=0->y.space=h.space->frB (zaH x) k=true/\(endH x).pages[k]?=some Pg.zero:=fun y hy hk hs=>by
  obtain ⟨a,b⟩:=hP y hy;rw [if_pos ⟨hk,hs⟩]at b;exact ⟨by rw [a];exact qab ⟨hk,hs⟩,b⟩
 have nt:¬g0.kind=0->¬(k:Int)∈x.taken:=fun c ht=>by
  obtain ⟨k2,g1,g,e0,e1,e2,-⟩:=I.tk _ ht;obtain rfl:k=k2:=by omega
  rw [hg]at e1;injection e1 with e1;rw [<-e1]at e2;exact c e2
 refine ⟨fun ht=>?_,fun hn h0=>?_,fun h1 hp=>?_,fun h1 hp=>?_,fun h2 hq=>?_,fun h2 hq=>?_,fun h3 hq=>?_,fun h3 hq=>?_⟩
 · obtain ⟨u,l,t1,t2,t3⟩:=C.tile k ht;obtain ⟨k2,g1,g,e0,e1,e2,e3,e4,e5,e6⟩:=I.tk _ ht;obtain rfl:k=k2:=by omega
   rw [hg]at e1;injection e1 with e1
   rw [t1]at e3;injection e3 with e3
   obtain ⟨a,b⟩:=keep _ t1 rfl;exact ⟨by rw [e1];exact e2,a,u,b,t1,by rw [<-e3]at e5;exact e5,by rw [<-e3]at e6;exact e6⟩
 · obtain ⟨s,q1,q2,-⟩:=C.ppg k g0 hg hn;obtain ⟨a,b⟩:=hP _ q1;have c:¬(¬g0.kind=0/\s=h.space):=fun c=>c.1 h0
   rw [if_neg c]at b;exact ⟨by rw [a];exact qaj c,by rw [b,q2 h0]⟩
 · obtain ⟨s,q1,-,q3,-⟩:=C.ppg k g0 hg (nt (by omega))
   rw [q3 h1,if_pos hp,h1]at q1;exact keep _ q1 rfl
 · obtain ⟨s,q1,-,q3,-⟩:=C.ppg k g0 hg (nt (by omega))
   rw [q3 h1,if_neg hp]at q1;exact gone _ q1 (by show ¬g0.kind=0;omega) rfl
 · obtain ⟨s,q1,-,-,q4,-⟩:=C.ppg k g0 hg (nt (by omega))
   rw [q4 h2,if_pos hq,h2]at q1;exact keep _ q1 rfl
 · obtain ⟨s,q1,-,-,q4,-⟩:=C.ppg k g0 hg (nt (by omega))
   rw [q4 h2,if_neg hq]at q1;exact gone _ q1 (by show ¬g0.kind=0;omega) rfl
 · obtain ⟨s,q1,-,-,-,q5⟩:=C.ppg k g0 hg (nt (by omega))
   rw [q5 h3,if_pos hq,h3]at q1;exact keep _ q1 rfl
 · obtain ⟨s,q1,-,-,-,q5⟩:=C.ppg k g0 hg (nt (by omega))
   rw [q5 h3,if_neg hq]at q1;exact gone _ q1 (by show ¬g0.kind=0;omega) rfl
theorem zhx{h:Hp}{x:Wk}{os:List Int}{D:Nat->Int->Prop}(C:CI h x os D){k:Nat}{p:Int}(hk:k<h.pages.length)(h1:bs h k<=p)(h2:p<bs h k+h.pw):
 zao (endH x).words p=if frB (zaH x) k=true then 0 else zao (zaH x).h.words p:=by
 have I:=C.inv;have hcf:=I.conf;obtain ⟨f1,f2,f3,f4,f5,f6,f7,f8⟩:=zeq x.old x;have hFp:(zaH x).h.pages=x.h.pages:=f3
 have hFw:(zaH x).h.pw=h.pw:=by rw [<-I.pw];exact f1
 have hFl:=I.fill;have hpl:=I.pl;have hlen:((zaH x).h.words.length:Int)=(zaH x).h.pages.length*(zaH x).h.pw:=by
  rw [hFp,hFw,hFl,hpl];have e1:=hcf.2.2.2.2.1;have e2:=hcf.2.2.2.2.2.1;rw [e1,<-e2]
 obtain ⟨t,ht⟩:∃ t:Nat,p=bs h k+t:=⟨(p-bs h k).toNat,by omega⟩
 subst ht;have hg:=zsq (zaH x) (by rw [hFw];omega) hlen (j:=k) (t:=t) (by rw [hFp];omega) (by rw [hFw];omega) (zaH x).h.pages.length (qan _)
 have hidx:(bs h k+t-4096).toNat=k*(zaH x).h.pw.toNat+t:=by
  rw [hFw];have e:((k*h.pw.toNat+t:Nat):Int)=(k:Int)*h.pw+t:=by
   rw [Int.natCast_add,qcg,qco (by omega)]
  unfold bs;omega
 have h0:0<=(k:Int)*h.pw:=qa4 (by omega) (by omega)
 have h4:4096<=bs h k+t:=by unfold bs;omega
 show zao (frWs (zaH x) (zaH x).h.pages.length) (bs h k+t)=_
 rw [zbK _ h4,zbK _ h4,hidx,hg];by_cases c:frB (zaH x) k=true
 · rw [if_pos c,if_pos ⟨by rw [hFp];omega,c⟩];rfl
 · rw [if_neg c,if_neg (fun d=>c d.2)]
end Go.VI.P
namespace Go.VI.P
open Go
open Go.RowKit
theorem zst{h:Hp}{x:Wk}{os:List Int}{D:Nat->Int->Prop}(C:CI h x os D){a:Int}{i j:Nat}{g:Pg}(b:Begins h a i j g):zfD x a=true↔g.kind=1/\0<g.pins/\¬a∈x.queue:=by
 have I:=C.inv;have hcf:=I.conf;have hnt:=I.begun b;obtain ⟨s,q1,-,q3,-⟩:=C.ppg i g b.pg hnt;unfold zfD;rw [I.pw,I.np,b.oi];have hp:zd9 x (i:Int)=(decide (g.kind=1) && !decide (s=h.space)):=by
  unfold zd9;rw [qad,q1,I.sp];have e1:decide (0<=(i:Int))=true:=qab (by omega)
  have e2:decide ((i:Int)∈x.taken)=false:=qaj hnt
  dsimp only;rw [e1,e2];cases decide (g.kind=1) <;> cases decide (s=h.space) <;> rfl
 rw [hp];simp only [qae,qaa,qap,qaf];constructor
 · rintro ⟨⟨k1,k2⟩,k3⟩;refine ⟨k1,qaY fun c=>k2 ?_,k3⟩
   rw [q3 k1,if_neg c]
 · rintro ⟨k1,k2,k3⟩;refine ⟨⟨k1,?_⟩,k3⟩;rw [q3 k1,if_pos k2];omega
theorem ziC{h:Hp}{x:Wk}{os:List Int}{D:Nat->Int->Prop}(C:CI h x os D):
 (∀ p,(∀ a∈zaf h,zfD x a=true->p<a\/a+osz h a<=p)->zao (zaH x).h.words p=zao x.h.words p) /\
 (∀ a∈zaf h,zfD x a=true->zao (zaH x).h.words a=encV 0 (atH h a).n 0/\∀ j,1<=j->j<osz h a->zao (zaH x).h.words (a+j)=0):=by
 have I:=C.inv;have hf:=ziB (zaf h) x (zdc h) (fun a ha=>ha) I.wl (fun a ha hb=>by
  obtain ⟨i,j,g,b⟩:=zai ha;rcases I.un a ha with c | ⟨-,-,c3⟩
  · exact c
  · unfold zfD at hb;rw [I.pw,I.np,c3]at hb;cases hb)
 rw [<-I.old]at hf;rw [<-I.old];exact hf
theorem zeH{h:Hp}{x:Wk}{os:List Int}{D:Nat->Int->Prop}(G:Good h)(C:CI h x os D){q:Int}(hq:q∈x.queue){j:Int}(j0:0<=j)(j1:j<evN x q):zao (endH x).words (q+j)=zao x.h.words (q+j):=by
 have I:=C.inv;have hcf:=I.conf;have hc:=(zan I.ok).1;obtain ⟨f1,f2⟩:=ziC C;have hF:zao (zaH x).h.words (q+j)=zao x.h.words (q+j):=by
  refine f1 _ fun a ha hb=>?_
  obtain ⟨i,j',g,b⟩:=zai ha;have hnq:=((zst C b).1 hb).2.2;rcases I.qs q hq with c | c
  · have hne:q≠a:=fun e=>hnq (by rw [<-e];exact hq)
    have:=zcL c ha hne
    rw [(zdZ c (I.kept c hq)).2.1]at j1;omega
  · have:=I.old_copy ha c
    omega
 rcases I.qs q hq with c | c
 · rw [(zdZ c (I.kept c hq)).2.1]at j1;obtain ⟨i,j',g,b⟩:=zai c;have hon:=ze7 b;obtain ⟨u1,u2,u3,u4⟩:=b.upto;have hpos:=b.pos;have hwl:=b.wl;obtain ⟨k,t,e,hk,ht⟩:=zmt hc (p:=q+j) (by omega) (by omega)
   have hkl:k<h.pages.length:=by omega
   have hb1:bs h k<=q+j:=by unfold bs;omega
   have hb2:q+j<bs h k+h.pw:=by unfold bs;omega
   rw [zhx C hkl hb1 hb2,<-hF];have hnf:frB (zaH x) k=false:=by
    rcases C.kp q hq c i j' g b with k2 | ⟨k1,k1p⟩
    · by_cases eki:k=i
      · subst eki;have hqb:q=bs h k:=by
         rcases b.kd with ⟨z,-⟩ | ⟨-,z,-⟩
         · omega
         · have:=b.ad;unfold bs;omega
        exact ((za3 G C b.pg).k2 k2 (by rw [<-hqb];exact hq)).1
      · have hlo:i<k:=by
         refine qaY fun z=>?_
         have:=zl5 (h:=h) (by omega) (show k<i by omega)
         omega
        have hhi:(k:Int)<i+zdl h g:=by
         refine qaY fun z=>?_
         have:((i:Int)+zdl h g)*h.pw<=(k:Int)*h.pw:=qaK (by omega) (by omega)
         unfold bs at hb1;omega
        obtain ⟨y,y1,y2⟩:=u4 k hlo hhi;have hhd:za0 h.pages k=i:=by
         obtain ⟨d,rfl⟩:∃ d,k=i+d:=⟨k-i,by omega⟩
         refine zdL (by rw [zar b.pg];omega) d fun t2 z1 z2=>?_
         obtain ⟨y',y1',y2'⟩:=u4 t2 z1 (by omega)
         rw [zar y1'];exact y2'
        have hqb:q=bs h i:=by
         rcases b.kd with ⟨z,-⟩ | ⟨-,z,-⟩
         · omega
         · have:=b.ad;unfold bs;omega
        exact ((za3 G C y1).k3 y2 (by rw [hhd,<-hqb];exact hq)).1
    · have eki:k=i:=by
       refine zc5 (h:=h) (by omega) hb1 hb2 (by omega) ?_
       rcases b.kd with ⟨-,z1,z2⟩ | ⟨z,-⟩
       · have:=b.ad;unfold bs;omega
       · omega
      subst eki;exact ((za3 G C b.pg).k1 k1 k1p).1
   rw [hnf];rfl
 · obtain ⟨k,g,d1,d2,d3,d4,d5⟩:=c;obtain ⟨k3,y0,y3,l0,l1,l2,l3,l4,l5,l6⟩:=I.tk _ d1;obtain rfl:k=k3:=by omega
   rw [d2]at l3;injection l3 with l3;subst l3
   rw [I.pw]at d3 d5;have hkl:=(qah.1 l1).1;rw [zhx C hkl (by unfold bs;omega) (by unfold bs;omega),<-hF,((za3 G C l1).tk d1).2.1];rfl
theorem znS{h:Hp}{x:Wk}(I:Inv h x):(endH x).pw=h.pw/\(endH x).np=h.np/\(endH x).space=1-h.space/\(endH x).pages.length=h.pages.length/\(endH x).words.length=h.words.length/\(endH x).bump=(x.taken.getLast?).getD (-1):=by
 have hcf:=I.conf;obtain ⟨f1,f2,f3,f4,f5,f6,f7,f8⟩:=zeq x.old x;have hFp:(zaH x).h.pages=x.h.pages:=f3
 have hFw:(zaH x).h.pw=h.pw:=by rw [<-I.pw];exact f1
 have hFl:=I.fill;have hpl:=I.pl;refine ⟨hFw,by rw [<-I.np];exact f2,?_,?_,?_,?_⟩
 · show 1-(zaH x).h.space=_
   rw [show (zaH x).h.space=x.h.space from f4,I.sp]
 · show (frPs (zaH x) (zaH x).h.pages.length).length=_
   rw [zhq,hFp,hpl]
 · show (frWs (zaH x) (zaH x).h.pages.length).length=_
   rw [zhp _ (by rw [hFw];omega) ?_ _ (qan _),hFl]
   rw [hFp,hFw,hFl,hpl];have e1:=hcf.2.2.2.2.1;have e2:=hcf.2.2.2.2.2.1;rw [e1,<-e2]
 · show ((zaH x).taken.getLast?).getD (-1)=_
   rw [show (zaH x).taken=x.taken from f5]
theorem zw8{h:Hp}{x:Wk}{os:List Int}{D:Nat->Int->Prop}(G:Good h)(C:CI h x os D):okH (endH x)=true:=by
 have I:=C.inv;have hcf:=I.conf;obtain ⟨s1,s2,s3,s4,s5,s6⟩:=znS I;obtain ⟨p1,p2,p3,p4,p5,p6⟩:=za2 (h:=h) (by unfold okP;rw [zce];exact I.ok)
 have p7:=(zan I.ok).2.2.2.2.2.2;have hsp:zcG (1-h.space)=true:=zeC.2 (by omega)
 have hcase:∀ (k:Nat) (y:Pg),(endH x).pages[k]?=some y->∃ g0,h.pages[k]?=some g0:=fun k y hy=>by
  have:=(qah.1 hy).1
  exact ⟨h.pages[k],qal (by omega)⟩
 have hno2:∀ (k:Nat) (g0:Pg),h.pages[k]?=some g0->¬g0.kind=2->¬((endH x).pages.getD k Pg.zero).kind=2:=fun k g0 hg hk=>by
  have E:=za3 G C hg;have hm:=zaI _ _ _ _ p7 g0 (qav hg);rcases hm.2.2.2.2.2.2.2.2 with c | c | c | c
  · by_cases ht:(k:Int)∈x.taken
    · obtain ⟨-,-,u,e,-⟩:=E.tk ht;rw [zar e];show ¬(1:Int)=2;decide
    · rw [zar (E.k0 ht c).2];omega
  · by_cases hp:0<g0.pins
    · rw [zar (E.k1 c hp).2];show ¬(1:Int)=2;decide
    · rw [zar (E.k1' c hp).2];show ¬(0:Int)=2;decide
  · exact absurd c hk
  · by_cases hq:bs h (za0 h.pages k)∈x.queue
    · rw [zar (E.k3 c hq).2];show ¬(3:Int)=2;decide
    · rw [zar (E.k3' c hq).2];show ¬(0:Int)=2;decide
 have hT:zbi (endH x).pw (endH x).np (endH x).pages=true:=by
  rw [s1,s2,za9];intro k y hy;obtain ⟨g0,hg⟩:=hcase k y hy;have E:=za3 G C hg;have hm:=zaI _ _ _ _ p7 g0 (qav hg);have hpo:=za9.1 p6 k g0 hg;have hzero:zbq h.pw h.np (endH x).pages k Pg.zero=true:=by unfold zbq;rw [if_pos (show Pg.zero.kind=0 from rfl)];decide
  rcases hm.2.2.2.2.2.2.2.2 with c | c | c | c
  · by_cases ht:(k:Int)∈x.taken
    · obtain ⟨-,-,u,e,-,u0,u1⟩:=E.tk ht;rw [e]at hy;injection hy with hy;subst hy
      unfold zbq;rw [if_neg (by show ¬(1:Int)=0;decide),if_pos (by show (1:Int)=1;rfl)]
      unfold zcZ;dsimp only;rw [hsp,qab (show 0<=u/\u<=h.pw from ⟨u0,u1⟩)];decide
    · rw [(E.k0 ht c).2]at hy;injection hy with hy;subst hy
      rw [hm.2.2.2.2.1 c];exact hzero
  · by_cases hp:0<g0.pins
    · rw [(E.k1 c hp).2]at hy;injection hy with hy;subst hy
      unfold zbq at hpo ⊢
      rw [if_neg (by omega),if_pos c]at hpo
      rw [if_neg (by show ¬(1:Int)=0;decide),if_pos (by show (1:Int)=1;rfl)]
      unfold zcZ at hpo ⊢
      simp only [qae]at hpo ⊢;exact ⟨⟨hsp,hpo.1.2⟩,hpo.2⟩
    · rw [(E.k1' c hp).2]at hy;injection hy with hy;subst hy;exact hzero
  · by_cases hq:bs h k∈x.queue
    · rw [(E.k2 c hq).2]at hy;injection hy with hy;subst hy
      unfold zbq at hpo ⊢
      rw [if_neg (by omega),if_neg (by omega),if_pos c]at hpo
      rw [if_neg (by show ¬(2:Int)=0;decide),if_neg (by show ¬(2:Int)=1;decide),if_pos (by show (2:Int)=2;rfl)]
      unfold zcp at hpo ⊢
      simp only [qae]at hpo ⊢;obtain ⟨⟨⟨⟨o1,o2⟩,o3⟩,o4⟩,o5⟩:=hpo;refine ⟨⟨⟨⟨hsp,o2⟩,o3⟩,by rw [s4];exact o4⟩,?_⟩
      obtain ⟨t1,t2,t3⟩:=zdJ p7 hg c;rw [zbY];intro t z1 z2 z hz;obtain ⟨y',y1,y2,-⟩:=t3 t (by omega) (by omega)
      have hhd:za0 h.pages t=k:=by
       obtain ⟨d,rfl⟩:∃ d,t=k+d:=⟨t-k,by omega⟩
       refine zdL (by rw [zar hg];omega) d fun t2 w1 w2=>?_
       obtain ⟨y'',y1',y2',-⟩:=t3 t2 w1 (by omega)
       rw [zar y1'];exact y2'
      rw [((za3 G C y1).k3 y2 (by rw [hhd];exact hq)).2]at hz
      injection hz with hz
      subst hz;exact ⟨rfl,rfl⟩
    · rw [(E.k2' c hq).2]at hy;injection hy with hy;subst hy;exact hzero
  · by_cases hq:bs h (za0 h.pages k)∈x.queue
    · rw [(E.k3 c hq).2]at hy;injection hy with hy;subst hy
      unfold zbq at hpo ⊢
      rw [if_neg (by omega),if_neg (by omega),if_neg (by omega),if_pos c]at hpo
      rw [if_neg (by show ¬(3:Int)=0;decide),if_neg (by show ¬(3:Int)=1;decide),if_neg (by show ¬(3:Int)=2;decide),if_pos (by show (3:Int)=3;rfl)]
      unfold zdW at hpo ⊢
      simp only [qae]at hpo ⊢;refine ⟨hpo.1,?_⟩;have ho:=hpo.2;unfold zfq at ho ⊢
      rw [zcJ]at ho ⊢
      obtain ⟨l,l1,l2,l3,l4⟩:=ho;have hkl:=(qah.1 hg).1;have hl:h.pages[l]?=some h.pages[l]:=qal (by omega)
      rw [zar hl]at l2 l4;generalize h.pages[l]=yl at hl l2 l4
      obtain ⟨t1,t2,t3⟩:=zdJ p7 hl l2;have hhd:za0 h.pages k=l:=by
       obtain ⟨d,rfl⟩:∃ d,k=l+d:=⟨k-l,by omega⟩
       refine zdL (by rw [zar hl];omega) d fun t w1 w2=>?_
       obtain ⟨z,z1,z2,-⟩:=t3 t w1 (by omega)
       rw [zar z1];exact z2
      rw [hhd]at hq;have hlE:=((za3 G C hl).k2 l2 hq).2;refine ⟨l,l1,by rw [zar hlE],fun m m1 m2=>?_,by rw [zar hlE];exact l4⟩
      have hmm:h.pages[m]?=some h.pages[m]:=qal (by omega)
      have:=l3 m m1 m2
      rw [zar hmm]at this;exact hno2 m _ hmm this
    · rw [(E.k3' c hq).2]at hy;injection hy with hy;subst hy;exact hzero
 have hB:zdS (endH x).pages (endH x).bump=true:=by
  rw [s6];cases hl:x.taken.getLast? with
  | none=>unfold zdS;exact qab (.inl rfl)
  | some t=>
   have ht:=qcG hl;obtain ⟨k,g1,g,e0,e1,e2,-⟩:=I.tk t ht;subst e0;obtain ⟨-,-,u,e,-⟩:=(za3 G C e1).tk ht;exact zj9 e rfl
 have:=zoO (h:=endH x) (by rw [s1,s2];exact p1) (by rw [s5,s1,s2];exact p2) (by rw [s4,s2];exact p3) (by rw [s3];exact hsp) hB hT
 unfold okP at this;rw [zce]at this;exact this
end Go.VI.P
