import Derived.Test.YtlkibcnhdjmfjaaGreatW03
import Derived.Test.YtlkibcnhdjmfjaaGreatW04
import Derived.Test.YtlkibcnhdjmfjaaGreatW06
import Derived.Test.YtlkibcnhdjmfjaaGreatW08
import Derived.Test.YtlkibcnhdjmfjaaGreatW10
import Derived.Test.YtlkibcnhdjmfjaaGreatW11
set_option linter.unusedSimpArgs false
set_option linter.unusedVariables false
set_option maxRecDepth 100000
set_option maxHeartbeats 4000000
noncomputable section
namespace Go.VI
open Go Go.Proofs
def first{α:Type}:Tree α->Option α
 | .leaf a=>some a
 | .need _ k=>first k
 | .br _ a _=>first a
 | _=>none
def outW(o:Option Out):List Wr:=(o.getD (.ret,0,[])).2.2
def entC(E:Entry)(r:Rden E.rs×Oden E.ps):Ent:=(⟨E.f,E.sh,E.ps,E.rs,fun _=>some r⟩:Entry).ent
abbrev AdR:=(Int×Int×Unit)×Unit
abbrev AtR:=((Int×Int×Int×Unit)×Int×Unit)×Unit
abbrev SzR:=(Int×Unit)×Unit
def WA(d:Pden psP)(v:Int):List Wr:=outW (first (runCode te tblP [] 46 (cAt [1,1,1,0] c81) 0 67 (hdP d v)))
theorem cA_eq(d:Pden psP)(v:Int):rcP (cAt [1,1,1,0] c81) 0 67 (hdP d v)=cond (inB d.2.1 d.1.2.2.1.length) (cond (decide (v<(d.1.2.2.1.getD d.2.1.toNat (0,0,0,0,())).2.2.1)) (some (.normal,579,WA d v)) (some (.exit 0,579,WA d v))) none:=by kernel_rfl
def ppA(d:Pden psP)(v:Int):List Wr:=frzW (WA d v++hdP d v)
def WB(d:Pden psP)(v:Int)(r:AdR):List Wr:=outW (runCode te [entC E_page_Address r] [] 46 (cAt [1,1,1,1,1,0] c81) 1 579 (ppA d v)).ev
theorem cB_eq(d:Pden psP)(v:Int):rcP (cAt [1,1,1,1,1,0] c81) 1 579 (ppA d v)=(F_page_Address (d.1.1,d.2.1,v,())).bind fun r=>some (.normal,1219,WB d v r):=by kernel_rfl
def ppB(d:Pden psP)(v:Int)(r:AdR):List Wr:=frzW (WB d v r++ppA d v)
def WC(d:Pden psP)(v:Int)(r:AdR)(q:AtR):List Wr:=outW (runCode te [entC E_object_At q] [] 46 (cAt [1,1,1,1,1,1,0] c81) 1 1219 (ppB d v r)).ev
theorem cC_eq(d:Pden psP)(v:Int)(r:AdR):rcP (cAt [1,1,1,1,1,1,0] c81) 1 1219 (ppB d v r)=(F_object_At (d.1,r.1.1,())).bind fun q=>some (.normal,1795,WC d v r q):=by kernel_rfl
def pp2(d:Pden psP)(v:Int)(r:AdR)(q:AtR):List Wr:=frzW (WC d v r q++ppB d v r)
def WY(d:Pden psP)(v:Int)(r:AdR)(q:AtR):List Wr:=(zaZ te tblP ops81 46 1795 (zbv ops81) none (List.range 5) (pp2 d v r q) []).ev.getD []
theorem wY_eq(d:Pden psP)(v:Int)(r:AdR)(q:AtR):(zaZ te tblP ops81 46 1795 (zbv ops81) none (List.range 5) (pp2 d v r q) []).ev=some (WY d v r q):=by kernel_rfl
theorem yP_eq(d:Pden psP)(v:Int)(r:AdR)(q:AtR):(zil 31).evs (look (frzW (WY d v r q++pp2 d v r q)))=some ():=by kernel_rfl
def xP(r:AdR)(q:AtR):Tden tsW:=(r.1.1,(q.1.1,(q.1.2.1,())),())
theorem xP_eq(d:Pden psP)(v:Int)(r:AdR)(q:AtR):(zmJ tsW [.tmp 32,.tmp 35]).evs (look (frzW (WY d v r q++pp2 d v r q)))=some (xP r q):=by kernel_rfl
def WT(b:Bool)(d:Pden psP)(v:Int)(r:AdR)(q:AtR):List Wr:=(zaZ te tblP ops81 46 1795 (zbv ops81) none (List.range' 6 5) (kbW 36 b::frzW (WY d v r q++pp2 d v r q)) []).ev.getD []
theorem wTt_eq(d:Pden psP)(v:Int)(r:AdR)(q:AtR):(zaZ te tblP ops81 46 1795 (zbv ops81) none (List.range' 6 5) (kbW 36 true::frzW (WY d v r q++pp2 d v r q)) []).ev=some (WT true d v r q):=by kernel_rfl
theorem wTf_eq(d:Pden psP)(v:Int)(r:AdR)(q:AtR):(zaZ te tblP ops81 46 1795 (zbv ops81) none (List.range' 6 5) (kbW 36 false::frzW (WY d v r q++pp2 d v r q)) []).ev=some (WT false d v r q):=by kernel_rfl
def pp3(b:Bool)(d:Pden psP)(v:Int)(r:AdR)(q:AtR):List Wr:=frzW (WT b d v r q++(kbW 36 b::frzW (WY d v r q++pp2 d v r q)))
theorem cF_eq(d:Pden psP)(v:Int)(r:AdR)(q:AtR):rcP (cAt [1,1,1,1,1,1,1,0,1] c81) 1 (1795+64*11) (pp3 false d v r q)=some (.ret,2499,[]):=by kernel_rfl
theorem cT_eq(d:Pden psP)(v:Int)(r:AdR)(q:AtR):rcP (cAt [1,1,1,1,1,1,1,0,1] c81) 1 (1795+64*11) (pp3 true d v r q)=cond (errB (xP r q)) (some (.ret,2499,[])) (some (.normal,2499,[])):=by kernel_rfl
def pp4(d:Pden psP)(v:Int)(r:AdR)(q:AtR):List Wr:=frzW ([]++pp3 true d v r q)
def WE(d:Pden psP)(v:Int)(r:AdR)(q:AtR)(u:SzR):List Wr:=outW (runCode te [entC E_header_Size u] [] 46 (cAt [1,1,1,1,1,1,1,1] c81) 1 2499 (pp4 d v r q)).ev
theorem cE_eq(d:Pden psP)(v:Int)(r:AdR)(q:AtR):rcP (cAt [1,1,1,1,1,1,1,1] c81) 1 2499 (pp4 d v r q)=(F_header_Size (q.1.1,())).bind fun u=>some (.normal,2819,WE d v r q u):=by kernel_rfl
theorem vE_eq(d:Pden psP)(v:Int)(r:AdR)(q:AtR)(u:SzR):(zv2 4).evs (look (frzW (WE d v r q u++pp4 d v r q)))=some (IntKind.i64.wrap (v+u.1.1)):=by kernel_rfl
theorem uE_eq(d:Pden psP)(v:Int)(r:AdR)(q:AtR)(u:SzR):zci zjy (WE d v r q u++([]++(WT true d v r q++(kbW 36 true::(WY d v r q++(WC d v r q++(WB d v r++WA d v)))))))=true:=by kernel_rfl
theorem zvT(d:Pden psP)(v:Int):zbT d v=cond (inB d.2.1 d.1.2.2.1.length) (cond (decide (v<(d.1.2.2.1.getD d.2.1.toNat (0,0,0,0,())).2.2.1)) ((F_page_Address (d.1.1,d.2.1,v,())).bind fun r=>(F_object_At (d.1,r.1.1,())).bind fun q=>
 cond (errB (xP r q)) (some (.inl (xP r q,none))) ((F_header_Size (q.1.1,())).bind fun u=>some (.inl (xP r q,some (IntKind.i64.wrap (v+u.1.1)))))) (some (.inr ()))) none:=by
 unfold zbT;rw [cA_eq];cases inB d.2.1 d.1.2.2.1.length with
 | false=>rfl
 | true=>
 cases decide (v<(d.1.2.2.1.getD d.2.1.toNat (0,0,0,0,())).2.2.1) with
 | false=>rfl
 | true=>
 simp only [qah,qab];rw [show frzW (WA d v++hdP d v)=ppA d v from rfl,cB_eq]
 cases F_page_Address (d.1.1,d.2.1,v,()) with
 | none=>rfl
 | some r=>
 simp only [qab];rw [show frzW (WB d v r++ppA d v)=ppB d v r from rfl,cC_eq]
 cases F_object_At (d.1,r.1.1,()) with
 | none=>rfl
 | some q=>
 simp only [qab];rw [show frzW (WC d v r q++ppB d v r)=pp2 d v r q from rfl,wY_eq]
 simp only [qab];rw [yP_eq];simp only [qab];rw [xP_eq];simp only [qab,tailP];rw [wTf_eq];simp only [qab];rw [show frzW (WT false d v r q++(kbW 36 false::frzW (WY d v r q++pp2 d v r q)))=pp3 false d v r q from rfl,cF_eq]
 simp only [qab];rw [wTt_eq];simp only [qab];rw [show frzW (WT true d v r q++(kbW 36 true::frzW (WY d v r q++pp2 d v r q)))=pp3 true d v r q from rfl,cT_eq]
 cases he:errB (xP r q) with
 | true=>rfl
 | false=>
 simp only [qag,qab];rw [show frzW ([]++pp3 true d v r q)=pp4 d v r q from rfl,cE_eq]
 cases F_header_Size (q.1.1,()) with
 | none=>rfl
 | some u=>
 simp only [qab];rw [vE_eq];simp only [qab];rw [uE_eq]
 rfl
end Go.VI
namespace Go.VI
open Go
theorem za6(a b c:Int):F_page_within (a,b,c,())=some ((decide (b<=a/\a<=c),()),()):=by
 rw [zlU];dsimp only
 rw [cand,Bool.decide_and]
theorem zbB(pw np:Int):F_page_ValidConf ((pw,np,()),())=some ((confB pw np,()),()):=by
 rw [zib];dsimp only
 rw [za6,za6,qab,qab];dsimp only;have e:confB pw np=(decide (16<=pw/\pw<=64)&&(pw.tmod 4 == 0)&&decide (8<=np/\np<=64)):=by
  rw [qbb,zaV];simp only [qae,qaa,qaC];omega
 rw [e];cases decide (16<=pw/\pw<=64) <;> cases (pw.tmod 4 == 0) <;> rfl
theorem zlp(pw np:Int):F_page_size ((pw,np,()),())=some ((W (pw*np),()),()):=by
 rw [zpk]
theorem zdY(n:Int):F_page_isSpace (n,())=some ((P.zcA n,()),()):=by
 rw [zkz];dsimp only
 rw [cor];unfold P.zcA
 rw [Bool.decide_or];rfl
theorem zhB(n:Int):F_page_isPins (n,())=some ((P.zeO n,()),()):=by
 rw [zlV];dsimp only
 rw [za6,qab]
 rfl
theorem zee(pw np:Int):F_page_SmallWords ((pw,np,()),())=some ((P.zdG pw np,()),()):=by
 rw [zgS];dsimp only
 rw [zbB,qab];dsimp only;cases hc:confB pw np
 · rw [P.zvW (by rw [zaH];exact hc)];rfl
 · have c:=zaV.1 hc;rw [P.znd (by rw [zaH];exact hc)]
   have hq:W (pw.tdiv 4)=pw / 4:=by rw [qbv (by omega)];exact W_id (by omega)
   rw [hq];rfl
theorem zgt(pw np n:Int):F_page_Need ((pw,np,()),n,())=some ((P.zau pw np n,()),()):=by
 rw [zpl];dsimp only
 rw [zbB,za6,zee,qab,qab,qab];dsimp only;cases hc:confB pw np
 · rw [P.zgh (.inl (by rw [zaH];exact hc))];rfl
 have c:=zaV.1 hc;have hc':P.confB pw np=true:=by rw [zaH];exact hc
 have w4:W (4*pw)=4*pw:=W_id (by omega)
 rw [w4,P.znd hc'];by_cases h1:1<=n/\n<=4*pw
 · rw [qac h1,P.zgg hc' h1.1];by_cases h2:n<=pw / 4
   · rw [qac h2,P.zq8 h2];rfl
   · rw [qaj h2,P.zu2 (by omega) (by omega) (by omega) (by omega)]
     have w1:W (n+pw)=n+pw:=W_id (by omega)
     have w2:W (n+pw-1)=n+pw-1:=W_id (by omega)
     rw [w1,w2,qbv (by omega)]
     have hd:=Int.ediv_le_self (a:=n+pw-1) pw (by omega)
     have hd0:=qbP (a:=n+pw-1) (b:=pw) (by omega) (by omega)
     rw [W_id (by omega)]
     have hpw:(!pw == 0)=true:=by simp;omega
     rw [hpw];rfl
 · rw [qaj h1];have:P.zau pw np n = -1:=by
    by_cases h2:n<1
    · exact P.zgh (.inr h2)
    · rw [P.zgg hc' (by omega)]
      exact P.ztm (by omega) (by omega) (by omega)
   rw [this];rfl
theorem ziE(pw np:Int)(ps:List PgD)(k:Nat)(hk:k<ps.length)(h0:(ps.getD k PG0).1=0):F_page_table_free (((pw,np,()),ps,()),(k:Int),())=some ((P.zpH (toPg (ps.getD k PG0)),()),()):=by
 rw [zgR];dsimp only
 rw [zaj.2 ⟨by omega,by omega⟩,qad,h0]
 generalize ps.getD k PG0=X
 obtain ⟨a,b,c,d,_⟩:=X;have:P.zpH (toPg (a,b,c,d,()))=((b == 0)&&((c == 0)&&((d == 0)&&true))):=by
  show decide (b=0/\c=0/\d=0)=_
  rw [qbb,qaa];simp
 rw [this];rfl
theorem zhy(pw np:Int)(ps:List PgD)(k:Nat)(hk:k<ps.length):F_page_table_small (((pw,np,()),ps,()),(k:Int),())=some ((P.zdS pw (toPg (ps.getD k PG0)),()),()):=by
 rw [zf9];dsimp only
 rw [zaj.2 ⟨by omega,by omega⟩,qad]
 generalize ps.getD k PG0=X
 obtain ⟨a,b,c,d,_⟩:=X;dsimp only;rw [zdY,za6,zhB,qab,qab,qab];dsimp only;have:P.zdS pw (toPg (a,b,c,d,()))=(P.zcA b&&decide (0<=c/\c<=pw)&&P.zeO d):=rfl
 rw [this];cases P.zcA b <;> cases decide (0<=c/\c<=pw) <;> rfl
theorem zwB{α:Type}{l:List α}{k:Nat}{x:α}(h:l[k]?=some x):l.drop k=x::l.drop (k+1):=by
 obtain ⟨hk,e⟩:=qak.1 h;rw [qaU hk,e]
theorem zum{ps:List PgD}{k:Nat}(hk:k<ps.length):(ps.map toPg)[k]?=some (toPg (ps.getD k PG0)):=by
 rw [<-zaR,qay,qap (by rw [qai];exact hk)];rfl
theorem zsV(sp:Int)(l:List PgD)(hl:l.length<=100000000):Tot (fun (r:(Bool×Unit)×Unit×Unit⊕(Bool×Unit)×Unit×Unit)=>(match r with | .inl x=>x.1.1=false/\P.zbI sp (l.map toPg)=false | .inr _=>P.zbI sp (l.map toPg)=true)) (rl ((Bool×Int×Unit)×Unit×Unit) ((Bool×Unit)×Unit×Unit⊕(Bool×Unit)×Unit×Unit) (fun (x:(Bool×Int×Unit)×Unit×Unit)=>
 bif decide (x.1.2.1<(l.length:Int)) then
 bif inB x.1.2.1 l.length then
 bif bif (l.getD x.1.2.1.toNat PG0).1 != 3 then true
 else (l.getD x.1.2.1.toNat PG0).2.1 != sp then some (Sum.inr (Sum.inl ((false,()),(),())))
 else some (Sum.inl ((x.1.1,W (x.1.2.1+1),()),(),()))
 else none
 else some (Sum.inr (Sum.inr ((x.1.1,()),(),())))) ((false,0,()),(),())):=by
  refine zao (fun x=>∃ k:Nat,x.1.2.1=(k:Int)/\k<=l.length/\P.zbI sp ((l.map toPg).drop k)=P.zbI sp (l.map toPg)) (fun x=>((l.length:Int)-x.1.2.1).toNat) ⟨0,rfl,by omega,rfl⟩ ?_
  rintro ⟨⟨(b:Bool),(i:Int),_⟩,_⟩ ⟨k,e,hk,hp⟩;dsimp only at e ⊢
  subst e;refine zac (fun h1=>?_) fun h1=>zab ?_
  · simp only [qaa]at h1;have hk':k<l.length:=by omega
    rw [zwB (zum hk')]at hp;unfold P.zbI at hp ⊢
    rw [List.all_cons]at hp;rw [W_id (by omega),qad]
    generalize hX:l.getD k PG0=X at *
    obtain ⟨xk,xs,xu,xp,_⟩:=X;refine zae (zaj.2 ⟨by omega,by omega⟩) (zac (fun h2=>zab ?_) fun h2=>zab ?_)
    · refine ⟨rfl,?_⟩;rw [<-hp,qbF];left
      refine qaj ?_;simp only [cor,qaT,qaz,ne_eq]at h2;rintro ⟨q1,q2⟩;rcases h2 with h2 | h2
      · exact h2 q1
      · exact h2 q2
    · simp only [qaq];refine ⟨⟨k+1,by omega,by omega,?_⟩,by omega⟩
      rw [<-hp];simp only [cor,qaI,qaA]at h2;have:decide ((toPg (xk,xs,xu,xp,())).kind=3/\(toPg (xk,xs,xu,xp,())).space=sp)=true:=qac h2
      rw [this,qaS]
  · simp only [qaf]at h1;simp only [qan];rw [<-hp,qbp (by rw [qai];omega)];rfl
theorem zhA(pw np:Int)(ps:List PgD)(k:Nat)(hk:k<ps.length)(hl:ps.length<=100000000):Tot (fun r=>r.1.1=P.zcL pw np (ps.map toPg) k (toPg (ps.getD k PG0))) (F_page_table_large (((pw,np,()),ps,()),(k:Int),())):=by
 rw [zgb];dsimp only
 refine zae (zaj.2 ⟨by omega,by omega⟩) ?_
 rw [qad];generalize hX:ps.getD k PG0=X
 obtain ⟨a,b,c,d,_⟩:=X;dsimp only;rw [zgt,qab,zdY,qab,zhB,qab];dsimp only;have hlm:(ps.map toPg).length=ps.length:=qai ..
 have e:P.zcL pw np (ps.map toPg) k (toPg (a,b,c,d,()))=(P.zcA b&&decide (1<=P.zau pw np c)&&P.zeO d&&decide ((k:Int)+P.zau pw np c<=ps.length)&&P.zbI b (((ps.map toPg).drop (k+1)).take ((P.zau pw np c).toNat-1))):=by rw [<-hlm];rfl
 rw [e];have b1:=P.ze8 pw np c;have b0:=P.znN pw np c;generalize P.zau pw np c=N at *
 refine zac (fun h1=>zab ?_) fun h1=>?_
 · simp only [qao]at h1;rw [h1];rfl
 simp only [qav]at h1;rw [h1,qaS];refine zac (fun h2=>zab ?_) fun h2=>?_
 · simp only [qaa]at h2;rw [qaj (show ¬1<=N by omega)];rfl
 simp only [qaf]at h2;rw [qac (show 1<=N by omega),qaS]
 have w1:W ((k:Int)+N)=k+N:=W_id (by omega)
 have w2:W ((k:Int)+1)=k+1:=W_id (by omega)
 rw [w1,w2,cor];refine zac (fun h3=>zab ?_) fun h3=>?_
 · simp only [qaT,qao,qaa]at h3;rcases h3 with h3 | h3
   · rw [h3];rfl
   · rw [qaj (show ¬(k:Int)+N<=ps.length by omega)];simp
 simp only [qaI,qav,qaf]at h3;rw [h3.1,qac (show (k:Int)+N<=ps.length by omega)]
 simp only [qaS];refine zae (qac (by omega)) ?_
 have ed:List.drop ((k:Int)+1).toNat (List.take ((k:Int)+N).toNat ps)=(ps.drop (k+1)).take (N.toNat-1):=by
  rw [qbC];congr 1
  omega
 rw [ed];have el:((ps.map toPg).drop (k+1)).take (N.toNat-1)=((ps.drop (k+1)).take (N.toNat-1)).map toPg:=by
  rw [List.map_take,List.map_drop]
 rw [el];refine zad (zsV b ((ps.drop (k+1)).take (N.toNat-1)) (by rw [qau,qaG];omega)) fun r hr=>zbp (fun x hx=>?_) fun x hx=>?_
 · subst hx;exact zab (hr.1.trans hr.2.symm)
 · subst hx;exact zab hr.symm
theorem zhz(pw np:Int)(ps:List PgD)(k:Nat)(hk:k<ps.length)(hl:ps.length<=100000000):Tot (fun r=>r.1.1=P.zfU pw np (ps.map toPg) k) (F_page_table_owned (((pw,np,()),ps,()),(k:Int),())):=by
 rw [zga];dsimp only
 unfold P.zfU;refine zad (P:=fun r=>match r with
  | .inl x=>x.1.1=P.zb7 pw np (ps.map toPg) k 1
  | .inr _=>P.zb7 pw np (ps.map toPg) k 1=false) (zao (fun x=>∃ m b:Nat,x.1.2.1=(b:Int)/\m+b=k+1/\1<=b/\P.zb7 pw np (ps.map toPg) m b=P.zb7 pw np (ps.map toPg) k 1) (fun x=>((k:Int)+1-x.1.2.1).toNat) ⟨k,1,rfl,rfl,by omega,rfl⟩ ?_) fun r hr=>zbp (fun x hx=>?_) fun x hx=>?_
 · rintro ⟨⟨(q:Bool),(i:Int),_⟩,_⟩ ⟨m,b,e,hm,hb,hp⟩;dsimp only at e ⊢
   subst e;refine zac (fun h1=>?_) fun h1=>zab ?_
   · simp only [qaa]at h1;obtain ⟨m,rfl⟩:∃ n,m=n+1:=⟨m-1,by omega⟩
     have w1:W ((k:Int)-b)=(m:Nat):=by rw [W_id (by omega)];omega
     rw [w1,W_id (n:=(b:Int)+1) (by omega),qad]
     rw [P.zb7,zaR]at hp;generalize hX:ps.getD m PG0=X at *
     obtain ⟨xk,xs,xu,xp,_⟩:=X;have hp:(if xk=2 then decide ((b:Int)<P.zau pw np xu) else P.zb7 pw np (ps.map toPg) m ((b:Int)+1))=P.zb7 pw np (ps.map toPg) k 1:=hp
     refine zae (zaj.2 ⟨by omega,by omega⟩) (zac (fun h2=>?_) fun h2=>zab ?_)
     · rw [zgt,qab];simp only [qaC]at h2;rw [if_pos h2]at hp;exact zab hp
     · simp only [qaX,ne_eq]at h2;rw [if_neg h2]at hp;simp only [qaq];exact ⟨⟨m,b+1,by omega,by omega,by omega,by rw [<-hp];rfl⟩,by omega⟩
   · simp only [qaf]at h1;obtain rfl:m=0:=by omega
     simp only [qan];rw [<-hp];rfl
 · subst hx;exact zab hr
 · subst hx;exact zab hr.symm
theorem ziD(pw np:Int)(ps:List PgD)(k:Nat)(hk:k<ps.length)(hl:ps.length<=100000000):Tot (fun r=>r.1.1=P.zd2 pw np (ps.map toPg) k (toPg (ps.getD k PG0))) (F_page_table_tail (((pw,np,()),ps,()),(k:Int),())):=by
 rw [zgQ];dsimp only
 refine zae (zaj.2 ⟨by omega,by omega⟩) ?_
 rw [qad];generalize hX:ps.getD k PG0=X
 obtain ⟨a,b,c,d,_⟩:=X;have e:P.zd2 pw np (ps.map toPg) k (toPg (a,b,c,d,()))=((c == 0)&&(d == 0)&&P.zfU pw np (ps.map toPg) k):=by
  unfold P.zd2;rw [Bool.decide_and];rfl
 rw [e];dsimp only;refine zac (fun h1=>zac (fun h2=>zad (zhz pw np ps k hk hl) fun r hr=>zab ?_) fun h2=>zab ?_) fun h1=>zab ?_
 · rw [h1,h2];exact hr
 · rw [h1,h2];rfl
 · rw [h1];rfl
theorem zgs(pw np:Int)(ps:List PgD)(hl:ps.length<=100000000):Tot (fun r=>r.1.1=P.zbt pw np (ps.map toPg)) (F_page_table_proper (((pw,np,()),ps,()),())):=by
 rw [zfK];dsimp only
 unfold P.zbt;have hlm:(ps.map toPg).length=ps.length:=qai ..
 refine zad (P:=fun r=>match r with
  | .inl x=>x.1.1=false/\P.zaI pw np (ps.map toPg) 0 (ps.map toPg)=false
  | .inr _=>P.zaI pw np (ps.map toPg) 0 (ps.map toPg)=true) (zao (fun x=>∃ k:Nat,x.1.2.1=(k:Int)/\k<=ps.length/\P.zaI pw np (ps.map toPg) k ((ps.map toPg).drop k)=P.zaI pw np (ps.map toPg) 0 (ps.map toPg)) (fun x=>((ps.length:Int)-x.1.2.1).toNat) ⟨0,rfl,by omega,rfl⟩ ?_) fun r hr=>zbp (fun x hx=>?_) fun x hx=>?_
 · rintro ⟨⟨(q:Bool),(i:Int),_⟩,_⟩ ⟨k,e,hk,hp⟩;dsimp only at e ⊢
   subst e;refine zac (fun h1=>?_) fun h1=>zab ?_
   · simp only [qaa]at h1;have hk':k<ps.length:=by omega
     rw [P.zsY (zum hk')]at hp;rw [za6,qab,W_id (n:=(k:Int)+1) (by omega),qad]
     have hfree:=ziE pw np ps k hk';have hsmall:=zhy pw np ps k hk';have hlarge:=zhA pw np ps k hk' hl;have htail:=ziD pw np ps k hk' hl;generalize hX:ps.getD k PG0=X at *
     obtain ⟨xk,xs,xu,xp,_⟩:=X;dsimp only at hfree ⊢
     have bad:P.zbG pw np (ps.map toPg) k (toPg (xk,xs,xu,xp,()))=false->Tot (Sum.elim (fun x':(Bool×Int×Unit)×Unit×Unit=>(∃ k:Nat,x'.1.2.1=(k:Int)/\k<=ps.length/\P.zaI pw np (ps.map toPg) k ((ps.map toPg).drop k)=P.zaI pw np (ps.map toPg) 0 (ps.map toPg))/\((ps.length:Int)-x'.1.2.1).toNat<((ps.length:Int)-(k:Int)).toNat) fun (r:(Bool×Unit)×Unit×Unit⊕(Bool×Unit)×Unit×Unit)=>match r with
      | .inl x=>x.1.1=false/\P.zaI pw np (ps.map toPg) 0 (ps.map toPg)=false
      | .inr _=>P.zaI pw np (ps.map toPg) 0 (ps.map toPg)=true) (some (Sum.inr (Sum.inl ((false,()),(),())))):=fun hs=>by
      rw [hs]at hp;exact zab ⟨rfl,hp.symm⟩
     have good:P.zbG pw np (ps.map toPg) k (toPg (xk,xs,xu,xp,()))=true->Tot (Sum.elim (fun x':(Bool×Int×Unit)×Unit×Unit=>(∃ k:Nat,x'.1.2.1=(k:Int)/\k<=ps.length/\P.zaI pw np (ps.map toPg) k ((ps.map toPg).drop k)=P.zaI pw np (ps.map toPg) 0 (ps.map toPg))/\((ps.length:Int)-x'.1.2.1).toNat<((ps.length:Int)-(k:Int)).toNat) fun (r:(Bool×Unit)×Unit×Unit⊕(Bool×Unit)×Unit×Unit)=>match r with
      | .inl x=>x.1.1=false/\P.zaI pw np (ps.map toPg) 0 (ps.map toPg)=false
      | .inr _=>P.zaI pw np (ps.map toPg) 0 (ps.map toPg)=true) (some (Sum.inl ((q,(k:Int)+1,()),(),()))):=fun hs=>by
      rw [hs,qaS]at hp;refine zab ?_;simp only [qaq];exact ⟨⟨k+1,by omega,by omega,hp⟩,by omega⟩
     have st:P.zbG pw np (ps.map toPg) k (toPg (xk,xs,xu,xp,()))=if xk=0 then P.zpH (toPg (xk,xs,xu,xp,())) else if xk=1 then P.zdS pw (toPg (xk,xs,xu,xp,())) else if xk=2 then P.zcL pw np (ps.map toPg) k (toPg (xk,xs,xu,xp,())) else if xk=3 then P.zd2 pw np (ps.map toPg) k (toPg (xk,xs,xu,xp,())) else false:=rfl
     rw [st]at bad good;refine zae (zaj.2 ⟨by omega,by omega⟩) (zac (fun h2=>bad ?_) fun h2=>?_)
     · simp only [qao,qaf]at h2;rw [if_neg (by omega),if_neg (by omega),if_neg (by omega),if_neg (by omega)]
     simp only [qav,qaa]at h2;refine zac (fun c0=>?_) fun c0=>?_
     · have c0:=qar c0;rw [if_pos c0]at bad good;rw [hfree c0,qab];exact zac (fun h3=>bad (by simpa using h3)) fun h3=>good (by simpa using h3)
     have c0:=qa3 c0;rw [if_neg c0]at bad good;refine zac (fun c1=>?_) fun c1=>?_
     · have c1:=qar c1;rw [if_pos c1]at bad good;rw [hsmall,qab];exact zac (fun h3=>bad (by simpa using h3)) fun h3=>good (by simpa using h3)
     have c1:=qa3 c1;rw [if_neg c1]at bad good;refine zac (fun c2=>?_) fun c2=>?_
     · have c2:=qar c2;rw [if_pos c2]at bad good;refine zad hlarge fun r hr=>?_
       rw [<-hr]at bad good;exact zac (fun h3=>bad (by simpa using h3)) fun h3=>good (by simpa using h3)
     have c2:=qa3 c2;rw [if_neg c2]at bad good;refine zac (fun c3=>?_) fun c3=>?_
     · have c3:=qar c3;rw [if_pos c3]at bad good;refine zad htail fun r hr=>?_
       rw [<-hr]at bad good;exact zac (fun h3=>bad (by simpa using h3)) fun h3=>good (by simpa using h3)
     · have c3:=qa3 c3;omega
   · simp only [qaf]at h1;rw [P.zun (by omega)]at hp
     simp only [qan];exact hp.symm
 · subst hx;exact zab (hr.1.trans hr.2.symm)
 · subst hx;exact zab hr.symm
theorem zma(ps:List PgD)(b:Int)(hb:¬b = -1)(hl:ps.length<=100000000):F_page_isSmall (ps,b,())=some ((P.zfk (ps.map toPg) b,()),()):=by
 rw [zkA];dsimp only
 rw [za6,qab];dsimp only;have w1:W ((ps.length:Int)-1)=ps.length-1:=W_id (by omega)
 have hlm:(ps.map toPg).length=ps.length:=qai ..
 rw [w1];unfold P.zfk;rw [hlm,zaR];by_cases h:0<=b/\b<=(ps.length:Int)-1
 · rw [qac h,zaj.2 ⟨h.1,by omega⟩]
   have:decide (b = -1\/0<=b/\b<(ps.length:Int)/\(toPg (ps.getD b.toNat PG0)).kind=1)=((ps.getD b.toNat PG0).1 == 1):=by
    rw [qbb,qaa,qaC];constructor
    · rintro (e | e)
      · exact absurd e hb
      · exact e.2.2
    · intro e;exact .inr ⟨h.1,by omega,e⟩
   rw [this];rfl
 · rw [qaj h];have:decide (b = -1\/0<=b/\b<(ps.length:Int)/\(toPg (ps.getD b.toNat PG0)).kind=1)=false:=qaj (by
    rintro (e | e)
    · exact hb e
    · exact h ⟨e.1,by omega⟩)
   rw [this];rfl
theorem zbQ(h:HpD)(hw:HpW h):Tot (fun r=>r.1.1=P.okH (toHp h)) (F_page_Proper (h,())):=by
 obtain ⟨⟨pw,np,_⟩,ws,ps,sp,bu,_⟩:=h;have hl:=hw.pl;have hwl:=hw.wl;dsimp only at hl hwl
 have hlm:(ps.map toPg).length=ps.length:=qai ..
 have e:P.okH (toHp ((pw,np,()),ws,ps,sp,bu,()))=(confB pw np&&decide ((ws.length:Int)=np*pw)&&decide ((ps.length:Int)=np)&&P.zcA sp&&P.zfk (ps.map toPg) bu&&P.zbt pw np (ps.map toPg)):=by
  show P.zcI pw np ws.length (ps.map toPg) sp bu=_
  rw [<-P.zgJ,<-zaH];unfold P.zh1;rw [hlm]
 rw [e];rw [zlW];dsimp only
 rw [zbB,qab];refine zac (fun h1=>zab ?_) fun h1=>?_
 · simp only [qao]at h1;rw [h1];rfl
 simp only [qav]at h1;have c2:=zaV.1 h1;have cm:=P.conf_prod (pw:=pw) (np:=np) (by rw [zaH];exact h1)
 rw [h1,qaS,zlp,qab];dsimp only;rw [cor,Int.mul_comm pw np,W_id (n:=np*pw) (by omega)]
 refine zac (fun h2=>zab ?_) fun h2=>?_
 · simp only [qaT,qaz,ne_eq]at h2;rcases h2 with h2 | h2
   · rw [qaj h2];rfl
   · rw [qaj (p:=(ps.length:Int)=np) h2];simp
 simp only [qaI,qaA]at h2;rw [qac h2.1,qac h2.2,zdY,qab];simp only [qaS];refine zac (fun h3=>zab ?_) fun h3=>?_
 · simp only [qao]at h3;rw [h3];rfl
 simp only [qav]at h3;rw [h3,qaS];have fin:∀ b:Bool,b=true->Tot (fun r=>r.1.1=(b&&P.zbt pw np (ps.map toPg))) ((F_page_table_proper (((pw,np,()),ps,()),())).bind fun (r:(Bool×Unit)×Unit)=>some ((r.1.1,()),())):=fun b hb=>zad (zgs pw np ps hl) fun r hr=>zab (by rw [hb,qaS];exact hr)
 refine zac (fun h4=>?_) fun h4=>fin _ ?_
 · simp only [qaz,ne_eq]at h4;rw [zma ps bu h4 hl,qab];refine zac (fun h5=>zab ?_) fun h5=>fin _ (by simpa using h5)
   simp only [qao]at h5;rw [h5];rfl
 · simp only [qaA]at h4;subst h4;unfold P.zfk;exact qac (.inl rfl)
theorem zlq(pw np a:Int)(ha:0<=a/\a<18446744073709551616):F_page_Of ((pw,np,()),a,())=some ((P.ofI pw np a,P.ofK pw np a,P.ofE pw np a,()),()):=by
 rw [ztl];dsimp only
 rw [zbB,zlp,qab,qab];dsimp only;cases hc:confB pw np
 · obtain ⟨e1,e2,e3⟩:=P.zwj (pw:=pw) (np:=np) (a:=a) (by rw [zaH];exact hc)
   rw [e1,e2,e3];rfl
 have hc':P.confB pw np=true:=by rw [zaH];exact hc
 obtain ⟨c1,c2⟩:=P.conf_prod hc';have c3:=P.zai hc';rw [Int.mul_comm pw np,W_id (n:=np*pw) (by omega),U_id (n:=np*pw) (by omega)]
 have hpw:(!pw == 0)=true:=by simp;omega
 by_cases h1:a<4096
 · obtain ⟨e1,e2,e3⟩:=P.ze5 (a:=a) hc' (by unfold P.inAr;exact qaj (by omega))
   rw [e1,e2,e3,qac h1];rfl
 have w4:U (a-4096)=a-4096:=U_id (by omega)
 rw [w4,qaj h1];by_cases h2:a-4096 >= np*pw
 · obtain ⟨e1,e2,e3⟩:=P.ze5 (a:=a) hc' (by unfold P.inAr;exact qaj (by omega))
   rw [e1,e2,e3,qac h2];rfl
 obtain ⟨e1,e2,e3⟩:=P.zgO (a:=a) hc' (by unfold P.inAr;exact qac (by omega))
 have w5:W (a-4096)=a-4096:=W_id (by omega)
 have hd:=Int.ediv_le_self (a:=a-4096) pw (by omega)
 have hd0:=qbP (a:=a-4096) (b:=pw) (by omega) (by omega)
 rw [qaj h2,w5,hpw,e1,e2,e3,qbv (by omega),qb2 (by omega),W_id (n:=(a-4096) / pw) (by omega)]
 rfl
end Go.VI
namespace Go.VI
open Go
theorem zmb(ws:List Int)(a:Int)(n:Nat)(hl:ws.length<=100000000)(hn:n<=100000000)(ha:0<=a/\a<18446744073709551616):F_arena_locate (ws,a,(n:Int),())=some (((if P.okA ws.length a n then a-4096 else 0),(if P.okA ws.length a n then 0 else 2),()),()):=by
 rw [zkD];dsimp only
 rw [qaj (show ¬(n:Int)<0 by omega),U_id (n:=(ws.length:Int)) (by omega),U_id (n:=(n:Int)) (by omega)]
 by_cases h1:a<4096
 · have:P.okA ws.length a n=false:=by rw [<-qbs,P.zaE];omega
   rw [qac h1,this];rfl
 have u1:U (a-4096)=a-4096:=U_id (by omega)
 rw [qaj h1,u1];by_cases h2:a-4096 > (ws.length:Int)
 · have:P.okA ws.length a n=false:=by rw [<-qbs,P.zaE];omega
   rw [qac h2,this];rfl
 have u2:U ((ws.length:Int)-(a-4096))=ws.length-(a-4096):=U_id (by omega)
 have w1:W (a-4096)=a-4096:=W_id (by omega)
 rw [qaj h2,u2,w1];by_cases h3:(n:Int) > (ws.length:Int)-(a-4096)
 · have:P.okA ws.length a n=false:=by rw [<-qbs,P.zaE];omega
   rw [qac h3,this];rfl
 · have:P.okA ws.length a n=true:=by rw [P.zaE];omega
   rw [qaj h3,this];rfl
theorem zol(ws:List Int)(a:Int)(hl:ws.length<=100000000)(ha:0<=a/\a<18446744073709551616):F_arena_Index (ws,a,())=some ((P.zkJ ws.length a,P.zkK ws.length a,()),()):=by
 rw [zl0];dsimp only
 have h:F_arena_locate (ws,a,1,())=_:=zmb ws a 1 hl (by omega) ha
 rw [h];rfl
theorem zqc(ws:List Int)(a:Int)(hl:ws.length<=100000000)(ha:0<=a/\a<18446744073709551616):F_arena_Load (ws,a,())=some ((P.zas ws a,P.zkF ws a,()),()):=by
 rw [znJ];dsimp only
 rw [zol ws a hl ha,qab];dsimp only;unfold P.zkJ P.zkK P.zas P.zkF;cases h:P.okA ws.length a 1
 · rfl
 · have:=P.zaE.1 h
   simp only [if_true];rw [zaj.2 ⟨by omega,by omega⟩];rfl
theorem zcy(k:Nat)(ws:List Int)(hk:k<ws.length):F_bits_Unpack_S1_c ((k:Int),ws,())=some ((ws.getD k 0,()),ws,()):=by
 rw [zgf];dsimp only
 rw [zaj.2 ⟨by omega,by omega⟩,qad];rfl
theorem zsA{ws:List Int}{k:Nat}(hk:k<ws.length):ws[k]?=some (ws.getD k 0):=by
 rw [qay,qap hk];rfl
theorem ztT(ws:List Int)(hl:ws.length<=100000000):Tot (fun r=>r.1.1=P.fitL 64 ws/\r.2.1=ws) (F_bits_fit_c_bits_Unpack_S1 ((ws.length:Int),ws,())):=by
 rw [zdb];dsimp only
 refine zad (P:=fun r=>match r with
  | .inl x=>(x.1.1=false/\P.fitL 64 ws=false)/\x.2.2.1.1=ws
  | .inr x=>P.fitL 64 ws=true/\x.2.2.1.1=ws) (zao (fun x=>∃ k:Nat,x.1.2.2.1=(k:Int)/\k<=ws.length/\x.2.2.1.1=ws/\0<=x.1.2.1/\x.1.2.1<=64/\P.fitL x.1.2.1 (ws.drop k)=P.fitL 64 ws) (fun x=>((ws.length:Int)-x.1.2.2.1).toNat) ⟨0,rfl,by omega,rfl,by dsimp only;omega,by dsimp only;omega,rfl⟩ ?_) fun r hr=>zbp (fun x hx=>?_) fun x hx=>?_
 · rintro ⟨⟨(q:Bool),(lf:Int),(i:Int),_⟩,_,⟨(l:List Int),_⟩,_⟩ ⟨k,e,hk,el,h0,h64,hp⟩;dsimp only at e el h0 h64 hp ⊢
   rw [e,el];refine zac (fun h1=>?_) fun h1=>zab ?_
   · simp only [qaa]at h1;have hk':k<ws.length:=by omega
     have hx:=zsA hk';rw [zcy k ws hk',qab];dsimp only;generalize ws.getD k 0=v at *
     refine zac (fun h2=>zab ⟨⟨rfl,?_⟩,rfl⟩) fun h2=>?_
     · rw [<-hp];exact P.zvm hx (.inl (by simpa using h2))
     simp only [qaf]at h2;rw [zcy k ws hk',qab];have hv:ws.getD k 0=v:=by rw [qay,hx];rfl
     dsimp only;rw [hv];refine zac (fun h3=>zab ⟨⟨rfl,?_⟩,rfl⟩) fun h3=>?_
     · rw [<-hp];exact P.zvm hx (.inr (by simpa using h3))
     simp only [qaf]at h3;rw [zcy k ws hk',qab];dsimp only;rw [hv,W_id (n:=lf-v) (by omega),W_id (n:=(k:Int)+1) (by omega)]
     refine zab ⟨⟨k+1,by dsimp only;omega,by omega,rfl,by dsimp only;omega,by dsimp only;omega,?_⟩,by dsimp only;omega⟩
     rw [<-hp];exact (P.zwy hx h2 (by omega)).symm
   · simp only [qaf]at h1;refine ⟨?_,rfl⟩;rw [<-hp];exact P.zwz (by omega)
 · subst hx;exact zab ⟨hr.1.1.trans hr.1.2.symm,hr.2⟩
 · subst hx;exact zab ⟨hr.1.symm,hr.2⟩
theorem zlu(n:Int):F_bits_Ones (n,())=some ((P.zh7 n,()),()):=by
 rw [zpo];dsimp only
 by_cases h:n<0
 · rw [qac h,P.zuN n h];rfl
 · rw [qaj h];have e:U (U (1*2 ^ min n.toNat IntKind.u64.bits)-1)=P.zh7 n:=by
    have hb:IntKind.u64.bits=64:=rfl
    rw [hb,qbj];unfold P.zh7;by_cases hc:n.toNat<64
    · rw [show min n.toNat 64=n.toNat from by omega]
      have h1:=P.zvf n.toNat hc;have h2:=P.zve n.toNat;rw [U_id (n:=2 ^ n.toNat) (by omega),U_id (by omega)]
    · rw [show min n.toNat 64=64 from by omega];rfl
   rw [e];rfl
theorem zoA:∀ (ws:List Int) (x k:Nat) (a:Int),ws[k]?=some a->(P.zlH x ws)[k]?=some (((x >>> P.sumW (ws.take k)) &&& P.zh8 a:Nat):Int)
 | [],x,k,a,h=>by simp at h
 | b::r,x,0,a,h=>by
  simp only [qca,Option.some.injEq]at h;subst h;simp [P.zlH,P.sumW]
 | b::r,x,k+1,a,h=>by
  rw [qbg]at h;rw [P.zlH,qbg,zoA r _ k a h,qci,P.sumW,Nat.shiftRight_add]
theorem zok(x:Nat)(hx:x<18446744073709551616)(ws:List Int)(hl:ws.length<=1000):Tot (fun r=>r.1.1=P.unpV x ws/\r.1.2.1=P.unpE x ws) (F_bits_Unpack ((x:Int),ws,())):=by
 rw [zlZ];dsimp only
 refine zad (ztT ws (by omega)) ?_
 rintro ⟨⟨(b:Bool),_⟩,(l:List Int),_⟩ ⟨hb,el⟩;dsimp only at hb el ⊢
 rw [hb,el];refine zac (fun h1=>zab ?_) fun h1=>?_
 · simp only [qao]at h1;unfold P.unpV P.unpE;rw [h1];exact ⟨rfl,rfl⟩
 simp only [qav]at h1;refine zae (qac (by omega)) (zae (zan.2 (by omega)) ?_)
 refine zad (P:=fun r=>r.1.1=((x >>> P.sumW ws:Nat):Int)/\r.2.2.1=P.zlH x ws) (zao (fun y=>∃ k:Nat,y.1.2.1=(k:Int)/\k<=ws.length/\y.1.1=((x >>> P.sumW (ws.take k):Nat):Int)/\y.2.2.1.length=ws.length/\∀ j,j<k->y.2.2.1[j]?=(P.zlH x ws)[j]?) (fun y=>((ws.length:Int)-y.1.2.1).toNat) ⟨0,rfl,by omega,by simp [P.sumW],by simp,fun j hj=>by omega⟩ ?_) ?_
 · rintro ⟨⟨(v:Int),(i:Int),_⟩,_,(L:List Int),_⟩ ⟨k,e,hk,ev,hL,hj⟩;dsimp only at e ev hL hj ⊢
   rw [e,ev];refine zac (fun h2=>?_) fun h2=>zab ?_
   · simp only [qaa]at h2;have hk':k<ws.length:=by omega
     have hx':=zsA hk';have hm:=P.zsC ws 64 (by omega) h1 _ (qaK hx')
     rw [qad];generalize ws.getD k 0=a at *
     rw [zlu,qab];dsimp only;have hin:inB (k:Int) ws.length=true:=zaj.2 ⟨by omega,by omega⟩
     refine zae hin (zae (zaj.2 ⟨by omega,by omega⟩) (zae hin (zae (by simp;omega) (zab ?_))))
     have hv:x >>> P.sumW (ws.take k)<18446744073709551616:=P.shr_lt x _ hx;have e1:zcx IntKind.u64 (fun (x1 x2:BitVec IntKind.u64.bits)=>x1 &&& x2) ((x >>> P.sumW (ws.take k):Nat):Int) (P.zh7 a)=(((x >>> P.sumW (ws.take k)) &&& P.zh8 a:Nat):Int):=by
      rw [P.ztd];exact zoc _ _ hv (P.zwh a)
     have e2:(((x >>> P.sumW (ws.take k):Nat):Int)).fdiv (2 ^ min a.toNat IntKind.u64.bits)=((x >>> P.sumW (ws.take (k+1)):Nat):Int):=by
      have hb:IntKind.u64.bits=64:=rfl
      rw [hb,show min a.toNat 64=a.toNat from by omega,<-P.zha,zdw _ _ (Nat.pow_pos (by omega)),P.zup hx',Nat.shiftRight_add,qbW (x >>> _)]
     refine ⟨⟨k+1,?_,by omega,e2,?_,?_⟩,?_⟩
     · dsimp only;exact W_id (by omega)
     · dsimp only;rw [List.length_set];exact hL
     · intro j hjk;dsimp only;rw [e1];by_cases hq:j=k
       · subst hq;rw [zoA ws x j a hx',List.getElem?_set_self (by omega)]
       · rw [qbZ (by omega)]
         exact hj j (by omega)
     · dsimp only;rw [W_id (by omega)];omega
   · simp only [qaf]at h2;obtain rfl:k=ws.length:=by omega
     refine ⟨by rw [List.take_length],?_⟩
     show L=_
     refine qbr fun j=>?_
     by_cases hq:j<ws.length
     · exact hj j hq
     · rw [qbQ (by omega),qbQ (by rw [P.zue];omega)]
 · rintro ⟨⟨(v:Int),_⟩,_,(L:List Int),_⟩ ⟨hv,hL⟩;dsimp only at hv hL ⊢
   subst hv hL;unfold P.unpV P.unpE;rw [h1,if_pos rfl,if_pos rfl];refine zac (fun h2=>zab ?_) fun h2=>zab ?_
   · simp only [qaz,ne_eq]at h2;rw [if_neg (by omega),if_neg (by omega)];exact ⟨rfl,rfl⟩
   · simp only [qaA]at h2;rw [if_pos (by omega),if_pos (by omega)];exact ⟨rfl,rfl⟩
theorem zcX(k n m:Int)(hm:0<=m/\m<4294967296):F_header_Valid ((k,n,m,()),())=some ((P.zaA k n m,()),()):=by
 rw [zkC];dsimp only
 have key:∀ {o:Option ((Bool×Unit)×Unit)},Tot (fun r=>r.1.1=P.zaA k n m) o->o=some ((P.zaA k n m,()),()):=fun h=>by
  obtain ⟨⟨⟨(b:Bool),_⟩,_⟩,rfl,e⟩:=h;have e:b=P.zaA k n m:=e
  rw [e]
 refine key (zac (fun h=>?_) fun h=>?_)
 · simp only [qaC]at h;subst h;refine zac (fun h1=>zac (fun h2=>?_) fun h2=>zab ?_) fun h1=>zab ?_
   · simp only [qaa,ge_iff_le]at h1 h2;rw [zlu,qab];refine zab ?_;dsimp only;rw [U_id (n:=m) (by omega)]
     by_cases h3:m<=P.zh7 n
     · rw [qac h3,P.zgB ⟨by omega,by omega,h1,by omega,fun _=>⟨h2,(P.zsl h1 h2).1 h3⟩,fun c=>absurd rfl c⟩]
     · rw [qaj h3,P.map_no h1 h2 (by omega)]
   · simp only [qaf]at h2;exact (P.zch (fun c=>h2 (c.2.2.2.2.1 rfl).1)).symm
   · simp only [qaf,ge_iff_le]at h1;exact (P.zch (fun c=>h1 c.2.2.1)).symm
 · simp only [qaX,ne_eq]at h;refine zac (fun h1=>zab ?_) fun h1=>zab ?_
   · have hk:k=0\/k=2\/k=3:=by
      by_cases c0:k=0
      · exact .inl c0
      · by_cases c2:k=2
        · exact .inr (.inl c2)
        · rw [show (k == 0)=false from by simpa using c0,show (k == 2)=false from by simpa using c2]at h1
          simp only [qag,qaC]at h1;exact .inr (.inr h1)
     dsimp only;have e:((k == k)&&((n == n)&&((m == 0)&&true)))=(m == 0):=by simp
     rw [e];by_cases q1:0<=n
     · by_cases q2:n<=255
       · rw [qac (show n >= 0 from q1),qac q2]
         by_cases q3:m=0
         · rw [P.zqu hk q1 q2 q3,q3];rfl
         · rw [P.zch (fun c=>q3 (c.2.2.2.2.2 h))];simp [q3]
       · rw [qac (show n >= 0 from q1),qaj q2,P.zch (fun c=>q2 c.2.2.2.1)];rfl
     · rw [qaj (show ¬n >= 0 from q1),P.zch (fun c=>q1 c.2.2.1)];rfl
   · rw [P.zch];rintro ⟨q1,q2,-⟩;have hk:k=0\/k=2\/k=3:=by omega
     rcases hk with e | e | e <;> subst e <;> simp at h1
theorem zeB(k n m:Int)(hm:0<=m/\m<4294967296):F_header_Size ((k,n,m,()),())=some ((P.zaO k n m,()),()):=by
 rw [zlY];dsimp only
 rw [zcX k n m hm,qab];dsimp only;cases h:P.zaA k n m
 · rw [P.zqz h];rfl
 · have:=P.zay h
   rw [P.zcm h,W_id (n:=n+1) (by omega)];rfl
theorem zlt(x:Nat)(hx:x<18446744073709551616):F_header_Decode ((x:Int),())=some (((P.decK x,P.decN x,P.decM x,()),P.okD x,()),()):=by
 rw [zju];dsimp only
 obtain ⟨⟨⟨(l:List Int),(e:Int),_⟩,_⟩,he,h1,h2⟩:=zok x hx [2,2,12,32] (by simp)
 rw [he,qab];dsimp only at h1 h2 ⊢
 have hf:P.fitL 64 [2,2,12,32]=true:=by decide
 have hs:P.sumW [2,2,12,32]=48:=by decide
 unfold P.unpV at h1;unfold P.unpE at h2;rw [hf,if_pos rfl,hs]at h1 h2;by_cases hz:x >>> 48=0
 · have hz':x<281474976710656:=by
    rw [qbW]at hz;omega
   rw [if_pos hz]at h1 h2;have uv:P.zlH x [2,2,12,32]=[((x % 4:Nat):Int),(P.dK x:Int),(P.dN x:Int),(P.dM x:Int)]:=by
    show [((x &&& P.zh8 2:Nat):Int),((x >>> 2 &&& P.zh8 2:Nat):Int),((x >>> 2 >>> 2 &&& P.zh8 12:Nat):Int),((x >>> 2 >>> 2 >>> 12 &&& P.zh8 32:Nat):Int)]=_
    rw [P.zj1,P.zj1,P.zj1,P.zj1,<-Nat.shiftRight_add,<-Nat.shiftRight_add,qbW,qbW,qbW]
    rfl
   rw [uv]at h1;subst h1 h2;have hmb:(0:Int)<=(P.dM x:Int)/\(P.dM x:Int)<4294967296:=by unfold P.dM;omega
   have w1:W (P.dK x:Int)=P.dK x:=W_id (by unfold P.dK;omega)
   have w2:W (P.dN x:Int)=P.dN x:=W_id (by unfold P.dN;omega)
   have w3:U32 (P.dM x:Int)=P.dM x:=by rw [U32,IntKind.wrap_u32];omega
   have i0:∀ a b c d:Int,inB 0 ([a,b,c,d]:List Int).length=true:=fun _ _ _ _=>rfl
   have i1:∀ a b c d:Int,inB 1 ([a,b,c,d]:List Int).length=true:=fun _ _ _ _=>rfl
   have i2:∀ a b c d:Int,inB 2 ([a,b,c,d]:List Int).length=true:=fun _ _ _ _=>rfl
   have i3:∀ a b c d:Int,inB 3 ([a,b,c,d]:List Int).length=true:=fun _ _ _ _=>rfl
   have g0:∀ a b c d:Int,([a,b,c,d]:List Int).getD (Int.toNat 0) 0=a:=fun _ _ _ _=>rfl
   have g1:∀ a b c d:Int,([a,b,c,d]:List Int).getD (Int.toNat 1) 0=b:=fun _ _ _ _=>rfl
   have g2:∀ a b c d:Int,([a,b,c,d]:List Int).getD (Int.toNat 2) 0=c:=fun _ _ _ _=>rfl
   have g3:∀ a b c d:Int,([a,b,c,d]:List Int).getD (Int.toNat 3) 0=d:=fun _ _ _ _=>rfl
   simp only [i0,i1,i2,i3,g0,g1,g2,g3,w1,w2,w3,zcX _ _ _ hmb,qab,bne_self_eq_false,qag,qah];by_cases h4:x % 4=1
   · rw [h4];cases hv:P.zaA (P.dK x) (P.dN x) (P.dM x)
     · have hok:=P.zuQ (x:=x) (.inr (.inr hv))
       obtain ⟨f1,f2,f3⟩:=P.zpQ hok;rw [hok,f1,f2,f3];rfl
     · have hok:=P.zwZ h4 hz' hv;obtain ⟨f1,f2,f3⟩:=P.zmQ hok;rw [hok,f1,f2,f3];rfl
   · have hok:=P.zuQ (x:=x) (.inl h4)
     obtain ⟨f1,f2,f3⟩:=P.zpQ hok;have:((((x % 4:Nat):Int)) != 1)=true:=by simp;omega
     rw [this,hok,f1,f2,f3];rfl
 · have hz':¬x<281474976710656:=by
    intro c;apply hz
    rw [qbW];omega
   rw [if_neg hz]at h1 h2;subst h1 h2;have hok:=P.zuQ (x:=x) (.inr (.inl hz'))
   obtain ⟨f1,f2,f3⟩:=P.zpQ hok;rw [hok,f1,f2,f3];rfl
theorem zoj(k s u p o n:Int)(ho:0<=o/\o<=100000000)(hn:0<=n/\n<=100000000):F_object_fits ((k,s,u,p,()),o,n,())=some (((if k=1 then decide (o+n<=u) else if k=2 then decide (o=0/\n=u) else false),()),()):=by
 rw [zlX];dsimp only
 rw [W_id (n:=o+n) (by omega)]
 by_cases h1:k=1
 · subst h1;rfl
 · rw [if_neg h1,show (k == 1)=false from by simpa using h1]
   by_cases h2:k=2
   · subst h2;rw [if_pos rfl,Bool.decide_and];simp only [cand];rfl
   · rw [if_neg h2,show (k == 2)=false from by simpa using h2];rfl
end Go.VI
namespace Go.VI
open Go
theorem need_or{c e:Bool}(h:e=true):(bif c then true else e)=true:=by subst h;cases c <;> rfl
theorem zlr(h:HpD):F_object_reader (h,())=some (((h,()),()),()):=by
 rw [zjt]
theorem zfN(h:HpD)(hw:HpW h)(a:Int)(ha:0<=a/\a<18446744073709551616):F_object_reader_S1_c (a,h,())=some ((P.zas h.2.1 a,P.zkF h.2.1 a,()),h,()):=by
 rw [ze6];dsimp only
 rw [zqc _ _ hw.wl ha,qab]
theorem zww{h:HpD}(hw:HpW h)(hok:P.okH (toHp h)=true){a:Int}(hof:P.ofE (toHp h).pw (toHp h).np a=0):
 (0<=P.ofI (toHp h).pw (toHp h).np a/\P.ofI (toHp h).pw (toHp h).np a<h.2.2.1.length)/\(0<=P.ofK (toHp h).pw (toHp h).np a/\P.ofK (toHp h).pw (toHp h).np a<=64)/\P.zkF h.2.1 a=0/\P.zas h.2.1 a=P.zaw (toHp h) a/\P.zaw (toHp h) a<18446744073709551616:=by
 obtain ⟨q1,⟨i,j,e1,e2,e3,e4,e5⟩,-⟩:=P.zuR hok hof;have hlm:(toHp h).pages.length=h.2.2.1.length:=qai ..
 have c:=P.zai (P.zaq hok).1;have hwb:P.WB (toHp h).words:=hw.wb;obtain ⟨w1,w2,w3⟩:=P.word_of hwb hok hof;rw [e1,e2];exact ⟨by omega,by omega,w2,w1,w3⟩
theorem zgu(h:HpD)(hw:HpW h)(a:Int)(ha:0<=a/\a<18446744073709551616):Tot (fun r=>r.1.2.1=P.atE (toHp h) a/\toHd r.1.1=P.atH (toHp h) a) (F_object_At (h,a,())):=by
 obtain ⟨⟨pw,np,_⟩,ws,ps,sp,bu,_⟩:=h;rw [zpm];dsimp only
 generalize hX:toHp ((pw,np,()),ws,ps,sp,bu,())=X
 have bad:∀ (c:Int),P.atE X a=c/\P.atH X a=P.Hd.zero->Tot (fun r:((Int×Int×Int×Unit)×Int×Unit)×Unit=>r.1.2.1=P.atE X a/\toHd r.1.1=P.atH X a) (some (((0,0,0,()),c,()),())):=fun c he=>zab ⟨he.1.symm,he.2.symm⟩
 refine zad (zbQ _ hw) ?_;rintro ⟨⟨(b:Bool),_⟩,_⟩ hb;have hb:b=P.okH X:=hX ▸ hb
 subst hb;refine zac (fun h1=>bad 1 (P.zrx (by simpa using h1))) fun h1=>?_
 simp only [qav]at h1;have xw:X.pw=pw:=hX ▸ rfl
 have xn:X.np=np:=hX ▸ rfl
 have hc:=(P.zaq h1).1;rw [xw,xn]at hc;rw [zlq pw np a ha,qab];dsimp only;refine zac (fun h2=>?_) fun h2=>?_
 · simp only [qaz,ne_eq]at h2;have e2:P.ofE pw np a=2:=by
    cases hq:P.inAr pw np a
    · exact (P.ze5 (a:=a) hc hq).2.2
    · exact absurd (P.zgO hc hq).2.2 h2
   rw [e2];exact bad 2 (P.ziu h1 (by rw [xw,xn];exact h2))
 simp only [qaA]at h2;have hof:P.ofE X.pw X.np a=0:=by rw [xw,xn];exact h2
 have I:=zww hw (hX ▸ h1) (a:=a) (hX ▸ hof)
 rw [hX,xw,xn]at I;obtain ⟨hi,ho,l1,l2,hy⟩:=I;dsimp only at hi l1 l2
 rw [zlr,qab];dsimp only;rw [zfN _ hw a ha,qab];dsimp only;rw [l1,l2];refine zac (fun c=>by simp at c) fun _=>?_
 have hpg:P.zb9 X a=toPg (ps.getD (P.ofI pw np a).toNat PG0):=by
  unfold P.zb9;rw [xw,xn];have:X.pages=ps.map toPg:=hX ▸ rfl
  rw [this,zaR]
 have hatB:P.atB X a=atBx (P.zb9 X a).kind (P.zb9 X a).used (P.ofK X.pw X.np a) (P.zaw X a):=rfl
 rw [hpg,xw,xn]at hatB;have hH:=P.zmU h1 hof;have hN:=P.zpZ h1 hof;rw [hatB]at hH hN;generalize P.zaw X a=y at *
 generalize P.ofK pw np a=o at *
 rw [zlt y hy,qab];dsimp only;refine zae (need_or (zaj.2 hi)) ?_;generalize ps.getD (P.ofI pw np a).toNat PG0=G at *
 obtain ⟨gk,gs,gu,gp,_⟩:=G;have hab:atBx (toPg (gk,gs,gu,gp,())).kind (toPg (gk,gs,gu,gp,())).used o y=atBx gk gu o y:=rfl
 rw [hab]at hH hN;unfold atBx at hH hN;refine zac (fun h3=>bad 19 (hN ?_)) fun h3=>?_
 · simp only [qao]at h3;rw [h3];simp
 simp only [qav]at h3;obtain ⟨d1,d2,d3⟩:=P.zcq h3;obtain ⟨f1,f2,f3⟩:=P.zmQ h3;have hmb:(0:Int)<=(P.dM y:Int)/\(P.dM y:Int)<4294967296:=by unfold P.dM;omega
 have vp:=P.zay d3;rw [f1,f2,f3,zeB _ _ _ hmb,qab,P.zcm d3];dsimp only;rw [zoj gk gs gu gp o _ (by omega) (by omega),qab]
 dsimp only;refine zac (fun h4=>bad 19 (hN ?_)) fun h4=>zab ?_
 · by_cases k1:gk=1
   · subst k1;simp only [if_true,qao]at h4 ⊢;rw [h4];simp
   · rw [if_neg k1]at h4 ⊢
     by_cases k2:gk=2
     · subst k2;simp only [if_true,qao]at h4 ⊢;rw [h4];simp
     · rw [show decide (gk=1\/gk=2)=false from qaj (by omega)];rfl
 · have:(decide (gk=1\/gk=2)&&decide (o<gu)&&P.okD y&&if gk=1 then decide (o+((P.dN y:Int)+1)<=gu) else decide (o=0/\(P.dN y:Int)+1=gu))=true:=by
    by_cases k1:gk=1
    · subst k1;simp only [if_true,qav,qaa]at h4;rw [h3,qac (show o<gu by omega),if_pos rfl,qac h4];rfl
    · rw [if_neg k1]at h4;by_cases k2:gk=2
      · subst k2;simp only [if_true,qav,qaa]at h4;rw [h3,qac (show o<gu by omega),if_neg k1,qac h4];rfl
      · rw [if_neg k2]at h4;simp at h4
   obtain ⟨g1,g2⟩:=hH this;rw [g1,g2];exact ⟨rfl,rfl⟩
theorem zjj(h:HpD)(hw:HpW h)(a:Int)(ha:0<=a/\a<18446744073709551616):Tot (fun r=>r.1.2.1=P.getE (toHp h) a/\toHd r.1.1=P.getH (toHp h) a) (F_object_Get (h,a,())):=by
 rw [znF];dsimp only
 rw [zar];refine zad (zgu h hw a ha) ?_;rintro ⟨⟨⟨(k:Int),(n:Int),(m:Int),_⟩,(e:Int),_⟩,_⟩ hr;dsimp only at hr ⊢
 obtain ⟨r1,r2⟩:=hr;have r2:P.atH (toHp h) a=⟨k,n,m⟩:=r2.symm
 generalize toHp h=X at *
 have out:∀ (c:Int),¬c=0->P.getE X a=c->Tot (fun r:((Int×Int×Int×Unit)×Int×Unit)×Unit=>r.1.2.1=P.getE X a/\toHd r.1.1=P.getH X a) (some (((0,0,0,()),c,()),())):=fun c h0 he=>by
  refine zab ⟨he.symm,?_⟩;unfold P.getH;rw [if_neg (by rw [he];exact h0)];rfl
 simp only [cand];cases hok:P.okH X
 · have g:=P.zsB (h:=X) (a:=a) hok
   have t:=P.zrx (h:=X) (a:=a) hok
   rw [t.1]at r1;rw [t.2]at r2;subst r1;simp only [P.Hd.zero,P.Hd.mk.injEq]at r2;obtain ⟨e1,e2,e3⟩:=r2;subst e1 e2 e3;exact out 1 (by decide) g.1
 by_cases h0:a=0
 · subst h0;have g:=P.zpE (h:=X) hok
   have c:=P.zai (P.zaq hok).1;have hno:¬P.ofE X.pw X.np 0=0:=by
    rw [(P.ze5 (a:=0) (P.zaq hok).1 (by unfold P.inAr;exact qaj (by omega))).2.2];decide
   have t:=P.ziu (h:=X) (a:=0) hok hno
   rw [t.1]at r1;subst r1;exact out 5 (by decide) g.1
 have h0':(a == 0)=false:=by simpa using h0
 rw [h0',Bool.and_false];refine zac (fun c=>by simp at c) fun _=>zac (fun h3=>out 4 (by decide) ?_) fun h3=>zab ?_
 · simp only [qae,qaC]at h3;exact (P.zpF hok h0 (by rw [<-r1];exact h3.1) (by rw [r2];exact h3.2)).1
 · obtain ⟨g1,g2⟩:=P.zri (a:=a) hok h0 (by
    rintro ⟨q1,q2⟩;rw [r2]at q2;rw [<-r1]at q1;have q2:k=0:=q2
    rw [q1,q2]at h3;simp at h3)
   rw [g1,g2,r1,r2];exact ⟨rfl,rfl⟩
theorem zqb(h:HpD):F_made_Light (h,())=some ((decide (h.2.1.length<=5000/\h.2.2.1.length<=100),()),()):=by
 rw [znG];dsimp only
 rw [cand,Bool.decide_and];have e1:decide ((h.2.1.length:Int)<=5000)=decide (h.2.1.length<=5000):=qcd.2 (by omega)
 have e2:decide ((h.2.2.1.length:Int)<=100)=decide (h.2.2.1.length<=100):=qcd.2 (by omega)
 rw [e1,e2]
end Go.VI
namespace Go.VI
open Go
theorem zvb{o:Option ((Bool×Unit)×Unit)}(h:Tot (fun r=>r.1.1=true) o):o=some ((true,()),()):=by
 obtain ⟨⟨⟨(b:Bool),_⟩,_⟩,rfl,e⟩:=h;have e:b=true:=e
 rw [e]
abbrev LX:=(Bool×Int×Unit)×Unit×Unit
abbrev LY:=(Bool×Unit)×Unit×Unit⊕(Bool×Unit)×Unit×Unit
theorem zsa{n:Nat}{q0:Bool}{g:LX->Option (LX⊕LY)}(hn:n<=1000000000)(h:∀ (q:Bool) (k:Nat),k<n->Tot (fun r=>∃ q',r = .inl ((q',(k:Int)+1,()),(),())) (g ((q,(k:Int),()),(),()))):
 Tot (fun (r:LY)=>∃ y,r = .inr y) (rl LX LY (fun x=>bif decide (x.1.2.1<(n:Int)) then bif inB x.1.2.1 n then g x else none else some (Sum.inr (Sum.inr ((x.1.1,()),(),())))) ((q0,0,()),(),())):=by
 refine zao (fun x=>∃ k:Nat,x.1.2.1=(k:Int)/\k<=n) (fun x=>((n:Int)-x.1.2.1).toNat) ⟨0,rfl,by omega⟩ ?_
 rintro ⟨⟨(q:Bool),(i:Int),_⟩,_⟩ ⟨k,e,hk⟩;dsimp only at e ⊢
 subst e;refine zac (fun h1=>?_) fun h1=>zab ⟨_,rfl⟩
 simp only [qaa]at h1;refine zae (zaj.2 ⟨by omega,by omega⟩) ((h q k (by omega)).mono ?_)
 rintro _ ⟨q',rfl⟩;exact ⟨⟨k+1,by dsimp only;omega,by omega⟩,by dsimp only;omega⟩
end Go.VI
namespace Go.VI
open Go
theorem wf_u{n:Int}(h:(Lit.int .u64 n).wf=true):0<=n/\n<18446744073709551616:=by
 simp only [Lit.wf,qae,qaa]at h;have e1:IntKind.u64.min=0:=rfl
 have e2:IntKind.u64.max=18446744073709551615:=rfl
 omega
end Go.VI
namespace Go.VI.P
open Go
open Go.RowKit
structure Good (h:Hp):Prop where
 ok:okH h=true
 sp:∀ (k:Nat) (g:Pg),h.pages[k]?=some g->g.kind=0\/g.space=h.space
 pg:∀ k:Nat,k<h.pages.length->zbc h k=0
 cls:∀ (k:Nat) (g:Pg),h.pages[k]?=some g->∀ x∈zaD h k,(g.kind=1->zaO (atH h x).k (atH h x).n (atH h x).m<=zdG h.pw h.np)/\(g.kind=2->¬(atH h x).k=0)
 zero:∀ p:Int,4096<=p->p<4096+h.np*h.pw->(∃ x∈zaL h,x<=p/\p<x+zc3 h x)\/zas h.words p=0
 ptr:∀ a∈zag h,∀ i:Int,ptrB (atH h a).k (atH h a).n (atH h a).m i=true->zas h.words (a+1+i)=0\/zas h.words (a+1+i)∈zag h
 crowd:(zaS h.pages:Int)<=h.np / 4
theorem zb5{h:Hp}{k:Nat}{g:Pg}(e:h.pages[k]?=some g):pgAt h k=g:=by
 unfold pgAt;rw [qad];exact zav e
theorem zk5(h:Hp)(i:Nat)(hb:0<=h.pw):∀ (l:List Bool) (k:Nat),zc1 h i k l=0↔∀ t b,l[t]?=some b->b=true\/zjq h i ((k+t:Nat):Int)=0
 | [],k=>by simp [zc1]
 | c::l,k=>by
  rw [zc1];have hpos:0<=(i:Int)*h.pw:=qa0 (by omega) hb
  by_cases hc:c=false/\¬zjq h i k=0
  · rw [if_pos hc];constructor
    · intro e;omega
    · intro h2;have:=h2 0 c rfl
      rw [hc.1]at this;rcases this with e | e
      · cases e
      · exact absurd e hc.2
  · rw [if_neg hc,zk5 h i hb l (k+1)];constructor
    · intro h2 t b ht;cases t with
      | zero=>
       simp only [qca,Option.some.injEq]at ht;subst ht;by_cases q:zjq h i k=0
       · right;exact q
       · left
         cases c
         · exact absurd ⟨rfl,q⟩ hc
         · rfl
      | succ t=>
       rw [qbg]at ht;have:=h2 t b ht
       rwa [show k+1+t=k+(t+1) from by omega]at this
    · intro h2 t b ht;have:=h2 (t+1) b (by rw [qbg];exact ht)
      rwa [show k+(t+1)=k+1+t from by omega]at this
theorem zjd(all:List Int)(x:Hd):∀ (l:List Int) (k:Nat),za1 all x k l=none↔∀ t f,l[t]?=some f->ptrB x.k x.n x.m ((k+t:Nat):Int)=true->f=0\/f∈all
 | [],k=>by simp [za1]
 | c::l,k=>by
  rw [za1];by_cases hc:ptrB x.k x.n x.m k=true/\¬c=0/\¬c∈all
  · rw [if_pos hc];constructor
    · intro e;cases e
    · intro h2;rcases h2 0 c rfl hc.1 with e | e
      · exact absurd e hc.2.1
      · exact absurd e hc.2.2
  · rw [if_neg hc,zjd all x l (k+1)];constructor
    · intro h2 t f ht hp;cases t with
      | zero=>
       simp only [qca,Option.some.injEq]at ht;subst ht;by_cases q:c=0
       · left;exact q
       · by_cases q2:c∈all
         · right;exact q2
         · exact absurd ⟨hp,q,q2⟩ hc
      | succ t=>
       rw [qbg]at ht;exact h2 t f ht (by rwa [show k+1+t=k+(t+1) from by omega])
    · intro h2 t f ht hp;exact h2 (t+1) f (by rw [qbg];exact ht) (by rwa [show k+(t+1)=k+1+t from by omega])
theorem znu{h:Hp}{a:Int}(ha:a∈zag h):getE h a=0/\getH h a=atH h a:=by
 obtain ⟨e1,e2⟩:=zdr ha;obtain ⟨h1,-⟩:=zgn e1;have hb:=zvw e1;obtain ⟨g1,g2⟩:=zri (a:=a) h1 (by omega) (fun c=>e2 c.2)
 exact ⟨by rw [g1];exact e1,g2⟩
theorem zuU{h:Hp}{a:Int}(ha:a∈zag h){t:Nat}(ht:(t:Int)<(atH h a).n):(zbM h a)[t]?=some (zas h.words (a+1+t)):=by
 obtain ⟨g1,g2⟩:=znu ha;obtain ⟨i,j,G,b⟩:=zam ha;have hwl:=b.wl;have hp:=b.pos;unfold osz at hwl;unfold zbM;rw [if_pos g1,g2];obtain ⟨n,hn⟩:=qaQ (show 0<=(atH h a).n by omega)
 rw [hn]at ht hwl ⊢
 obtain ⟨s,hs⟩:∃ s:Nat,a+1=4096+(s:Int):=⟨(a+1-4096).toNat,by omega⟩
 have hok:okA h.words.length (4096+(s:Int)) n=true:=zaE.2 (by omega)
 rw [hs,(read_ok hok).1,qa6,if_pos (by omega),qa5]
 have hlt:s+t<h.words.length:=by omega
 have ho:okA h.words.length (4096+((s+t:Nat):Int)) 1=true:=zaE.2 (by omega)
 rw [show 4096+(s:Int)+t=4096+((s+t:Nat):Int) from by omega,(zss ho (qap hlt)).1,qap hlt]
theorem ztw{h:Hp}{a:Int}(ha:a∈zag h):((zbM h a).length:Int)=(atH h a).n:=by
 obtain ⟨g1,g2⟩:=znu ha;obtain ⟨i,j,G,b⟩:=zam ha;have hwl:=b.wl;have hp:=b.pos;unfold osz at hwl hp;unfold zbM;rw [if_pos g1,g2];obtain ⟨n,hn⟩:=qaQ (show 0<=(atH h a).n by omega)
 rw [hn]at hwl ⊢
 obtain ⟨s,hs⟩:∃ s:Nat,a+1=4096+(s:Int):=⟨(a+1-4096).toNat,by omega⟩
 have hok:okA h.words.length (4096+(s:Int)) n=true:=zaE.2 (by omega)
 rw [hs,(read_ok hok).1,qau,qaG];omega
theorem zhc{ps:List Pg}{k:Nat}(h0:¬(ps.getD k Pg.zero).kind=3):∀ (d:Nat),(∀ t,k<t->t<=k+d->(ps.getD t Pg.zero).kind=3)->zbr ps (k+d)=k
 | 0,_=>by
  cases k with
  | zero=>rfl
  | succ j=>rw [qa4,zbr,if_neg h0]
 | d+1,hd=>by
  rw [show k+(d+1)=(k+d)+1 from rfl,zbr,if_pos (hd (k+d+1) (by omega) (by omega))]
  exact zhc h0 d fun t h1 h2=>hd t h1 (by omega)
theorem zcF{h:Hp}(h1:okH h=true)(h2:∀ k:Nat,k<h.pages.length->zbc h k=0){x:Int}:x∈zaL h↔∃ k:Nat,k<h.pages.length/\x∈zaD h k:=by
 rw [(zd3 h1 h2).2];unfold zbw;rw [List.mem_flatMap];constructor
 · rintro ⟨k,hk,hx⟩;exact ⟨k,qbJ.1 hk,hx⟩
 · rintro ⟨k,hk,hx⟩;exact ⟨k,qbJ.2 hk,hx⟩
theorem zik{h:Hp}{i:Nat}{t:Nat}(hc:confB h.pw h.np=true)(hi:(i:Int)<h.np)(ht:(t:Int)<h.pw):zjq h i (t:Int)=zas h.words (4096+(i:Int)*h.pw+t):=by
 unfold zjq;rw [(zdy hc (by unfold inPg;exact qac ⟨by omega,hi,by omega,ht⟩)).1]
theorem zta{pw np p:Int}(hc:confB pw np=true)(h0:4096<=p)(h1:p<4096+np*pw):∃ (i t:Nat),p=4096+(i:Int)*pw+t/\(i:Int)<np/\(t:Int)<pw:=by
 have c:=zai hc;have e1:=Int.mul_ediv_add_emod (p-4096) pw;have e2:=Int.emod_nonneg (p-4096) (b:=pw) (by omega)
 have e3:=Int.emod_lt_of_pos (p-4096) (b:=pw) (by omega)
 have e4:=qbP (a:=p-4096) (b:=pw) (by omega) (by omega)
 have e5:(p-4096) / pw<np:=qco (by omega) (by omega)
 rw [Int.mul_comm]at e1;generalize (p-4096) / pw=I at *
 refine ⟨I.toNat,((p-4096) % pw).toNat,?_,by omega,by omega⟩
 rw [qcC e4,qcC e2];omega
theorem zj4(h:Hp)(i:Nat)(l:List Int){t:Nat}(ht:(t:Int)<h.pw):(zf4 h i l)[t]?=some (zm6 h i l t):=by
 unfold zf4;rw [qbo,List.getElem?_range (by omega)];rfl
theorem zm5{h:Hp}{i t:Nat}{l:List Int}:zm6 h i l t=true↔∃ x∈l,x<=4096+(i:Int)*h.pw+t/\4096+(i:Int)*h.pw+t<x+zc3 h x:=by
 unfold zm6;rw [qb4];constructor
 · rintro ⟨x,hx,h1⟩;exact ⟨x,hx,by simp only [qaa]at h1;omega⟩
 · rintro ⟨x,hx,h1⟩;exact ⟨x,hx,qac (by omega)⟩
theorem zgK{h:Hp}(h1:okH h=true):(h.pages.length:Int)=h.np:=(zaq h1).2.2.1
theorem zb6{h:Hp}(h1:okH h=true){k:Nat}(hk:k<h.pages.length){x:Int}(hx:x∈zaD h k):∃ j g,Begins h x k j g:=by
 obtain ⟨j,g,b⟩:=(zi1 h1 k hk).2 x hx;exact ⟨j,g,b⟩
end Go.VI.P
namespace Go.VI.P
open Go
open Go.RowKit
def Tile(sz:Int->Int):Int->Int->List Int->Prop
 | a,b,[]=>a=b
 | a,b,q::r=>q=a/\1<=sz q/\Tile sz (a+sz q) b r
theorem zqv{sz:Int->Int}:∀ {l:List Int} {a b:Int},Tile sz a b l->a<=b
 | [],a,b,h=>by have:a=b:=h;omega
 | q::r,a,b,h=>by obtain ⟨h1,h2,h3⟩:=h;have:=zqv h3;omega
theorem zna{sz:Int->Int}:∀ {l:List Int} {a b:Int},Tile sz a b l->∀ q∈l,a<=q/\1<=sz q/\q+sz q<=b
 | [],a,b,h,q,hq=>by cases hq
 | c::r,a,b,h,q,hq=>by
  obtain ⟨h1,h2,h3⟩:=h;rcases qat.1 hq with e | e
  · subst e;have:=zqv h3;omega
  · have:=zna h3 q e;omega
theorem zoE{sz:Int->Int}:∀ {l:List Int} {a b c:Int},Tile sz a b l->1<=sz b->c=b+sz b->Tile sz a c (l++[b])
 | [],a,b,c,h,h1,e=>by
  have:a=b:=h
  subst this;exact ⟨rfl,h1,e.symm⟩
 | q::r,a,b,c,h,h1,e=>⟨h.1,h.2.1,zoE h.2.2 h1 e⟩
theorem zde{sz sz':Int->Int}:∀ {l:List Int} {a b:Int},(∀ q∈l,sz' q=sz q)->Tile sz a b l->Tile sz' a b l
 | [],a,b,_,h=>h
 | q::r,a,b,he,h=>by
  have e:=he q (qbe ..);refine ⟨h.1,by rw [e];exact h.2.1,?_⟩
  rw [e];exact zde (fun c hc=>he c (qaH _ hc)) h.2.2
theorem at_mk{h:Hp}(hok:okH h=true){k j:Nat}{g:Pg}(hg:h.pages[k]?=some g)(hj:(j:Int)<h.pw){x:Int}(hx:x=4096+(k:Int)*h.pw+j)(hd:okD (zaw h x)=true)
 (hk:(g.kind=1/\(j:Int)+(dN (zaw h x)+1)<=g.used)\/(g.kind=2/\j=0/\(dN (zaw h x):Int)+1=g.used)):atE h x=0/\atH h x=hdOf (zaw h x):=by
 have hc:=(zaq hok).1;have hlen:=zgK hok;have hkl:=(qak.1 hg).1;obtain ⟨q1,q2,q3⟩:=zh9 (p:=(k:Int)) (o:=(j:Int)) hc (by unfold inPg;exact qac ⟨by omega,by omega,by omega,hj⟩)
 obtain ⟨o1,o2,o3⟩:=zgO hc q1;rw [<-hx]at o1 o2 o3;rw [hx]at hd hk;rw [<-hx]at q1;have e1:ofI h.pw h.np x=(k:Int):=by rw [o1,hx];exact q2
 have e2:ofK h.pw h.np x=(j:Int):=by rw [o2,hx];exact q3
 have epg:zb9 h x=g:=by unfold zb9;rw [e1,qad];exact zav hg
 rw [<-hx]at hd hk;refine zmU hok o3 ?_;unfold atB;rw [epg,e2,hd];rcases hk with ⟨k1,k2⟩ | ⟨k1,k2,k3⟩
 · rw [if_pos k1,qac (show g.kind=1\/g.kind=2 from .inl k1),qac (show (j:Int)<g.used by omega),qac k2];rfl
 · rw [if_neg (show ¬g.kind=1 by omega),qac (show g.kind=1\/g.kind=2 from .inr k1),qac (show (j:Int)<g.used by omega),qac (show (j:Int)=0/\(dN (zaw h x):Int)+1=g.used from ⟨by omega,k3⟩)];rfl
theorem zoD{h:Hp}(hok:okH h=true){k:Nat}{g:Pg}(hg:h.pages[k]?=some g)(h1:g.kind=1)(hu:g.used<=h.pw){sz:Int->Int}:∀ (l:List Int) (o:Nat),Tile sz (4096+(k:Int)*h.pw+o) (4096+(k:Int)*h.pw+g.used) l->(∀ q∈l,okD (zaw h q)=true/\sz q=dN (zaw h q)+1)->zb1 h k false g.used.toNat o=some l
 | [],o,ht,_=>by
  have:4096+(k:Int)*h.pw+o=4096+(k:Int)*h.pw+g.used:=ht
  exact zbF (by omega)
 | q::r,o,ht,hq=>by
  obtain ⟨e1,e2,e3⟩:=ht;obtain ⟨d1,d2⟩:=hq q (qbe ..);have hle:=zqv e3;have hc:=(zaq hok).1;have hlen:=zgK hok;have hkl:=(qak.1 hg).1;have ead:za2 h.pw h.np k o=q:=by
   rw [(zdy hc (by unfold inPg;exact qac ⟨by omega,by omega,by omega,by omega⟩)).1]
   exact e1.symm
  obtain ⟨a1,a2⟩:=at_mk hok hg (j:=o) (by omega) (x:=q) e1 d1 (.inl ⟨h1,by omega⟩)
  have en:(atH h q).n=dN (zaw h q):=by rw [a2];rfl
  have hs:=zcZ (h:=h) (i:=(k:Int)) (u:=g.used.toNat) (o:=o) (by omega) (by rw [ead];exact a1)
  rw [ead]at hs;rw [hs,zoD hok hg h1 hu r (o+((atH h q).n.toNat+1)) (by
   have:4096+(k:Int)*h.pw+o+sz q=4096+(k:Int)*h.pw+((o+((atH h q).n.toNat+1):Nat):Int):=by rw [en];omega
   rw [<-this];exact e3) (fun x hx=>hq x (qaH _ hx))]
  rfl
theorem zmn{h:Hp}(hok:okH h=true){k:Nat}{g:Pg}(hg:h.pages[k]?=some g)(h1:g.kind=1)(hu0:0<=g.used)(hu:g.used<=h.pw){sz:Int->Int}{l:List Int}(ht:Tile sz (4096+(k:Int)*h.pw) (4096+(k:Int)*h.pw+g.used) l)(hq:∀ q∈l,okD (zaw h q)=true/\sz q=dN (zaw h q)+1):
 zbc h k=0/\zaD h k=l:=by
 have hkl:=(qak.1 hg).1;refine zgL hok (by omega) (by rw [zb5 hg];omega) ?_
 unfold zco;rw [zb5 hg,qaj (show ¬g.kind=2 by omega)]
 exact zoD hok hg h1 hu l 0 (by simpa using ht) hq
theorem ztp{h:Hp}(hok:okH h=true){k:Nat}{g:Pg}(hg:h.pages[k]?=some g)(h1:g.kind=2)(hd:okD (zaw h (4096+(k:Int)*h.pw))=true)(hs:(dN (zaw h (4096+(k:Int)*h.pw)):Int)+1=g.used):
 zbc h k=0/\zaD h k=[4096+(k:Int)*h.pw]/\atE h (4096+(k:Int)*h.pw)=0/\atH h (4096+(k:Int)*h.pw)=hdOf (zaw h (4096+(k:Int)*h.pw)):=by
 have hkl:=(qak.1 hg).1;have hc:=(zaq hok).1;have c:=zai hc;have hlen:=zgK hok;obtain ⟨a1,a2⟩:=at_mk hok hg (j:=0) (by omega) (x:=4096+(k:Int)*h.pw) (by omega) hd (.inr ⟨h1,rfl,hs⟩)
 have ead:za2 h.pw h.np k (0:Nat)=4096+(k:Int)*h.pw:=by
  rw [(zdy hc (by unfold inPg;exact qac ⟨by omega,by omega,by omega,by omega⟩)).1];omega
 have hw:zco h k=some [4096+(k:Int)*h.pw]:=by
  unfold zco;rw [zb5 hg,qac h1];have:=zdE (h:=h) (i:=(k:Int)) (u:=g.used.toNat) (o:=0) (by omega) (by rw [ead];exact a1)
  rw [ead]at this;exact this
 obtain ⟨p1,p2⟩:=zgL hok (i:=(k:Int)) (by omega) (by rw [zb5 hg];omega) hw
 exact ⟨p1,p2,a1,a2⟩
theorem zgP{h:Hp}(hok:okH h=true){k:Nat}{g:Pg}(hg:h.pages[k]?=some g)(h1:g.kind=0\/g.kind=3):zbc h k=0/\zaD h k=[]:=by
 have hkl:=(qak.1 hg).1;exact ze0 hok (by omega) (by rw [zb5 hg];exact h1)
theorem zoz{h:Hp}(hok:okH h=true){k:Nat}{g:Pg}(hg:h.pages[k]?=some g)(h1:g.kind=1)(hu:g.used<=h.pw):∀ (f o:Nat) (l:List Int),g.used.toNat-o<=f->(o:Int)<=g.used->zb1 h k false g.used.toNat o=some l->Tile (osz h) (4096+(k:Int)*h.pw+o) (4096+(k:Int)*h.pw+g.used) l
 | f,o,l,hf,ho,hl=>by
  by_cases hlt:o<g.used.toNat
  · cases f with
    | zero=>omega
    | succ f=>
     have hc:=(zaq hok).1;have hlen:=zgK hok;have hkl:=(qak.1 hg).1;by_cases e:atE h (za2 h.pw h.np k o)=0
     · rw [zcZ hlt e]at hl;have ead:za2 h.pw h.np k o=4096+(k:Int)*h.pw+o:=(zdy hc (by unfold inPg;exact qac ⟨by omega,by omega,by omega,by omega⟩)).1
       rw [ead]at hl e;cases hr:zb1 h k false g.used.toNat (o+((atH h (4096+(k:Int)*h.pw+o)).n.toNat+1)) with
       | none=>rw [hr]at hl;cases hl
       | some r=>
        rw [hr]at hl;cases hl;obtain ⟨i,j,G,b⟩:=zfX e;have hpos:=b.pos;have hn:0<=(atH h (4096+(k:Int)*h.pw+o)).n:=by have:=hpos.1;unfold osz at this;omega
        obtain ⟨q1,q2,q3⟩:=zh9 (p:=(k:Int)) (o:=(o:Int)) hc (by unfold inPg;exact qac ⟨by omega,by omega,by omega,by omega⟩)
        obtain ⟨o1,o2,o3⟩:=zgO hc q1;have hik:(i:Int)=k:=by rw [<-b.oi,o1];exact q2
        obtain rfl:i=k:=by omega
        have hG:G=g:=by have:=b.pg;rw [hg]at this;injection this with this;exact this.symm
        subst hG;have hkd:=b.kd;have had:=b.ad;have hjo:(j:Int)=o:=by omega
        have hfit:(o:Int)+osz h (4096+(i:Int)*h.pw+o)<=G.used:=by
         rcases hkd with ⟨a1,a2,-⟩ | ⟨a1,-⟩
         · omega
         · omega
        unfold osz at hfit;refine ⟨rfl,hpos.1,?_⟩;have:=zoz hok hg h1 hu f _ r (by omega) (by omega) hr
        rwa [show 4096+(i:Int)*h.pw+((o+((atH h (4096+(i:Int)*h.pw+o)).n.toNat+1):Nat):Int)=4096+(i:Int)*h.pw+o+osz h (4096+(i:Int)*h.pw+o) from by unfold osz;omega]at this
     · rw [zcU hlt e]at hl;cases hl
  · rw [zbF hlt]at hl;cases hl;show _=_
    omega
theorem zmm{h:Hp}(hok:okH h=true){k:Nat}{g:Pg}(hg:h.pages[k]?=some g)(h1:g.kind=1)(hp:zbc h k=0):
 0<=g.used/\g.used<=h.pw/\Tile (osz h) (4096+(k:Int)*h.pw) (4096+(k:Int)*h.pw+g.used) (zaD h k)/\∀ q∈zaD h k,okD (zaw h q)=true/\osz h q=dN (zaw h q)+1:=by
 have hkl:=(qak.1 hg).1;obtain ⟨p1,p2,p3,p4,p5,p6,p7⟩:=zaq hok;have hm:=zbx _ _ _ _ p7 g (qaK hg);have hu:=hm.2.2.2.2.2.1 h1;refine ⟨hu.1,hu.2,?_,fun q hq=>?_⟩
 · have hw:=zd6 hok (i:=(k:Int)) (by omega) (by rw [zb5 hg];omega)
   rw [hp]at hw;have hs:(zco h k).isSome=true:=by
    cases e:(zco h k).isSome
    · rw [e]at hw;exact absurd hw.1 (by decide)
    · rfl
   obtain ⟨l,hl⟩:=qcA.1 hs;rw [hl]at hw;rw [hw.2];unfold zco at hl;rw [zb5 hg,qaj (show ¬g.kind=2 by omega)]at hl
   have:=zoz hok hg h1 hu.2 g.used.toNat 0 l (by omega) (by omega) hl
   simpa using this
 · obtain ⟨i,j,G,b⟩:=zfX (zdJ hq);exact ⟨b.od,b.sz⟩
theorem zpy{h:Hp}(hok:okH h=true){k:Nat}{g:Pg}(hg:h.pages[k]?=some g)(h1:g.kind=2)(hp:zbc h k=0):
 zaD h k=[4096+(k:Int)*h.pw]/\okD (zaw h (4096+(k:Int)*h.pw))=true/\(dN (zaw h (4096+(k:Int)*h.pw)):Int)+1=g.used/\atE h (4096+(k:Int)*h.pw)=0:=by
 have hkl:=(qak.1 hg).1;obtain ⟨p1,p2,p3,p4,p5,p6,p7⟩:=zaq hok;have c:=zai p1;have hm:=zbx _ _ _ _ p7 g (qaK hg);have hu:=zg3 (hm.2.2.2.2.2.2.1 h1);have hw:=zd6 hok (i:=(k:Int)) (by omega) (by rw [zb5 hg];omega)
 rw [hp]at hw;have hs:(zco h k).isSome=true:=by
  cases e:(zco h k).isSome
  · rw [e]at hw;exact absurd hw.1 (by decide)
  · rfl
 obtain ⟨l,hl⟩:=qcA.1 hs;rw [hl]at hw;have ead:za2 h.pw h.np k (0:Nat)=4096+(k:Int)*h.pw:=by
  rw [(zdy p1 (by unfold inPg;exact qac ⟨by omega,by omega,by omega,by omega⟩)).1];omega
 have hlt:0<g.used.toNat:=by omega
 unfold zco at hl;rw [zb5 hg,qac h1]at hl;have he:atE h (4096+(k:Int)*h.pw)=0:=by
  refine qbL fun e=>?_
  rw [zcU hlt (by rw [ead];exact e)]at hl
  cases hl
 rw [zdE hlt (by rw [ead];exact he),ead]at hl
 cases hl;obtain ⟨i,j,G,b⟩:=zfX he;obtain ⟨q1,q2,q3⟩:=zh9 (p:=(k:Int)) (o:=0) p1 (by unfold inPg;exact qac ⟨by omega,by omega,by omega,by omega⟩)
 obtain ⟨o1,o2,o3⟩:=zgO p1 q1;have hik:(i:Int)=k:=by
  have:=b.oi
  rw [show (4096+(k:Int)*h.pw)=4096+(k:Int)*h.pw+0 from by omega,o1]at this
  rw [<-this];exact q2
 obtain rfl:i=k:=by omega
 have hG:G=g:=by have:=b.pg;rw [hg]at this;injection this with this;exact this.symm
 subst hG;refine ⟨hw.2,b.od,?_,he⟩;have:=b.sz
 rcases b.kd with ⟨a1,-⟩ | ⟨a1,a2,a3,a4⟩
 · omega
 · omega
theorem ziX{h:Hp}(G:Good h){a b:Int}(ha:a∈zaL h)(hb:b∈zaL h)(hne:a≠b):a+osz h a<=b\/b+osz h b<=a:=by
 rw [(zd3 G.ok G.pg).2]at ha hb;have hp:=(zdi G.ok h.pages.length (qam _)).1;rcases zeY hp ha hb with e | e | e
 · exact absurd e hne
 · exact .inl e
 · exact .inr e
theorem zuT{h:Hp}{a:Int}:a∈zag h↔a∈zaL h/\¬(atH h a).k=0:=by
 unfold zag zbW;rw [qbG,qaa]
end Go.VI.P
namespace Go.VI.P
open Go
open Go.RowKit
theorem zdh{h:Hp}{x:Int}(h0:4096<=x):zaw h x=(zas h.words x).toNat:=by
 unfold zaw zas;by_cases c:okA h.words.length x 1=true
 · rw [if_pos c]
 · rw [if_neg c];have:¬(x-4096).toNat<h.words.length:=fun q=>c (zaE.2 (by omega))
   rw [qay,qbQ (by omega)];rfl
theorem zoL{k n m i:Int}(h:ptrB k n m i=true):zaA k n m=true/\0<=i/\i<n:=by
 unfold ptrB at h;simp only [qae,qaa]at h;exact ⟨h.1.1.1,h.1.1.2,h.1.2⟩
theorem zuv{h h':Hp}(hok:okH h=true)(ok':okH h'=true)(epw:h'.pw=h.pw){k:Nat}{g g':Pg}(hg:h.pages[k]?=some g)(hg':h'.pages[k]?=some g')(e1:g'.kind=g.kind)(e2:g'.used=g.used)(hp:zbc h k=0)
 (hw:∀ x∈zaD h k,zaw h' x=zaw h x):zbc h' k=0/\zaD h' k=zaD h k:=by
 by_cases k1:g.kind=1
 · obtain ⟨t1,t2,t3,t4⟩:=zmm hok hg k1 hp;refine zmn ok' hg' (by omega) (by omega) (by omega) (sz:=osz h) (by rw [epw,e2];exact t3) fun q hq=>?_
   rw [hw q hq];exact t4 q hq
 by_cases k2:g.kind=2
 · obtain ⟨t1,t2,t3,t4⟩:=zpy hok hg k2 hp;have hwb:=hw (4096+(k:Int)*h.pw) (by rw [t1];exact qaw.2 rfl)
   obtain ⟨r1,r2,-⟩:=ztp ok' hg' (by omega) (by rw [epw,hwb];exact t2) (by rw [epw,hwb,e2];exact t3)
   exact ⟨r1,by rw [r2,t1,epw]⟩
 · have hz:g.kind=0\/g.kind=3:=by
    obtain ⟨p1,p2,p3,p4,p5,p6,p7⟩:=zaq hok;have:=(zbx _ _ _ _ p7 g (qaK hg)).2.2.2.2.2.2.2.2
    omega
   obtain ⟨r1,r2⟩:=zgP hok hg hz;obtain ⟨s1,s2⟩:=zgP ok' hg' (by omega)
   exact ⟨s1,by rw [s2,r2]⟩
theorem zu6{xs:List Int}{A k n m:Int}(hn:0<=n)(hok:okA xs.length A (zdv k n m).length=true):zas (zaF xs A (zdv k n m)) A=zdD k n m/\(∀ i,0<=i->i<n->zas (zaF xs A (zdv k n m)) (A+1+i)=0)/\∀ p,p<A\/A+(n+1)<=p->zas (zaF xs A (zdv k n m)) p=zas xs p:=by
 have hlen:=zhb (k:=k) (n:=n) (m:=m)
 have hk:=zaE.1 hok;obtain ⟨i0,hi0⟩:∃ i0:Nat,A=4096+(i0:Int):=⟨(A-4096).toNat,by omega⟩
 have hsp:zaF xs A (zdv k n m)=Go.splice xs i0 (zdv k n m):=by rw [hi0];rw [hi0]at hok;exact (zr5 hok).1
 have hfit:i0+(zdv k n m).length<=xs.length:=by omega
 refine ⟨?_,fun i q0 q1=>?_,fun p hp=>za9 hok (by omega)⟩
 · rw [zcV _ (by omega),hsp,hi0,show ((4096+(i0:Int))-4096).toNat=i0 from by omega,zdj hfit (qam _) (by omega),qbK];rfl
 · rw [zcV _ (by omega),hsp,hi0,show (4096+(i0:Int)+1+i-4096).toNat=i0+(i.toNat+1) from by omega,zdj hfit (by omega) (by omega),show i0+(i.toNat+1)-i0=i.toNat+1 from by omega]
   unfold zdv;rw [qbg,qcb,if_pos (by omega)];rfl
theorem zuP{h:Hp}{ws:List Int}(hl:ws.length=h.words.length):okH { h with words:=ws }=okH h:=by
 unfold okH;show zcI h.pw h.np ws.length h.pages h.space h.bump=_
 rw [hl]
end Go.VI.P
namespace Go.VI.P
open Go
open Go.RowKit
theorem ziY(pw np:Int):∀ n:Nat,zaG pw np (List.replicate n Pg.zero) 0=true
 | 0=>rfl
 | n+1=>by
  rw [qcy,zaG];have:zbT pw np Pg.zero (List.replicate n Pg.zero) 0=some 0:=by
   unfold zbT;rw [if_neg (by unfold Pg.zero zeO;decide),if_pos (by rfl),if_pos rfl];rfl
  rw [this];exact ziY pw np n
theorem zk7:∀ n:Nat,zaS (List.replicate n Pg.zero)=0
 | 0=>rfl
 | n+1=>by rw [qcy,zaS,zk7 n];rfl
theorem ztt{pw np:Int}(hc:confB pw np=true):Good (zl1 pw np)/\zag (zl1 pw np)=[]/\WB (zl1 pw np).words:=by
 obtain ⟨e,-⟩:=znM hc;obtain ⟨c1,c2⟩:=conf_prod hc;have c:=zai hc;rw [e];have hok:okH ⟨pw,np,List.replicate (np*pw).toNat 0,List.replicate np.toNat Pg.zero,0,-1⟩=true:=by
  unfold okH;show zcI pw np (List.replicate (np*pw).toNat 0).length (List.replicate np.toNat Pg.zero) 0 (-1)=true
  rw [zoM hc (by rw [qbc];omega) (by rw [qbc];omega) (by omega) (by omega) (by unfold zfk;exact qac (.inl rfl))]
  exact ziY pw np _
 have hpg:∀ (k:Nat) (g:Pg),(List.replicate np.toNat Pg.zero)[k]?=some g->g=Pg.zero:=fun k g hg=>by
  rw [qcb]at hg;split at hg
  · injection hg with hg;exact hg.symm
  · cases hg
 have hnone:∀ k:Nat,k<(List.replicate np.toNat Pg.zero).length->zbc ⟨pw,np,List.replicate (np*pw).toNat 0,List.replicate np.toNat Pg.zero,0,-1⟩ k=0/\zaD ⟨pw,np,List.replicate (np*pw).toNat 0,List.replicate np.toNat Pg.zero,0,-1⟩ k=[]:=fun k hk=>
  zgP hok (g:=Pg.zero) (by show (List.replicate np.toNat Pg.zero)[k]?=_;rw [qcb,if_pos (by simpa using hk)]) (.inl rfl)
 have hob:zag ⟨pw,np,List.replicate (np*pw).toNat 0,List.replicate np.toNat Pg.zero,0,-1⟩=[]:=by
  refine List.eq_nil_iff_forall_not_mem.2 fun x hx=>?_
  obtain ⟨k,hk,h2⟩:=(zcF hok (fun k hk=>(hnone k hk).1)).1 (zuT.1 hx).1
  rw [(hnone k hk).2]at h2;cases h2
 refine ⟨⟨hok,fun k g hg=>?_,fun k hk=>(hnone k hk).1,fun k g hg x hx=>?_,fun p p0 p1=>?_,fun a ha=>?_,?_⟩,hob,WB.zeros _⟩
 · rw [hpg k g hg];exact .inl rfl
 · rw [(hnone k (qak.1 hg).1).2]at hx;cases hx
 · right
   unfold zas;split
   · rw [qay,qcb];split <;> rfl
   · rfl
 · rw [hob]at ha;cases ha
 · show (zaS (List.replicate np.toNat Pg.zero):Int)<=np / 4
   rw [zk7];omega
end Go.VI.P
namespace Go.VI.P
open Go
open Go.RowKit
def bs(h:Hp)(k:Nat):Int:=4096+(k:Int)*h.pw
def Fw(os qs:List Int)(v w:Int):Prop:=(v=0/\w=0)\/∃ t:Nat,os[t]?=some v/\qs[t]?=some w
theorem Fw.more{os qs os' qs':List Int}{v w:Int}(h:Fw os qs v w)(h1:∃ l,os'=os++l)(h2:∃ l,qs'=qs++l):Fw os' qs' v w:=by
 rcases h with e | ⟨t,e1,e2⟩
 · exact .inl e
 · obtain ⟨l1,rfl⟩:=h1;obtain ⟨l2,rfl⟩:=h2;have t1:=(qak.1 e1).1;have t2:=(qak.1 e2).1;exact .inr ⟨t,by rw [qbR t1];exact e1,by rw [qbR t2];exact e2⟩
structure CI (h:Hp) (x:Wk) (os:List Int) (D:Nat->Int->Prop):Prop where
 inv:Inv h x
 len:os.length=x.queue.length
 dl:∀ i j,D i j->i<os.length
 oin:∀ o∈os,o∈zag h
 qnd:x.queue.Nodup
 seen:∀ a∈zag h,a∈os↔(a∈x.queue\/okT (evWd x a).toNat=true)
 plc:∀ (i:Nat) (o q:Int),os[i]?=some o->x.queue[i]?=some q->q=o\/(okT (evWd x o).toNat=true/\tgtV (evWd x o).toNat=q/\zbj x q/\∀ i' j' g',Begins h o i' j' g'->g'.kind=1)
 hd:∀ (i:Nat) (o q:Int),os[i]?=some o->x.queue[i]?=some q->evWd x q=zas h.words o
 fl:∀ (i:Nat) (o q:Int),os[i]?=some o->x.queue[i]?=some q->∀ j,0<=j->j<(atH h o).n->(D i j->ptrB (atH h o).k (atH h o).n (atH h o).m j=true->Fw os x.queue (zas h.words (o+1+j)) (zas x.h.words (q+1+j)))/\((D i j->ptrB (atH h o).k (atH h o).n (atH h o).m j=false)->zas x.h.words (q+1+j)=zas h.words (o+1+j))
 un:∀ a∈zag h,¬a∈os->∀ j,0<=j->j<osz h a->zas x.h.words (a+j)=zas h.words (a+j)
 ot:∀ p,(∀ a∈zag h,p<a\/a+osz h a<=p)->(∀ (k:Nat) (g0:Pg),h.pages[k]?=some g0->g0.kind=0->p<bs h k\/bs h k+h.pw<=p)->zas x.h.words p=zas h.words p
 fr:∀ (k:Nat) (g0:Pg) (p:Int),h.pages[k]?=some g0->g0.kind=0->bs h k<=p->p<bs h k+h.pw->(¬(k:Int)∈x.taken\/∃ g,x.h.pages[k]?=some g/\bs h k+g.used<=p)->zas x.h.words p=0
 tile:∀ k:Nat,(k:Int)∈x.taken->∃ u l,x.h.pages[k]?=some ⟨1,1-h.space,u,0⟩/\Tile (evN x) (bs h k) (bs h k+u) l/\∀ q,q∈l↔q∈x.queue/\bs h k<=q/\q<bs h k+h.pw
 ppg:∀ (k:Nat) (g0:Pg),h.pages[k]?=some g0->¬(k:Int)∈x.taken->∃ s,x.h.pages[k]?=some ⟨g0.kind,s,g0.used,g0.pins⟩/\(g0.kind=0->s=g0.space)/\(g0.kind=1->s=if 0<g0.pins then 1-h.space else h.space) /\
  (g0.kind=2->s=if bs h k∈x.queue then 1-h.space else h.space)/\(g0.kind=3->s=if bs h (zbr h.pages k)∈x.queue then 1-h.space else h.space)
 kp:∀ q∈x.queue,q∈zag h->∀ i j g,Begins h q i j g->g.kind=2\/(g.kind=1/\0<g.pins)
 wb:WB x.h.words
theorem CI.congr{h:Hp}{x:Wk}{os:List Int}{D E:Nat->Int->Prop}(C:CI h x os D)(el:∀ i j,E i j->i<os.length)(he:∀ (i:Nat) (o:Int),os[i]?=some o->∀ j,ptrB (atH h o).k (atH h o).n (atH h o).m j=true->(D i j↔E i j)):CI h x os E :=
 ⟨C.inv,C.len,el,C.oin,C.qnd,C.seen,C.plc,C.hd,fun i o q h1 h2 j j0 j1=>by
  obtain ⟨f1,f2⟩:=C.fl i o q h1 h2 j j0 j1;refine ⟨fun e p=>f1 ((he i o h1 j p).2 e) p,fun e=>f2 fun d=>?_⟩
  cases hp:ptrB (atH h o).k (atH h o).n (atH h o).m j
  · rfl
  · have:=e ((he i o h1 j hp).1 d)
    rw [hp]at this;exact this,C.un,C.ot,C.fr,C.tile,C.ppg,C.kp,C.wb⟩
theorem zfz{os:List Int}{a o:Int}{i:Nat}(h:(os++[a])[i]?=some o):os[i]?=some o\/(i=os.length/\o=a):=by
 by_cases c:i<os.length
 · rw [qbR c]at h;exact .inl h
 · have hl:=(qak.1 h).1;rw [qaB,qbD]at hl;have e:i=os.length:=by omega
   subst e;rw [qbA (qam _),qbK]at h;simp only [qca,Option.some.injEq]at h;exact .inr ⟨rfl,h.symm⟩
theorem zkN(ps:List Pg):∀ k:Nat,(∀ t,zbr ps k<t->t<=k->(ps.getD t Pg.zero).kind=3)/\(zbr ps k=0\/¬(ps.getD (zbr ps k) Pg.zero).kind=3)
 | 0=>⟨fun t h1 h2=>by unfold zbr at h1;omega,.inl rfl⟩
 | k+1=>by
  obtain ⟨ih1,ih2⟩:=zkN ps k;unfold zbr;by_cases c:(ps.getD (k+1) Pg.zero).kind=3
  · rw [if_pos c];refine ⟨fun t h1 h2=>?_,ih2⟩
    by_cases e:t=k+1
    · rw [e];exact c
    · exact ih1 t h1 (by omega)
  · rw [if_neg c];exact ⟨fun t h1 h2=>by omega,.inr c⟩
theorem ztD{h:Hp}(hp:0<=h.pw){k k':Nat}(hk:k<k'):bs h k+h.pw<=bs h k':=by
 unfold bs;have:((k:Int)+1)*h.pw<=(k':Int)*h.pw:=qaR (by omega) hp
 rw [qa9,qbj]at this;omega
theorem zit{h:Hp}(hp:0<=h.pw){k k':Nat}{p:Int}(h1:bs h k<=p)(h2:p<bs h k+h.pw)(h3:bs h k'<=p)(h4:p<bs h k'+h.pw):k=k':=by
 refine qbL fun c=>?_
 by_cases hlt:k<k'
 · have:=ztD hp hlt;omega
 · have:=ztD (h:=h) hp (show k'<k by omega);omega
theorem zw0{h:Hp}{a:Int}{i j:Nat}{g:Pg}(b:Begins h a i j g):bs h i<=a/\a<bs h i+h.pw:=by
 have:=b.ad
 have:=b.jl
 unfold bs;omega
theorem CI.kept{h:Hp}{x y:Wk}{os:List Int}{D:Nat->Int->Prop}(C:CI h x os D){a:Int}(ha:a∈zag h)(hq:¬a∈x.queue)(ht:okT (evWd x a).toNat=false)
 (Iy:Inv h y) (ew:y.h.words=x.h.words) (eq:y.queue=x.queue++[a]) (et:y.taken=x.taken) (ep:y.h.pw=x.h.pw) (htk:∀ k:Nat,(k:Int)∈x.taken->y.h.pages[k]?=x.h.pages[k]?)
 (hpp:∀ (k:Nat) (g0:Pg),h.pages[k]?=some g0->¬(k:Int)∈x.taken->∃ s,y.h.pages[k]?=some ⟨g0.kind,s,g0.used,g0.pins⟩/\(g0.kind=0->s=g0.space)/\(g0.kind=1->s=if 0<g0.pins then 1-h.space else h.space) /\
  (g0.kind=2->s=if bs h k∈y.queue then 1-h.space else h.space)/\(g0.kind=3->s=if bs h (zbr h.pages k)∈y.queue then 1-h.space else h.space))
 (hkp:∀ i j g,Begins h a i j g->g.kind=2\/(g.kind=1/\0<g.pins)):CI h y (os++[a]) D:=by
 have I:=C.inv;have hcf:=I.conf;have hev:∀ b,evWd y b=evWd x b:=fun b=>by unfold evWd;rw [ew]
 have hevN:∀ b,evN y b=evN x b:=fun b=>by unfold evN;rw [hev]
 have hao:¬a∈os:=fun c=>by
  rcases (C.seen a ha).1 c with e | e
  · exact hq e
  · rw [ht]at e;cases e
 have hcp:∀ q,zbj x q->zbj y q:=fun q ⟨k,g,c1,c2,c3,c4,c5⟩=>⟨k,g,by rw [et];exact c1,by rw [htk k c1];exact c2,by rw [ep];exact c3,by rw [hev];exact c4,by rw [hevN,ep];exact c5⟩
 have e0:evWd x a=zas h.words a:=by
  rcases I.un a ha with e | e
  · exact e
  · rw [ht]at e;exact absurd e.1 (by decide)
 obtain ⟨ia,ja,ga,ba⟩:=zam ha;have hon:=zw0 ba;have hlen:(os++[a]).length=y.queue.length:=by rw [eq,qaB,qaB,C.len]
 have hqg:∀ (i:Nat) (o q:Int),(os++[a])[i]?=some o->y.queue[i]?=some q->(os[i]?=some o/\x.queue[i]?=some q)\/(i=os.length/\o=a/\q=a):=fun i o q h1 h2=>by
  rw [eq]at h2;rcases zfz h1 with e | ⟨e1,e2⟩
  · rcases zfz h2 with e' | ⟨e1',-⟩
    · exact .inl ⟨e,e'⟩
    · have:=(qak.1 e).1
      rw [C.len]at this;omega
  · rcases zfz h2 with e' | ⟨-,e2'⟩
    · have:=(qak.1 e').1
      rw [<-C.len]at this;omega
    · exact .inr ⟨e1,e2,e2'⟩
 refine ⟨Iy,hlen,fun i j d=>by rw [qaB];have:=C.dl i j d;omega,fun o ho=>?_,?_,fun c hc=>?_,fun i o q h1 h2=>?_,fun i o q h1 h2=>?_,fun i o q h1 h2 j j0 j1=>?_,fun c hc hn j j0 j1=>?_,fun p h1 h2=>by rw [ew];exact C.ot p h1 h2,fun k g0 p hg hk h1 h2 h3=>?_,fun k hk=>?_,fun k g0 hg hk=>hpp k g0 hg (by rw [<-et];exact hk),fun q hq2 hqo=>?_,by rw [ew];exact C.wb⟩
 · rcases qas.1 ho with e | e
   · exact C.oin o e
   · rw [qaw.1 e];exact ha
 · rw [eq];exact List.nodup_append.2 ⟨C.qnd,by simp,fun u hu v hv=>by rw [qaw.1 hv];exact fun e=>hq (e ▸ hu)⟩
 · rw [hev,eq,qas,qas,C.seen c hc];simp only [qaw];constructor
   · rintro ((e | e) | e)
     · exact .inl (.inl e)
     · exact .inr e
     · exact .inl (.inr e)
   · rintro ((e | e) | e)
     · exact .inl (.inl e)
     · exact .inr e
     · exact .inl (.inr e)
 · rcases hqg i o q h1 h2 with ⟨e1,e2⟩ | ⟨-,e1,e2⟩
   · rcases C.plc i o q e1 e2 with e | ⟨e3,e4,e5,e6⟩
     · exact .inl e
     · exact .inr ⟨by rw [hev];exact e3,by rw [hev];exact e4,hcp q e5,e6⟩
   · left;rw [e1,e2]
 · rw [hev];rcases hqg i o q h1 h2 with ⟨e1,e2⟩ | ⟨-,e1,e2⟩
   · exact C.hd i o q e1 e2
   · rw [e1,e2];exact e0
 · rw [ew];rcases hqg i o q h1 h2 with ⟨e1,e2⟩ | ⟨ei,e1,e2⟩
   · obtain ⟨f1,f2⟩:=C.fl i o q e1 e2 j j0 j1;exact ⟨fun d p=>(f1 d p).more ⟨_,rfl⟩ ⟨_,eq⟩,f2⟩
   · subst e1 e2;refine ⟨fun d=>by have:=C.dl i j d;omega,fun _=>?_⟩
     have:=C.un q ha hao (j+1) (by omega) (by unfold osz;omega)
     rwa [show q+(j+1)=q+1+j from by omega]at this
 · rw [ew];exact C.un c hc (fun e=>hn (qa1 _ e)) j j0 j1
 · rw [ew];refine C.fr k g0 p hg hk h1 h2 ?_;rw [et]at h3;by_cases c:(k:Int)∈x.taken
   · rcases h3 with e | e
     · exact .inl e
     · rw [htk k c]at e;exact .inr e
   · exact .inl c
 · rw [et]at hk;obtain ⟨u,l,t1,t2,t3⟩:=C.tile k hk;obtain ⟨k2,g0,g2,f1,f2,f3,-⟩:=I.tk _ hk;obtain rfl:k=k2:=by omega
   refine ⟨u,l,by rw [htk k hk];exact t1,zde (fun q _=>hevN q) t2,fun q=>?_⟩
   rw [t3,eq,qas,qaw];constructor
   · rintro ⟨q1,q2⟩;exact ⟨.inl q1,q2⟩
   · rintro ⟨q1 | q1,q2,q3⟩
     · exact ⟨q1,q2,q3⟩
     · subst q1;exfalso
       have:=zit (by omega) q2 q3 hon.1 hon.2
       subst this;have:=ba.pg
       rw [f2]at this;injection this with this
       subst this;rcases ba.kd with ⟨q,-⟩ | ⟨q,-⟩ <;> omega
 · rw [eq]at hq2;rcases qas.1 hq2 with e | e
   · exact C.kp q e hqo
   · rw [qaw.1 e];exact hkp
end Go.VI.P
namespace Go.VI.P
open Go
open Go.RowKit
theorem zoG{h:Hp}(hok:okH h=true){k:Nat}{g:Pg}(hg:h.pages[k]?=some g)(hk:g.kind=3):∃ l y,l<k/\zbr h.pages k=l/\h.pages[l]?=some y/\y.kind=2:=by
 obtain ⟨p1,p2,p3,p4,p5,p6,p7⟩:=zaq hok;have hT:zbt h.pw h.np h.pages=true:=by rw [<-ziZ];exact p7
 have ho:=zbb.1 hT k g hg;unfold zbG at ho;rw [if_neg (by omega),if_neg (by omega),if_neg (by omega),if_pos hk]at ho
 unfold zd2 at ho;simp only [qae]at ho;have ho:=ho.2;unfold zfU at ho;obtain ⟨l,l1,l2,l3,l4⟩:=(zcp h.pw h.np h.pages k 1).1 ho;have hkl:=(qak.1 hg).1;have hl:h.pages[l]?=some h.pages[l]:=qap (by omega)
 rw [zav hl]at l2 l4;generalize h.pages[l]=y at hl l2 l4
 obtain ⟨t1,t2,t3⟩:=zgj p7 hl l2;refine ⟨l,y,l1,?_,hl,l2⟩;obtain ⟨d,rfl⟩:∃ d,k=l+d:=⟨k-l,by omega⟩
 refine zhc (by rw [zav hl];omega) d fun t q1 q2=>?_
 obtain ⟨z,z1,z2,-⟩:=t3 t q1 (by omega)
 rw [zav z1];exact z2
theorem ziW{α:Type}{P:α->Bool}:∀ (l:List α) (n:Nat),n<=l.length->(∀ t y,t<n->l[t]?=some y->P y=true)->n<=(l.takeWhile P).length
 | l,0,_,_=>qa8 _
 | [],n+1,h,_=>by simp at h
 | y::r,n+1,h,hp=>by
  rw [qcu,hp 0 y (by omega) rfl]
  simp only [if_true,qaM];have:=ziW r n (by simpa using h) fun t z ht hz=>hp (t+1) z (by omega) (by simpa using hz)
  omega
theorem CI.keep1{h:Hp}{x:Wk}{os:List Int}{D:Nat->Int->Prop}(C:CI h x os D){a:Int}(ha:a∈zag h)(hq:¬a∈x.queue)(ht:okT (evWd x a).toNat=false)(hpr:zep x (evI x a)=true):CI h (zdu x a) (os++[a]) D:=by
 have I:=C.inv;have hcf:=I.conf;obtain ⟨i,j,g,b⟩:=zam ha;have hoi:evI x a=i:=by unfold evI;rw [I.pw,I.np];exact b.oi
 obtain ⟨s,s1,s2,s3,s4,s5⟩:=C.ppg i g b.pg (I.begun b);rw [hoi]at hpr;unfold zep at hpr;rw [qad,s1]at hpr;simp only [qae,qaa,qao,qaf]at hpr;obtain ⟨-,⟨k1,k2⟩,-⟩:=hpr;rw [I.sp]at k2;have hpins:0<g.pins:=qbL fun c=>k2 (by rw [s3 k1,if_neg c])
 have hon:=zw0 b;have hnb:∀ (k:Nat) (y:Pg),h.pages[k]?=some y->y.kind=2->bs h k≠a:=fun k y hy hk e=>by
  have:=zit (h:=h) (by omega) (k:=k) (k':=i) (p:=a) (by omega) (by omega) hon.1 hon.2
  subst this;have:=b.pg
  rw [hy]at this;injection this with this
  subst this;omega
 refine C.kept ha hq ht (I.keep ha hq ht).1 rfl rfl rfl rfl (fun _ _=>rfl) (fun k g0 hg hk=>?_) fun i' j' g' b'=>?_
 · obtain ⟨s',q1,q2,q3,q4,q5⟩:=C.ppg k g0 hg hk;refine ⟨s',q1,q2,q3,fun k2=>?_,fun k3=>?_⟩
   · rw [q4 k2];have:bs h k∈(zdu x a).queue↔bs h k∈x.queue:=by
      show bs h k∈x.queue++[a]↔_
      rw [qas,qaw];exact ⟨fun c=>c.elim id fun e=>absurd e (hnb k g0 hg k2),.inl⟩
     simp only [this]
   · rw [q5 k3];obtain ⟨l,y,-,l2,l3,l4⟩:=zoG I.ok hg k3;rw [l2];have:bs h l∈(zdu x a).queue↔bs h l∈x.queue:=by
      show bs h l∈x.queue++[a]↔_
      rw [qas,qaw];exact ⟨fun c=>c.elim id fun e=>absurd e (hnb l y l3 l4),.inl⟩
     simp only [this]
 · have:i'=i:=by have h1:=b.oi;have h2:=b'.oi;omega
   subst this;have:g'=g:=by have h1:=b.pg;have h2:=b'.pg;rw [h1]at h2;injection h2 with h2;exact h2.symm
   subst this;exact .inr ⟨k1,hpins⟩
theorem CI.keep2{h:Hp}{x:Wk}{os:List Int}{D:Nat->Int->Prop}(C:CI h x os D){a:Int}(ha:a∈zag h)(hq:¬a∈x.queue)(ht:okT (evWd x a).toNat=false)(hbig:zhi x a=true):CI h (zdu (zcd x (evI x a).toNat) a) (os++[a]) D:=by
 have I:=C.inv;have hcf:=I.conf;obtain ⟨i,j,g,b⟩:=zam ha;have hoi:evI x a=i:=by unfold evI;rw [I.pw,I.np];exact b.oi
 obtain ⟨s,s1,s2,s3,s4,s5⟩:=C.ppg i g b.pg (I.begun b);unfold zhi at hbig;rw [hoi,qad,zav s1]at hbig;have k2:g.kind=2:=qar hbig
 have haj:a=bs h i:=by
  rcases b.kd with ⟨k,-⟩ | ⟨-,k,-⟩
  · omega
  · have:=b.ad;unfold bs;omega
 rw [hoi,qad];obtain ⟨I2,L2,e1,e2⟩:=I.large s1 (by exact k2)
 have hbs:∀ k:Nat,bs h k=a->k=i:=fun k e=>by
  have:(k:Int)*h.pw=(i:Int)*h.pw:=by unfold bs at e haj;omega
  have h0:h.pw≠0:=by omega
  have:=Int.eq_of_mul_eq_mul_right h0 this
  omega
 have htk3:∀ k:Nat,(k:Int)∈x.taken->∃ y,x.h.pages[k]?=some y/\y.kind=1:=fun k hk=>by
  obtain ⟨u,l,t1,-⟩:=C.tile k hk;exact ⟨_,t1,rfl⟩
 have hrange:∀ (k:Nat) (g0:Pg),h.pages[k]?=some g0->¬(k:Int)∈x.taken->((i<=k/\k<zb4 x.h.pages i)↔(k=i\/(g0.kind=3/\zbr h.pages k=i))):=fun k g0 hg hk=>by
  have hkl:=(qak.1 hg).1;constructor
  · rintro ⟨r1,r2⟩;by_cases e:k=i
    · exact .inl e
    · right
      have hall:∀ t,i<t->t<=k->(h.pages.getD t Pg.zero).kind=3:=fun t t1 t2=>by
       unfold zb4 at r2;obtain ⟨z,z1,z2⟩:=zdF (l:=x.h.pages.drop (i+1)) (k:=t-(i+1)) (P:=fun y=>decide (y.kind=3)) (by omega)
       rw [qa5,show i+1+(t-(i+1))=t from by omega]at z1
       have z2:z.kind=3:=qar z2
       have hnt:¬(t:Int)∈x.taken:=fun c=>by
        obtain ⟨y,y1,y2⟩:=htk3 t c;rw [z1]at y1;injection y1 with y1;subst y1;omega
       have ht0:h.pages[t]?=some h.pages[t]:=qap (by omega)
       obtain ⟨y,y1,y2,y3⟩:=I.pg t _ ht0 hnt;rw [z1]at y1;injection y1 with y1;subst y1
       rw [zav ht0];omega
      obtain ⟨d,rfl⟩:∃ d,k=i+d:=⟨k-i,by omega⟩
      refine ⟨?_,zhc (by rw [zav b.pg];omega) d hall⟩
      have:=hall (i+d) (by omega) (qam _)
      rwa [zav hg]at this
  · rintro (e | ⟨e1,e2⟩)
    · subst e;exact ⟨qam _,by unfold zb4;omega⟩
    · have hle:=zpC h.pages k;have hne:k≠i:=fun c=>by subst c;have:=b.pg;rw [hg]at this;injection this with this;subst this;omega
      obtain ⟨hs1,-⟩:=zkN h.pages k;rw [e2]at hs1;refine ⟨by omega,?_⟩
      unfold zb4;have hpl:=I.pl;have:=ziW (P:=fun y:Pg=>decide (y.kind=3)) (x.h.pages.drop (i+1)) (k-i) (by rw [qaG];omega) fun t y ht1 hy=>by
       rw [qa5]at hy;have h3:=hs1 (i+1+t) (by omega) (by omega)
       have ht0:h.pages[i+1+t]?=some h.pages[i+1+t]:=qap (by omega)
       rw [zav ht0]at h3;have hnt:¬((i+1+t:Nat):Int)∈x.taken:=fun c=>by
        obtain ⟨k3,g0',g',f0,f1,f2,-⟩:=I.tk _ c;obtain rfl:i+1+t=k3:=by omega
        rw [ht0]at f1;injection f1 with f1;rw [f1]at h3;omega
       obtain ⟨y',y1,y2,y3⟩:=I.pg _ _ ht0 hnt;rw [hy]at y1;injection y1 with y1;subst y1
       exact qac (by omega)
      omega
 have hpage:∀ (k:Nat) (y:Pg),x.h.pages[k]?=some y->(zdu (zcd x i) a).h.pages[k]?=some (if i<=k/\k<zb4 x.h.pages i then ⟨y.kind,1-x.h.space,y.used,y.pins⟩ else y):=fun k y hy=>zhW hy
 refine C.kept ha hq ht (I2.keep ha (by rw [e2];exact hq) (by rw [e1];exact ht)).1 rfl rfl rfl rfl (fun k hk=>?_) (fun k g0 hg hk=>?_) fun i' j' g' b'=>?_
 · obtain ⟨y,y1,y2⟩:=htk3 k hk;rw [hpage k y y1,y1];rw [if_neg];rintro ⟨r1,r2⟩;unfold zb4 at r2;by_cases e:k=i
   · subst e;rw [s1]at y1;injection y1 with y1;subst y1;simp only at y2;omega
   · obtain ⟨z,z1,z2⟩:=zdF (l:=x.h.pages.drop (i+1)) (k:=k-(i+1)) (P:=fun y=>decide (y.kind=3)) (by omega)
     rw [qa5,show i+1+(k-(i+1))=k from by omega,y1]at z1
     injection z1 with z1
     subst z1;have:=qar z2
     omega
 · obtain ⟨s',q1,q2,q3,q4,q5⟩:=C.ppg k g0 hg hk;have hm:∀ c,c∈(zdu (zcd x i) a).queue↔c∈x.queue\/c=a:=fun c=>by
    show c∈x.queue++[a]↔_
    rw [qas,qaw]
   have hr:=hrange k g0 hg hk;rw [hpage k _ q1,I.sp];by_cases c:i<=k/\k<zb4 x.h.pages i
   · rw [if_pos c];refine ⟨1-h.space,rfl,fun k0=>?_,fun k1=>?_,fun kk2=>?_,fun k3=>?_⟩
     · rcases hr.1 c with e | ⟨e,-⟩
       · subst e;have:=b.pg;rw [hg]at this;injection this with this;subst this;omega
       · omega
     · rcases hr.1 c with e | ⟨e,-⟩
       · subst e;have:=b.pg;rw [hg]at this;injection this with this;subst this;omega
       · omega
     · rcases hr.1 c with e | ⟨e,-⟩
       · subst e;rw [if_pos ((hm _).2 (.inr haj.symm))]
       · omega
     · rcases hr.1 c with e | ⟨-,e⟩
       · subst e;have:=b.pg;rw [hg]at this;injection this with this;subst this;omega
       · rw [e,if_pos ((hm _).2 (.inr haj.symm))]
   · rw [if_neg c];have hc:=fun d=>c (hr.2 d)
     refine ⟨s',rfl,q2,q3,fun kk2=>?_,fun k3=>?_⟩
     · rw [q4 kk2];have:bs h k∈(zdu (zcd x i) a).queue↔bs h k∈x.queue:=by
        rw [hm];exact ⟨fun d=>d.elim id fun e=>absurd (.inl (hbs k e)) hc,.inl⟩
       simp only [this]
     · rw [q5 k3];have:bs h (zbr h.pages k)∈(zdu (zcd x i) a).queue↔bs h (zbr h.pages k)∈x.queue:=by
        rw [hm];exact ⟨fun d=>d.elim id fun e=>absurd (.inr ⟨k3,hbs _ e⟩) hc,.inl⟩
       simp only [this]
 · have:i'=i:=by have h1:=b.oi;have h2:=b'.oi;omega
   subst this;have:g'=g:=by have h1:=b.pg;have h2:=b'.pg;rw [h1]at h2;injection h2 with h2;exact h2.symm
   subst this;exact .inl k2
theorem ztA{h:Hp}{x:Wk}{os:List Int}{D:Nat->Int->Prop}(C:CI h x os D){a:Int}(ha:a∈zag h)(ht:okT (evWd x a).toNat=false)(hbig:zhi x a=false)(hpl:plB x (evN x a)=true):
 ∃ (J:Nat) (u:Int) (g0:Pg),plA x (evN x a)=bs h J+u/\evN x a=osz h a/\0<=u/\u+osz h a<=h.pw/\(J:Int)<h.np/\h.pages[J]?=some g0/\g0.kind=0 /\
  (∀ k:Nat,k≠J->(zbq x a).h.pages[k]?=x.h.pages[k]?)/\(zbq x a).h.pages[J]?=some ⟨1,1-h.space,u+osz h a,0⟩/\(∀ t,t∈(zbq x a).taken↔t∈x.taken\/t=J) /\
  ((J:Int)∈x.taken->x.h.pages[J]?=some ⟨1,1-h.space,u,0⟩)/\(¬(J:Int)∈x.taken->u=0)/\(zbq x a).queue=x.queue++[bs h J+u] /\
  (∀ p,p≠a->(p<bs h J+u\/bs h J+u+osz h a<=p)->zas (zbq x a).h.words p=zas x.h.words p) /\
  (∀ j,0<=j->j<osz h a->zas (zbq x a).h.words (bs h J+u+j)=zas x.h.words (a+j))/\zas (zbq x a).h.words a=fwdV (bs h J+u)/\(a+osz h a<=bs h J\/bs h J+h.pw<=a)/\∀ i' j' g',Begins h a i' j' g'->g'.kind=1:=by
 have I:=C.inv;obtain ⟨c1,c2,c3,c4,c5,c6,c7,c8,c9⟩:=I.conf;obtain ⟨i,j,g,b⟩:=zam ha;have hbp:=b.pos;have hbw:=b.wl;have hwl:=I.wl;have e0:evWd x a=zas h.words a:=(I.un a ha).elim id (fun c=>by rw [ht]at c;exact absurd c.1 (by decide))
 obtain ⟨e1,e2,e3,-⟩:=zi2 ha e0;have hoi:evI x a=i:=by unfold evI;rw [I.pw,I.np];exact b.oi
 obtain ⟨y,f1,f2,f3⟩:=I.pg i g b.pg (I.begun b);have hk1:g.kind=1:=by
  rcases b.kd with ⟨k,-⟩ | ⟨k,-⟩
  · exact k
  · unfold zhi at hbig;rw [hoi,qad,zav f1]at hbig;have:=qa3 hbig
    omega
 have hn:osz h a<=h.pw:=by
  rcases b.kd with ⟨k,l,m⟩ | ⟨k,-⟩ <;> omega
 rw [e2]at hpl ⊢
 obtain ⟨J,y0,p1,p2,p3,p4,p5,p6,p7⟩:=zfC I.plok hpl;have hplen:=I.pl;rw [I.pw]at p6 p7;have eP:(zbq x a).h.pages=(plPs x (osz h a)).set J ⟨y0.kind,y0.space,y0.used+osz h a,y0.pins⟩:=by
  show (plW x (evN x a)).h.pages=_
  rw [e2];show zgC (plPs x (osz h a)) (plJ x (osz h a)).toNat (osz h a)=_
  unfold zgC;rw [p1,qad,zav p4]
 have eT:(zbq x a).taken=plT x (osz h a):=by show (plW x (evN x a)).taken=_;rw [e2];rfl
 have eA:plA x (osz h a)=bs h J+y0.used:=by
  unfold plA bs;rw [p1,qad,zav p4,I.pw]
 have eQ:(zbq x a).queue=x.queue++[bs h J+y0.used]:=by show x.queue++[plA x (evN x a)]=_;rw [e2,eA]
 have hJlt:(J:Int)<h.np:=by omega
 obtain ⟨g0,hg0,hk0,hsame,hJpage,htk,hin,hout⟩:∃ g0,h.pages[J]?=some g0/\g0.kind=0/\(∀ k:Nat,k≠J->(plPs x (osz h a))[k]?=x.h.pages[k]?)/\(y0.kind=1/\y0.space=1-h.space/\y0.pins=0)/\(∀ t,t∈plT x (osz h a)↔t∈x.taken\/t=J) /\
  ((J:Int)∈x.taken->x.h.pages[J]?=some ⟨1,1-h.space,y0.used,0⟩)/\(¬(J:Int)∈x.taken->y0.used=0)/\y0.used+osz h a<=h.pw:=by
  rcases p7 with ⟨r1,r2,r3,r4⟩ | ⟨r1,r2,r3,r4,z,r5,r6⟩
  · have hm:(J:Int)∈x.taken:=List.mem_of_getLast? r3;obtain ⟨k2,g0,g',f0,f1',f2',-⟩:=I.tk _ hm;obtain rfl:J=k2:=by omega
    obtain ⟨u,l,t1,-⟩:=C.tile _ hm;rw [r2]at p4;rw [t1]at p4;injection p4 with p4
    subst p4;refine ⟨g0,f1',f2',fun k _=>by rw [r2],⟨rfl,rfl,rfl⟩,fun t=>?_,fun _=>t1,fun c=>absurd hm c,r4⟩
    unfold plT;rw [if_pos r1]
    constructor
    · exact .inl
    · rintro (q | q)
      · exact q
      · rw [q];exact hm
  · have hnt:¬(J:Int)∈x.taken:=fun hm=>by
     obtain ⟨u,l,t1,-⟩:=C.tile _ hm;rw [r5]at t1;injection t1 with t1;subst t1;cases r6
    have hlt:J<h.pages.length:=by omega
    have hh:h.pages[J]?=some h.pages[J]:=qap hlt
    obtain ⟨g',q1,q2,q3⟩:=I.pg J _ hh hnt;rw [r5]at q1;injection q1 with q1;subst q1
    subst r4;refine ⟨_,hh,by omega,fun k hk=>by rw [r3,qbZ (by omega)],⟨rfl,by rw [<-I.sp],rfl⟩,fun t=>?_,fun hm=>absurd hm hnt,fun _=>rfl,by show 0+osz h a<=h.pw;omega⟩
    unfold plT;rw [r1,r2]
    simp
 obtain ⟨hout,hfit⟩:=hout;have hpp:=zaY (p:=(J:Int)) (zaq I.ok).1 (by omega) hJlt
 have hfree:=zaN b hg0 hk0;have hbsJ:bs h J=4096+(J:Int)*h.pw:=rfl
 have ka:okA x.h.words.length (bs h J+y0.used) (osz h a).toNat=true:=zaE.2 (by omega)
 have kb:okA x.h.words.length a (osz h a).toNat=true:=zaE.2 (by omega)
 have kc:okA (zes x.h.words (bs h J+y0.used) a (osz h a)).length a [fwdV (bs h J+y0.used)].length=true:=by rw [znO (by omega) ka kb];exact zaE.2 (by simp only [qbD];omega)
 have hW:(zbq x a).h.words=zaF (zes x.h.words (bs h J+y0.used) a (osz h a)) a [fwdV (bs h J+y0.used)]:=by
  show zk8 x a=_
  unfold zk8;rw [e2,eA]
 refine ⟨J,y0.used,g0,eA,rfl,p5,hfit,hJlt,hg0,hk0,fun k hk=>?_,?_,fun t=>by rw [eT];exact htk t,hin,hout,eQ,fun p q1 q2=>?_,fun t t0 t1=>?_,?_,by rw [hbsJ];exact hfree,fun i' j' g' b'=>?_⟩
 · rw [eP,qbZ (by omega)];exact hsame k hk
 · rw [eP,List.getElem?_set_self (by omega),hJpage.1,hJpage.2.1,hJpage.2.2]
 · rw [hW,za9 kc (by simp only [qbD];omega)]
   exact zg6 (by omega) ka kb (by omega)
 · rw [hW,za9 kc (by simp only [qbD];omega)]
   exact zi4 (by omega) ka kb t0 t1
 · rw [hW];exact zet kc
 · have e1:i'=i:=by have h1:=b.oi;have h2:=b'.oi;omega
   subst e1;have h1:=b.pg;have h2:=b'.pg;rw [h1]at h2;injection h2 with h2
   rw [<-h2];exact hk1
end Go.VI.P
namespace Go.VI.P
open Go
open Go.RowKit
theorem CI.copied{h:Hp}{x:Wk}{os:List Int}{D:Nat->Int->Prop}(C:CI h x os D){a:Int}(ha:a∈zag h)(hq:¬a∈x.queue)(ht:okT (evWd x a).toNat=false)(hpr:zep x (evI x a)=false)(hbig:zhi x a=false)(hpl:plB x (evN x a)=true):
 CI h (zbq x a) (os++[a]) D/\(zbq x a).queue=x.queue++[plA x (evN x a)]:=by
 have I:=C.inv;obtain ⟨c1,c2,c3,c4,c5,c6,c7,c8,c9⟩:=I.conf;obtain ⟨J,u,g0,eA,eN,u0,u1,hJ,hg0,hk0,hoth,hJp,htk,hin,hnin,eQ,wout,win,wself,hfr,hk1⟩:=ztA C ha ht hbig hpl;rw [eA];obtain ⟨T,hT⟩:∃ T,bs h J+u=T:=⟨_,rfl⟩
 rw [hT]at eQ wout win wself ⊢
 obtain ⟨N,hN⟩:∃ N,osz h a=N:=⟨_,rfl⟩
 rw [hN]at u1 hJp wout win hfr;obtain ⟨ia,ja,ga,ba⟩:=zam ha;have hbp:=ba.pos;rw [hN]at hbp;have Iy:=(I.copied ha hq ht hpr hbig hpl).1;obtain ⟨y,hy⟩:∃ y,zbq x a=y:=⟨_,rfl⟩
 have hpw:(zbq x a).h.pw=h.pw:=I.pw
 rw [hy]at Iy eQ wout win wself hoth hJp htk hpw ⊢
 have hxpw:=I.pw;have hev:∀ p,p≠a->(p<T\/T+N<=p)->evWd y p=evWd x p:=fun p h1 h2=>wout p h1 h2
 have hobjw:∀ c∈zag h,c≠a->∀ j,0<=j->j<osz h c->zas y.h.words (c+j)=zas x.h.words (c+j):=fun c hc hne j j0 j1=>by
  obtain ⟨i3,j3,g3,b3⟩:=zam hc;have h1:=zaN b3 hg0 hk0;have h2:=zda hc ha hne;have h3:=b3.pos;unfold bs at hT;exact wout _ (by omega) (by omega)
 have hobj:∀ c∈zag h,c≠a->evWd y c=evWd x c:=fun c hc hne=>by
  obtain ⟨i3,j3,g3,b3⟩:=zam hc;have:=hobjw c hc hne 0 (by omega) (by have:=b3.pos;omega)
  rw [qb0]at this;exact this
 have hcop:∀ q,zbj x q->∃ (k:Nat) (g:Pg),(k:Int)∈x.taken/\x.h.pages[k]?=some g/\bs h k<=q/\okD (evWd x q).toNat=true/\1<=evN x q/\q+evN x q<=bs h k+g.used/\g.used<=h.pw/\(q+evN x q<=T\/T+N<=q)/\(a<bs h k\/bs h k+h.pw<=a):=fun q hc=>by
  obtain ⟨k,g,d1,d2,d3,d4,d5⟩:=hc;rw [hxpw]at d3 d5;obtain ⟨k3,y0,y3,l0,l1,l2,l3,l4,l5,l6⟩:=I.tk _ d1;obtain rfl:k=k3:=by omega
  rw [d2]at l3;injection l3 with l3
  subst l3;have hev1:=(zkY d4).1;have ha1:=zaN ba l1 l2;refine ⟨k,g,d1,d2,d3,d4,by omega,d5,l6,?_,by unfold bs;omega⟩
  by_cases hkJ:k=J
  · subst hkJ;have:=hin d1
    rw [d2]at this;injection this with this
    left
    have hgu:g.used=u:=by rw [this]
    unfold bs at hT;omega
  · by_cases hlt:k<J
    · have:=ztD (h:=h) (by omega) hlt
      left;unfold bs at hT this;omega
    · have:=ztD (h:=h) (by omega) (show J<k by omega)
      right;unfold bs at hT this;omega
 have hcopw:∀ q,zbj x q->∀ j,0<=j->j<evN x q->zas y.h.words (q+j)=zas x.h.words (q+j):=fun q hc j j0 j1=>by
  obtain ⟨k,g,d1,d2,d3,d4,d5,d6,d7,d8,d9⟩:=hcop q hc;exact wout _ (by omega) (by omega)
 have hcopev:∀ q,zbj x q->evWd y q=evWd x q:=fun q hc=>by
  obtain ⟨k,g,d1,d2,d3,d4,d5,d6,d7,d8,d9⟩:=hcop q hc;have:=hcopw q hc 0 (by omega) (by omega)
  rw [qb0]at this;exact this
 have hcc:∀ q,zbj x q->zbj y q:=fun q hc=>by
  have e1:=hcopev q hc;have e2:evN y q=evN x q:=by unfold evN;rw [e1]
  obtain ⟨k,g,d1,d2,d3,d4,d5,d6,d7,d8,d9⟩:=hcop q hc;by_cases hkJ:k=J
  · subst hkJ;have h3:=hin d1;rw [d2]at h3;injection h3 with h3
    have hgu:g.used=u:=by rw [h3]
    exact ⟨k,_,(htk _).2 (.inl d1),hJp,by rw [hpw];exact d3,by rw [e1];exact d4,by rw [e2,hpw];show q+evN x q<=4096+(k:Int)*h.pw+(u+N);unfold bs at d6;omega⟩
  · exact ⟨k,g,(htk _).2 (.inl d1),by rw [hoth k hkJ];exact d2,by rw [hpw];exact d3,by rw [e1];exact d4,by rw [e2,hpw];exact d6⟩
 have hqev:∀ q∈x.queue,evWd y q=evWd x q:=fun q h1=>by
  rcases I.qs q h1 with h2 | h2
  · exact hobj q h2 (fun e=>hq (by rw [<-e];exact h1))
  · exact hcopev q h2
 have hnotobj:∀ c∈zag h,c≠T:=fun c hc e=>by
  obtain ⟨i3,j3,g3,b3⟩:=zam hc;have h1:=zaN b3 hg0 hk0;have h3:=b3.pos;unfold bs at hT;omega
 have hTq:¬T∈x.queue:=fun h1=>by
  rcases I.qs T h1 with h2 | h2
  · exact hnotobj T h2 rfl
  · obtain ⟨k,g,d1,d2,d3,d4,d5,d6,d7,d8,d9⟩:=hcop T h2;omega
 have hao:¬a∈os:=fun c=>by
  rcases (C.seen a ha).1 c with e | e
  · exact hq e
  · rw [ht]at e;cases e
 have e0:evWd x a=zas h.words a:=by
  rcases I.un a ha with e | e
  · exact e
  · rw [ht]at e;exact absurd e.1 (by decide)
 have eT:evWd y T=evWd x a:=by
  have:=win 0 (by omega) (by omega)
  rw [qb0,qb0]at this;exact this
 have eTN:evN y T=N:=by
  unfold evN;rw [eT]
  obtain ⟨e1,e2,-⟩:=zi2 ha e0;unfold evN at e2;rw [e2,hN]
 have hbJ:4096<=bs h J/\bs h J+h.pw<=4096+h.np*h.pw:=by
  have hpp:=zaY (p:=(J:Int)) (zaq I.ok).1 (by omega) hJ
  unfold bs;omega
 have hokT:okT (evWd y a).toNat=true/\tgtV (evWd y a).toNat=T:=by
  have:evWd y a=fwdV T:=wself
  rw [this];have h1:=zns (a:=T) (by omega) (by omega)
  refine ⟨h1,?_⟩;rw [zwU h1,(zw5 (a:=T) (by omega)).1];omega
 have hcT:zbj y T:=by
  refine ⟨J,_,(htk _).2 (.inr rfl),hJp,by rw [hpw];unfold bs at hT;omega,?_,?_⟩
  · rw [eT];exact (zi2 ha e0).1
  · rw [eTN,hpw];show T+N<=4096+(J:Int)*h.pw+(u+N);unfold bs at hT;omega
 have hqg:∀ (i:Nat) (o q:Int),(os++[a])[i]?=some o->y.queue[i]?=some q->(os[i]?=some o/\x.queue[i]?=some q)\/(i=os.length/\o=a/\q=T):=fun i o q h1 h2=>by
  rw [eQ]at h2;rcases zfz h1 with e | ⟨e1,e2⟩
  · rcases zfz h2 with e' | ⟨e1',-⟩
    · exact .inl ⟨e,e'⟩
    · have:=(qak.1 e).1
      rw [C.len]at this;omega
  · rcases zfz h2 with e' | ⟨-,e2'⟩
    · have:=(qak.1 e').1
      rw [<-C.len]at this;omega
    · exact .inr ⟨e1,e2,e2'⟩
 have hoa:∀ (i:Nat) (o:Int),os[i]?=some o->o≠a:=fun i o h1 e=>hao (by rw [<-e];exact qaK h1)
 refine ⟨⟨Iy,by rw [eQ,qaB,qaB,C.len];rfl,fun i j d=>by rw [qaB];have:=C.dl i j d;omega,fun o ho=>?_,?_,fun c hc=>?_,fun i o q h1 h2=>?_,fun i o q h1 h2=>?_,fun i o q h1 h2 j j0 j1=>?_,fun c hc hn j j0 j1=>?_,fun p h1 h2=>?_,fun k g5 p hg hk h1 h2 h3=>?_,fun k hk=>?_,fun k g5 hg hk=>?_,fun q hq2 hqo=>?_,by rw [<-hy];exact zw9 I.plok hpl C.wb⟩,eQ⟩
 · rcases qas.1 ho with e | e
   · exact C.oin o e
   · rw [qaw.1 e];exact ha
 · rw [eQ];exact List.nodup_append.2 ⟨C.qnd,by simp,fun w hw v hv=>by rw [qaw.1 hv];exact fun e=>hTq (e ▸ hw)⟩
 · rw [eQ,qas,qas,qaw,qaw];by_cases e:c=a
   · subst e;exact ⟨fun _=>.inr hokT.1,fun _=>.inr rfl⟩
   · rw [hobj c hc e,C.seen c hc];have:=hnotobj c hc
     constructor
     · rintro ((q | q) | q)
       · exact .inl (.inl q)
       · exact .inr q
       · exact absurd q e
     · rintro ((q | q) | q)
       · exact .inl (.inl q)
       · exact absurd q this
       · exact .inl (.inr q)
 · rcases hqg i o q h1 h2 with ⟨e1,e2⟩ | ⟨-,e1,e2⟩
   · rcases C.plc i o q e1 e2 with e | ⟨e3,e4,e5,e6⟩
     · exact .inl e
     · have:=hobj o (C.oin o (qaK e1)) (hoa i o e1)
       exact .inr ⟨by rw [this];exact e3,by rw [this];exact e4,hcc q e5,e6⟩
   · right
     rw [e1,e2];exact ⟨hokT.1,hokT.2,hcT,hk1⟩
 · rcases hqg i o q h1 h2 with ⟨e1,e2⟩ | ⟨-,e1,e2⟩
   · rw [hqev q (qaK e2)];exact C.hd i o q e1 e2
   · rw [e1,e2,eT];exact e0
 · rcases hqg i o q h1 h2 with ⟨e1,e2⟩ | ⟨ei,e1,e2⟩
   · have hqm:=qaK e2;have hwe:zas y.h.words (q+1+j)=zas x.h.words (q+1+j):=by
      have hhd:=C.hd i o q e1 e2;have hob:=C.oin o (qaK e1);rcases I.qs q hqm with h5 | h5
      · have hne:q≠a:=fun e=>hq (by rw [<-e];exact hqm)
        have hsz:j+1<osz h q:=by
         obtain ⟨i3,j3,g3,b3⟩:=zam h5;obtain ⟨i4,j4,g4,b4⟩:=zam hob;have k1:=b3.sz;have k2:=b4.sz;have hk:=I.kept h5 hqm;rw [hk]at hhd;have:zaw h q=zaw h o:=by rw [zdh b3.pos.2,zdh b4.pos.2,hhd]
         rw [this]at k1;unfold osz at k2;omega
        have:=hobjw q h5 hne (j+1) (by omega) hsz
        rwa [show q+(j+1)=q+1+j from by omega]at this
      · have hsz:j+1<evN x q:=by
         obtain ⟨k,g,d1,d2,d3,d4,d5,d6,d7,d8,d9⟩:=hcop q h5;have k1:=(zkY d4).1;obtain ⟨i4,j4,g4,b4⟩:=zam hob;have k2:=b4.sz;rw [hhd,<-zdh b4.pos.2]at k1;unfold osz at k2;omega
        have:=hcopw q h5 (j+1) (by omega) hsz
        rwa [show q+(j+1)=q+1+j from by omega]at this
     rw [hwe];obtain ⟨f1,f2⟩:=C.fl i o q e1 e2 j j0 j1;exact ⟨fun d p=>(f1 d p).more ⟨_,rfl⟩ ⟨_,eQ⟩,f2⟩
   · subst e1 e2;refine ⟨fun d=>by have:=C.dl i j d;omega,fun _=>?_⟩
     have hs:j+1<N:=by rw [<-hN];unfold osz;omega
     have h5:=win (j+1) (by omega) hs
     have h6:=C.un o ha hao (j+1) (by omega) (by rw [hN];exact hs)
     rw [show q+1+j=q+(j+1) from by omega,h5,h6,show o+(j+1)=o+1+j from by omega]
 · have hne:c≠a:=fun e=>hn (by rw [e];exact qbq _ (qaw.2 rfl))
   rw [hobjw c hc hne j j0 j1];exact C.un c hc (fun e=>hn (qa1 _ e)) j j0 j1
 · have hpa:=h1 a ha;have hpj:=h2 J g0 hg0 hk0;rw [wout p (by omega) (by omega)]
   exact C.ot p h1 h2
 · have hpa:=zaN ba hg hk;by_cases e:k=J
   · subst e;have h3':bs h k+(u+N)<=p:=by
      rcases h3 with q | ⟨g6,q1,q2⟩
      · exact absurd ((htk _).2 (.inr rfl)) q
      · rw [hJp]at q1;injection q1 with q1;subst q1;exact q2
     rw [wout p (by unfold bs at h1 h2;omega) (by omega)]
     refine C.fr k g5 p hg hk h1 h2 ?_;by_cases c:(k:Int)∈x.taken
     · exact .inr ⟨_,hin c,by show bs h k+u<=p;omega⟩
     · exact .inl c
   · have hdisj:p<bs h J\/bs h J+h.pw<=p:=by
      by_cases hlt:k<J
      · have:=ztD (h:=h) (by omega) hlt;omega
      · have:=ztD (h:=h) (by omega) (show J<k by omega);omega
     rw [wout p (by unfold bs at h1 h2;omega) (by omega)]
     refine C.fr k g5 p hg hk h1 h2 ?_;rcases h3 with q | q
     · exact .inl fun c=>q ((htk _).2 (.inl c))
     · rw [hoth k e]at q;exact .inr q
 · by_cases e:k=J
   · subst e;by_cases c:(k:Int)∈x.taken
     · obtain ⟨u',l,t1,t2,t3⟩:=C.tile k c;have hu:u'=u:=by have:=hin c;rw [t1]at this;injection this with this;injection this
       subst hu;rw [hT]at t2;have hlq:∀ q∈l,evN y q=evN x q:=fun q hql=>by unfold evN;rw [hqev q ((t3 q).1 hql).1]
       refine ⟨u'+N,l++[T],hJp,?_,fun q=>?_⟩
       · refine zoE (zde hlq t2) (by rw [eTN];omega) (by rw [eTN];omega)
       · rw [qas,qaw,t3,eQ,qas,qaw];constructor
         · rintro (⟨q1,q2⟩ | q1)
           · exact ⟨.inl q1,q2⟩
           · rw [q1];exact ⟨.inr rfl,by omega,by omega⟩
         · rintro ⟨q1 | q1,q2⟩
           · exact .inl ⟨q1,q2⟩
           · exact .inr q1
     · have hu:=hnin c;subst hu;refine ⟨0+N,[T],hJp,⟨by omega,by rw [eTN];omega,by show _=_;rw [eTN];omega⟩,fun q=>?_⟩
       rw [qaw,eQ,qas,qaw];constructor
       · intro q1;rw [q1];exact ⟨.inr rfl,by omega,by omega⟩
       · rintro ⟨q1 | q1,q2,q3⟩
         · exfalso
           rcases I.qs q q1 with h5 | h5
           · obtain ⟨i3,j3,g3,b3⟩:=zam h5;have:=zaN b3 hg0 hk0
             have:=b3.pos
             unfold bs at q2 q3;omega
           · obtain ⟨k3,g3,d1,d2,d3,d4,d5,d6,d7,d8,d9⟩:=hcop q h5;have:=zit (h:=h) (by omega) q2 q3 d3 (by omega)
             subst this;exact c d1
         · exact q1
   · have hk':(k:Int)∈x.taken:=by
      rcases (htk _).1 hk with q | q
      · exact q
      · exact absurd (by omega) e
     obtain ⟨u',l,t1,t2,t3⟩:=C.tile k hk';have hlq:∀ q∈l,evN y q=evN x q:=fun q hql=>by unfold evN;rw [hqev q ((t3 q).1 hql).1]
     refine ⟨u',l,by rw [hoth k e];exact t1,zde hlq t2,fun q=>?_⟩
     rw [t3,eQ,qas,qaw];constructor
     · rintro ⟨q1,q2⟩;exact ⟨.inl q1,q2⟩
     · rintro ⟨q1 | q1,q2,q3⟩
       · exact ⟨q1,q2,q3⟩
       · exfalso
         exact e (zit (h:=h) (by omega) q2 q3 (by omega) (by omega))
 · have hk':¬(k:Int)∈x.taken:=fun c=>hk ((htk _).2 (.inl c))
   have e:k≠J:=fun c=>hk ((htk _).2 (.inr (by rw [c])))
   obtain ⟨s',q1,q2,q3,q4,q5⟩:=C.ppg k g5 hg hk';have hnb:∀ (l:Nat) (z:Pg),h.pages[l]?=some z->z.kind=2->(bs h l∈y.queue↔bs h l∈x.queue):=fun l z hz hzk=>by
    rw [eQ,qas,qaw];refine ⟨fun c=>c.elim id fun c=>?_,.inl⟩
    exfalso
    have:l=J:=zit (h:=h) (p:=T) (by omega) (by omega) (by omega) (by omega) (by omega)
    subst this;rw [hg0]at hz;injection hz with hz;subst hz;omega
   refine ⟨s',by rw [hoth k e];exact q1,q2,q3,fun kk2=>?_,fun k3=>?_⟩
   · rw [q4 kk2];simp only [hnb k g5 hg kk2]
   · rw [q5 k3];obtain ⟨l,z,-,l2,l3,l4⟩:=zoG I.ok hg k3;rw [l2];simp only [hnb l z l3 l4]
 · rw [eQ]at hq2;rcases qas.1 hq2 with e | e
   · exact C.kp q e hqo
   · exact absurd (qaw.1 e) (hnotobj q hqo)
theorem CI.forward{h:Hp}{x:Wk}{os:List Int}{D:Nat->Int->Prop}(C:CI h x os D){v:Int}(hv:v=0\/v∈zag h)(he:evE x v=0):
 ∃ os',CI h (evW x v) os' D/\(∃ l,os'=os++l)/\(∃ l,(evW x v).queue=x.queue++l)/\Fw os' (evW x v).queue v (evA x v):=by
 have I:=C.inv;unfold evE at he;unfold evW evA;by_cases h0:v=0\/v∈x.queue
 · have hc:evC x v=0:=by unfold evC;rw [if_pos h0]
   rw [hc];refine ⟨os,C,⟨[],by simp⟩,⟨[],by simp⟩,?_⟩
   by_cases hz:v=0
   · exact .inl ⟨hz,hz⟩
   have hob:=hv.resolve_left hz;have hin:=h0.resolve_left hz;obtain ⟨t,ht,e⟩:=qbS.1 hin;have hlen:=C.len;have ho:os[t]?=some os[t]:=qap (by omega)
   have hq:x.queue[t]?=some v:=by rw [qap ht,e]
   rcases C.plc t _ v ho hq with q | ⟨-,-,q,-⟩
   · exact .inr ⟨t,by rw [ho,<-q],hq⟩
   · exfalso
     obtain ⟨k,g0,d1,d2,d3,d4,d5,d6,d7⟩:=I.copy q;obtain ⟨i3,j3,g3,b3⟩:=zam hob;have h1:=zaN b3 d1 d2;have h3:=b3.pos;omega
 have hz:¬v=0:=fun c=>h0 (.inl c)
 have hq:¬v∈x.queue:=fun c=>h0 (.inr c)
 have ho2:=hv.resolve_left hz;have ho:v∈x.old:=by rw [I.old];exact ho2
 by_cases ht:okT (evWd x v).toNat=true
 · have hc:evC x v=2:=by unfold evC;rw [if_neg h0,if_neg (by simpa using ho),if_pos ht]
   rw [hc];refine ⟨os,C,⟨[],by simp⟩,⟨[],by simp⟩,.inr ?_⟩
   have hin:=(C.seen v ho2).2 (.inr ht);obtain ⟨t,htl,e⟩:=qbS.1 hin;have hlen:=C.len;have hos:os[t]?=some v:=by rw [qap htl,e]
   have hqq:x.queue[t]?=some x.queue[t]:=qap (by omega)
   rcases C.plc t v _ hos hqq with q | ⟨-,q,-⟩
   · exact absurd (by rw [<-q];exact qcp _) hq
   · exact ⟨t,hos,by show x.queue[t]?=some (tgtV (evWd x v).toNat);rw [hqq,<-q]⟩
 replace ht:okT (evWd x v).toNat=false:=by simpa using ht
 have hnew:∀ w,Fw (os++[v]) (x.queue++[w]) v w:=fun w=>.inr ⟨os.length,by rw [qbA (qam _),qbK];rfl,by rw [C.len,qbA (qam _),qbK];rfl⟩
 by_cases h3:¬ofE x.h.pw x.h.np v=0\/(x.h.pages.length:Int)<=evI x v
 · have hc:evC x v=3:=by unfold evC;rw [if_neg h0,if_neg (by simpa using ho),if_neg (by simp [ht]),if_pos h3]
   rw [hc]at he;exact absurd he (by decide)
 cases hpr:zep x (evI x v) with
 | true=>
  have hc:evC x v=4:=by unfold evC;rw [if_neg h0,if_neg (by simpa using ho),if_neg (by simp [ht]),if_neg h3,if_pos hpr]
  rw [hc];exact ⟨os++[v],C.keep1 ho2 hq ht hpr,⟨[v],rfl⟩,⟨[v],rfl⟩,hnew v⟩
 | false=>
  cases hbig:zhi x v with
  | true=>
   have hc:evC x v=5:=by unfold evC;rw [if_neg h0,if_neg (by simpa using ho),if_neg (by simp [ht]),if_neg h3,if_neg (by simp [hpr]),if_pos hbig]
   rw [hc];exact ⟨os++[v],C.keep2 ho2 hq ht hbig,⟨[v],rfl⟩,⟨[v],rfl⟩,hnew v⟩
  | false=>
   cases hpp:plB x (evN x v) with
   | true=>
    have hc:evC x v=7:=by unfold evC;rw [if_neg h0,if_neg (by simpa using ho),if_neg (by simp [ht]),if_neg h3,if_neg (by simp [hpr]),if_neg (by simp [hbig]),if_pos hpp]
    rw [hc];obtain ⟨r1,r2⟩:=C.copied ho2 hq ht hpr hbig hpp;refine ⟨os++[v],r1,⟨[v],rfl⟩,⟨[plA x (evN x v)],r2⟩,?_⟩;show Fw (os++[v]) (zbq x v).queue v (plA x (evN x v))
    rw [r2];exact hnew _
   | false=>
    have hc:evC x v=6:=by unfold evC;rw [if_neg h0,if_neg (by simpa using ho),if_neg (by simp [ht]),if_neg h3,if_neg (by simp [hpr]),if_neg (by simp [hbig]),if_neg (by simp [hpp])]
    rw [hc]at he;exact absurd he (by decide)
end Go.VI.P
namespace Go.VI.P
open Go
open Go.RowKit
theorem zuX{l:List Int}(h:l.Nodup){i j:Nat}{q:Int}(h1:l[i]?=some q)(h2:l[j]?=some q):i=j:=by
 obtain ⟨k1,e1⟩:=qak.1 h1;obtain ⟨k2,e2⟩:=qak.1 h2;refine qbL fun c=>?_
 have hp:=List.pairwise_iff_getElem.1 h;by_cases hlt:i<j
 · exact hp i j k1 k2 hlt (e1.trans e2.symm)
 · exact hp j i k2 k1 (by omega) (e2.trans e1.symm)
theorem CI.size{h:Hp}{x:Wk}{os:List Int}{D:Nat->Int->Prop}(C:CI h x os D){i:Nat}{o q:Int}(h1:os[i]?=some o)(h2:x.queue[i]?=some q):evN x q=osz h o/\evH x q=atH h o/\okD (evWd x q).toNat=true/\(evWd x q).toNat=zaw h o:=by
 have ho:=C.oin o (qaK h1);obtain ⟨i3,j3,g3,b⟩:=zam ho;have hw:(evWd x q).toNat=zaw h o:=by rw [C.hd i o q h1 h2,zdh b.pos.2]
 have hd:okD (evWd x q).toNat=true:=by rw [hw];exact b.od
 obtain ⟨d1,d2,d3⟩:=zmQ hd;refine ⟨?_,?_,hd,hw⟩
 · rw [(zkY hd).1,hw,b.sz]
 · rw [b.hd];unfold evH hdOf;rw [d1,d2,d3,hw]
theorem CI.nd{h:Hp}{x:Wk}{os:List Int}{D:Nat->Int->Prop}(C:CI h x os D){i j:Nat}{q:Int}(h1:x.queue[i]?=some q)(h2:x.queue[j]?=some q):i=j:=zuX C.qnd h1 h2
theorem CI.apart{h:Hp}{x:Wk}{os:List Int}{D:Nat->Int->Prop}(C:CI h x os D){q r:Int}(hq:q∈x.queue)(hr:r∈x.queue)(hne:q≠r):q+evN x q<=r\/r+evN x r<=q:=by
 have I:=C.inv;have hob:∀ c∈x.queue,c∈zag h->evN x c=osz h c:=fun c hc ho=>(zi2 ho (I.kept ho hc)).2.1
 rcases I.qs q hq with a | a <;> rcases I.qs r hr with b | b
 · rw [hob q hq a,hob r hr b];exact zda a b hne
 · rw [hob q hq a];exact I.old_copy a b
 · rw [hob r hr b];exact (I.old_copy b a).symm
 · exact I.dj q hq r hr a b hne
theorem CI.write{h:Hp}{x:Wk}{os:List Int}{D:Nat->Int->Prop}(C:CI h x os D){s:Nat}{o A i w:Int}(hs:os[s]?=some o)(hA:x.queue[s]?=some A)(hp:ptrB (atH h o).k (atH h o).n (atH h o).m i=true)
 (hw:Fw os x.queue (zas h.words (o+1+i)) w):CI h { x with h:={ x.h with words:=zaF x.h.words (A+1+i) [w] } } os (fun t j=>D t j\/(t=s/\j=i)):=by
 have I:=C.inv;have hcf:=I.conf;obtain ⟨z1,z2,z3,z4⟩:=C.size hs hA;have hAm:=qaK hA;obtain ⟨-,i0,i1⟩:=zoL hp;obtain ⟨n1,n2,n3⟩:=I.inside hAm i0 (by rw [z2];exact i1)
 have Iy:=(I.write n1 n2 n3 (v:=w)).1
 have hin:A+1+i<A+evN x A:=by rw [z1];unfold osz;omega
 have hwb:0<=w/\w<18446744073709551616:=by
  rcases hw with ⟨-,e⟩ | ⟨t,-,e⟩
  · omega
  · have:=I.queue_bd (qaK e);omega
 obtain ⟨y,hy⟩:∃ y,({ x with h:={ x.h with words:=zaF x.h.words (A+1+i) [w] } }:Wk)=y:=⟨_,rfl⟩
 have hout:∀ p,p≠A+1+i->zas y.h.words p=zas x.h.words p:=fun p hpn=>by rw [<-hy];exact za9 n1 (by simp only [qbD];omega)
 have hself:zas y.h.words (A+1+i)=w:=by rw [<-hy];exact zet n1
 have eq:y.queue=x.queue:=by rw [<-hy]
 have et:y.taken=x.taken:=by rw [<-hy]
 have ep:y.h.pages=x.h.pages:=by rw [<-hy]
 have epw:y.h.pw=x.h.pw:=by rw [<-hy]
 rw [hy]at Iy ⊢
 have hev:∀ p,p≠A+1+i->evWd y p=evWd x p:=hout
 have hevq:∀ q∈x.queue,evWd y q=evWd x q:=fun q hq=>hev q (fun e=>n3 q hq e.symm)
 have hevo:∀ c∈zag h,evWd y c=evWd x c:=fun c hc=>hev c (fun e=>n2 c hc e.symm)
 have hcp:∀ q∈x.queue,zbj x q->zbj y q:=fun q hq ⟨k,g,c1,c2,c3,c4,c5⟩=>⟨k,g,by rw [et];exact c1,by rw [ep];exact c2,by rw [epw];exact c3,by rw [hevq q hq];exact c4,by unfold evN;rw [hevq q hq,epw];exact c5⟩
 have hplace:(A∈zag h/\evN x A=osz h A)\/∃ (k:Nat) (g0 g:Pg),(k:Int)∈x.taken/\h.pages[k]?=some g0/\g0.kind=0/\x.h.pages[k]?=some g/\bs h k<=A/\A+evN x A<=bs h k+g.used/\g.used<=h.pw:=by
  rcases I.qs A hAm with a | a
  · exact .inl ⟨a,(zi2 a (I.kept a hAm)).2.1⟩
  · right
    obtain ⟨k,g,d1,d2,d3,d4,d5⟩:=a;obtain ⟨k3,y0,y3,l0,l1,l2,l3,l4,l5,l6⟩:=I.tk _ d1;obtain rfl:k=k3:=by omega
    rw [d2]at l3;injection l3 with l3;subst l3
    rw [I.pw]at d3 d5;exact ⟨k,y0,g,d1,l1,l2,d2,d3,d5,l6⟩
 refine ⟨Iy,by rw [eq];exact C.len,fun t j d=>?_,C.oin,by rw [eq];exact C.qnd,fun c hc=>?_,fun t o' q h1 h2=>?_,fun t o' q h1 h2=>?_,fun t o' q h1 h2 j j0 j1=>?_,fun c hc hn j j0 j1=>?_,fun p h1 h2=>?_,fun k g0 p hg hk h1 h2 h3=>?_,fun k hk=>?_,fun k g0 hg hk=>?_,fun q hq hqo=>?_,by rw [<-hy];exact zfv C.wb (fun z hz=>by rw [qaw.1 hz];exact hwb)⟩
 · rcases d with d | ⟨d,-⟩
   · exact C.dl t j d
   · rw [d];exact (qak.1 hs).1
 · rw [hevo c hc,eq];exact C.seen c hc
 · rw [eq]at h2;rcases C.plc t o' q h1 h2 with e | ⟨e1,e2,e3,e4⟩
   · exact .inl e
   · have:=hevo o' (C.oin o' (qaK h1))
     exact .inr ⟨by rw [this];exact e1,by rw [this];exact e2,hcp q (qaK h2) e3,e4⟩
 · rw [eq]at h2;rw [hevq q (qaK h2)];exact C.hd t o' q h1 h2
 · rw [eq]at h2;rw [eq];obtain ⟨f1,f2⟩:=C.fl t o' q h1 h2 j j0 j1;by_cases e:t=s
   · subst e;rw [hs]at h1;injection h1 with h1;subst h1
     rw [hA]at h2;injection h2 with h2;subst h2
     by_cases e2:j=i
     · subst e2;rw [hself];exact ⟨fun _ _=>hw,fun c=>by have:=c (.inr ⟨rfl,rfl⟩);rw [hp]at this;cases this⟩
     · rw [hout _ (by omega)]
       exact ⟨fun d p=>f1 (d.elim id fun c=>absurd c.2 e2) p,fun c=>f2 fun d=>c (.inl d)⟩
   · have hne:q≠A:=fun c=>e (C.nd (by rw [<-c];exact h2) hA)
     have:=C.apart (qaK h2) hAm hne
     obtain ⟨y1,y2,-,-⟩:=C.size h1 h2;have hjs:q+1+j<q+evN x q:=by rw [y1];unfold osz;omega
     rw [hout _ (by omega)]
     exact ⟨fun d p=>f1 (d.elim id fun c=>absurd c.1 e) p,fun c=>f2 fun d=>c (.inl d)⟩
 · rw [hout _ ?_]
   · exact C.un c hc hn j j0 j1
   · intro e;obtain ⟨i4,j4,g4,b4⟩:=zam hc;have hb4:=b4.pos;rcases hplace with ⟨a1,a2⟩ | ⟨k,g0,g,k1,k2,k3,k4,k5,k6,k7⟩
     · have hne:c≠A:=fun e2=>hn ((C.seen c hc).2 (.inl (by rw [e2];exact hAm)))
       have:=zda hc a1 hne
       omega
     · have:=zaN b4 k2 k3
       unfold bs at k5 k6;omega
 · rw [hout _ ?_]
   · exact C.ot p h1 h2
   · intro e;rcases hplace with ⟨a1,a2⟩ | ⟨k,g0,g,k1,k2,k3,k4,k5,k6,k7⟩
     · have:=h1 A a1;omega
     · have:=h2 k g0 k2 k3;omega
 · rw [hout _ ?_]
   · refine C.fr k g0 p hg hk h1 h2 ?_;rw [et,ep]at h3;exact h3
   · intro e;rcases hplace with ⟨a1,a2⟩ | ⟨k',g0',g',k1,k2,k3,k4,k5,k6,k7⟩
     · obtain ⟨i4,j4,g4,b4⟩:=zam a1;have:=zaN b4 hg hk
       unfold bs at h1 h2;omega
     · have:=zit (h:=h) (by omega) h1 h2 (k':=k') (by omega) (by omega)
       subst this;rw [et,ep]at h3;rcases h3 with c | ⟨g5,c1,c2⟩
       · exact c k1
       · rw [k4]at c1;injection c1 with c1;subst c1;omega
 · rw [et]at hk;obtain ⟨u,l,t1,t2,t3⟩:=C.tile k hk;refine ⟨u,l,by rw [ep];exact t1,zde (fun q hq=>by unfold evN;rw [hevq q ((t3 q).1 hq).1]) t2,fun q=>by rw [eq];exact t3 q⟩
 · rw [et]at hk;rw [ep,eq];exact C.ppg k g0 hg hk
 · rw [eq]at hq;exact C.kp q hq hqo
end Go.VI.P
