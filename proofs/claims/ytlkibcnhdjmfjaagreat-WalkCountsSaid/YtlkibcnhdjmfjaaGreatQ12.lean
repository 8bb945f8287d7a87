import Derived.Test.YtlkibcnhdjmfjaaGreatQ03
import Derived.Test.YtlkibcnhdjmfjaaGreatQ04
import Derived.Test.YtlkibcnhdjmfjaaGreatQ06
import Derived.Test.YtlkibcnhdjmfjaaGreatQ08
import Derived.Test.YtlkibcnhdjmfjaaGreatQ10
import Derived.Test.YtlkibcnhdjmfjaaGreatQ11
set_option linter.unusedSimpArgs false
set_option linter.unusedVariables false
set_option maxRecDepth 100000
set_option maxHeartbeats 4000000
noncomputable section
namespace Go.VI
open Go Go.Proofs
def first {α:Type}:Tree α->Option α
 | .leaf a=>some a
 | .need _ k=>first k
 | .br _ a _=>first a
 | _=>none
def outW (o:Option Out):List Wr:=(o.getD (.ret,0,[])).2.2
def entC (E:Entry) (r:Rden E.rs×Oden E.ps):Ent:=(⟨E.f,E.sh,E.ps,E.rs,fun _=>some r⟩:Entry).ent
abbrev AdR:=(Int×Int×Unit)×Unit
abbrev AtR:=((Int×Int×Int×Unit)×Int×Unit)×Unit
abbrev SzR:=(Int×Unit)×Unit
def WA (d:Pden psP) (v:Int):List Wr:=outW (first (runCode te tblP [] 46 (cAt [1,1,1,0] c81) 0 67 (hdP d v)))
theorem cA_eq (d:Pden psP) (v:Int):rcP (cAt [1,1,1,0] c81) 0 67 (hdP d v)=cond (inB d.2.1 d.1.2.2.1.length) (cond (decide (v<(d.1.2.2.1.getD d.2.1.toNat (0,0,0,0,())).2.2.1)) (some (.normal,579,WA d v)) (some (.exit 0,579,WA d v))) none:=by kernel_rfl
def ppA (d:Pden psP) (v:Int):List Wr:=frzW (WA d v++hdP d v)
def WB (d:Pden psP) (v:Int) (r:AdR):List Wr:=outW (runCode te [entC E_page_Address r] [] 46 (cAt [1,1,1,1,1,0] c81) 1 579 (ppA d v)).ev
theorem cB_eq (d:Pden psP) (v:Int):rcP (cAt [1,1,1,1,1,0] c81) 1 579 (ppA d v)=(F_page_Address (d.1.1,d.2.1,v,())).bind fun r=>some (.normal,1219,WB d v r):=by kernel_rfl
def ppB (d:Pden psP) (v:Int) (r:AdR):List Wr:=frzW (WB d v r++ppA d v)
def WC (d:Pden psP) (v:Int) (r:AdR) (q:AtR):List Wr:=outW (runCode te [entC E_object_At q] [] 46 (cAt [1,1,1,1,1,1,0] c81) 1 1219 (ppB d v r)).ev
theorem cC_eq (d:Pden psP) (v:Int) (r:AdR):rcP (cAt [1,1,1,1,1,1,0] c81) 1 1219 (ppB d v r)=(F_object_At (d.1,r.1.1,())).bind fun q=>some (.normal,1795,WC d v r q):=by kernel_rfl
def pp2 (d:Pden psP) (v:Int) (r:AdR) (q:AtR):List Wr:=frzW (WC d v r q++ppB d v r)
def WY (d:Pden psP) (v:Int) (r:AdR) (q:AtR):List Wr:=(ziF te tblP ops81 46 1795 (ziZ ops81) none (List.range 5) (pp2 d v r q) []).ev.getD []
theorem wY_eq (d:Pden psP) (v:Int) (r:AdR) (q:AtR):(ziF te tblP ops81 46 1795 (ziZ ops81) none (List.range 5) (pp2 d v r q) []).ev=some (WY d v r q):=by kernel_rfl
theorem yP_eq (d:Pden psP) (v:Int) (r:AdR) (q:AtR):(zk5 31).evs (look (frzW (WY d v r q++pp2 d v r q)))=some ():=by kernel_rfl
def xP (r:AdR) (q:AtR):Tden tsW:=(r.1.1,(q.1.1,(q.1.2.1,())),())
theorem xP_eq (d:Pden psP) (v:Int) (r:AdR) (q:AtR):(zl9 tsW [.tmp 32,.tmp 35]).evs (look (frzW (WY d v r q++pp2 d v r q)))=some (xP r q):=by kernel_rfl
def WT (b:Bool) (d:Pden psP) (v:Int) (r:AdR) (q:AtR):List Wr:=(ziF te tblP ops81 46 1795 (ziZ ops81) none (List.range' 6 5) (kbW 36 b::frzW (WY d v r q++pp2 d v r q)) []).ev.getD []
theorem wTt_eq (d:Pden psP) (v:Int) (r:AdR) (q:AtR):(ziF te tblP ops81 46 1795 (ziZ ops81) none (List.range' 6 5) (kbW 36 true::frzW (WY d v r q++pp2 d v r q)) []).ev=some (WT true d v r q):=by kernel_rfl
theorem wTf_eq (d:Pden psP) (v:Int) (r:AdR) (q:AtR):(ziF te tblP ops81 46 1795 (ziZ ops81) none (List.range' 6 5) (kbW 36 false::frzW (WY d v r q++pp2 d v r q)) []).ev=some (WT false d v r q):=by kernel_rfl
def pp3 (b:Bool) (d:Pden psP) (v:Int) (r:AdR) (q:AtR):List Wr:=frzW (WT b d v r q++(kbW 36 b::frzW (WY d v r q++pp2 d v r q)))
theorem cF_eq (d:Pden psP) (v:Int) (r:AdR) (q:AtR):rcP (cAt [1,1,1,1,1,1,1,0,1] c81) 1 (1795+64*11) (pp3 false d v r q)=some (.ret,2499,[]):=by kernel_rfl
theorem cT_eq (d:Pden psP) (v:Int) (r:AdR) (q:AtR):rcP (cAt [1,1,1,1,1,1,1,0,1] c81) 1 (1795+64*11) (pp3 true d v r q)=cond (errB (xP r q)) (some (.ret,2499,[])) (some (.normal,2499,[])):=by kernel_rfl
def pp4 (d:Pden psP) (v:Int) (r:AdR) (q:AtR):List Wr:=frzW ([]++pp3 true d v r q)
def WE (d:Pden psP) (v:Int) (r:AdR) (q:AtR) (u:SzR):List Wr:=outW (runCode te [entC E_header_Size u] [] 46 (cAt [1,1,1,1,1,1,1,1] c81) 1 2499 (pp4 d v r q)).ev
theorem cE_eq (d:Pden psP) (v:Int) (r:AdR) (q:AtR):rcP (cAt [1,1,1,1,1,1,1,1] c81) 1 2499 (pp4 d v r q)=(F_header_Size (q.1.1,())).bind fun u=>some (.normal,2819,WE d v r q u):=by kernel_rfl
theorem vE_eq (d:Pden psP) (v:Int) (r:AdR) (q:AtR) (u:SzR):(zvn 4).evs (look (frzW (WE d v r q u++pp4 d v r q)))=some (IntKind.i64.wrap (v+u.1.1)):=by kernel_rfl
theorem uE_eq (d:Pden psP) (v:Int) (r:AdR) (q:AtR) (u:SzR):zjq zlo (WE d v r q u++([]++(WT true d v r q++(kbW 36 true::(WY d v r q++(WC d v r q++(WB d v r++WA d v)))))))=true:=by kernel_rfl
theorem zvf (d:Pden psP) (v:Int):zjn d v=cond (inB d.2.1 d.1.2.2.1.length) (cond (decide (v<(d.1.2.2.1.getD d.2.1.toNat (0,0,0,0,())).2.2.1)) ((F_page_Address (d.1.1,d.2.1,v,())).bind fun r=>(F_object_At (d.1,r.1.1,())).bind fun q=>
 cond (errB (xP r q)) (some (.inl (xP r q,none))) ((F_header_Size (q.1.1,())).bind fun u=>some (.inl (xP r q,some (IntKind.i64.wrap (v+u.1.1)))))) (some (.inr ()))) none:=by
 unfold zjn
 rw [cA_eq]
 cases inB d.2.1 d.1.2.2.1.length with
 | false=>rfl
 | true=>
 cases decide (v<(d.1.2.2.1.getD d.2.1.toNat (0,0,0,0,())).2.2.1) with
 | false=>rfl
 | true=>
 simp only [cond_true,Option.bind_some]
 rw [show frzW (WA d v++hdP d v)=ppA d v from rfl,cB_eq]
 cases F_page_Address (d.1.1,d.2.1,v,()) with
 | none=>rfl
 | some r=>
 simp only [Option.bind_some]
 rw [show frzW (WB d v r++ppA d v)=ppB d v r from rfl,cC_eq]
 cases F_object_At (d.1,r.1.1,()) with
 | none=>rfl
 | some q=>
 simp only [Option.bind_some]
 rw [show frzW (WC d v r q++ppB d v r)=pp2 d v r q from rfl,wY_eq]
 simp only [Option.bind_some]
 rw [yP_eq]
 simp only [Option.bind_some]
 rw [xP_eq]
 simp only [Option.bind_some,tailP]
 rw [wTf_eq]
 simp only [Option.bind_some]
 rw [show frzW (WT false d v r q++(kbW 36 false::frzW (WY d v r q++pp2 d v r q)))=pp3 false d v r q from rfl,cF_eq]
 simp only [Option.bind_some]
 rw [wTt_eq]
 simp only [Option.bind_some]
 rw [show frzW (WT true d v r q++(kbW 36 true::frzW (WY d v r q++pp2 d v r q)))=pp3 true d v r q from rfl,cT_eq]
 cases he:errB (xP r q) with
 | true=>rfl
 | false=>
 simp only [cond_false,Option.bind_some]
 rw [show frzW ([]++pp3 true d v r q)=pp4 d v r q from rfl,cE_eq]
 cases F_header_Size (q.1.1,()) with
 | none=>rfl
 | some u=>
 simp only [Option.bind_some]
 rw [vE_eq]
 simp only [Option.bind_some]
 rw [uE_eq]
 rfl
end Go.VI
namespace Go.VI
open Go
theorem zay (a b c:Int):F_page_within (a,b,c,())=some ((decide (b<=a/\a<=c),()),()):=by
 rw [zhm];dsimp only
 rw [cand,Bool.decide_and]
theorem zaM (pw np:Int):F_page_ValidConf ((pw,np,()),())=some ((confB pw np,()),()):=by
 rw [zeQ];dsimp only
 rw [zay,zay,Option.bind_some,Option.bind_some]
 dsimp only
 have e:confB pw np=(decide (16<=pw/\pw<=64)&&(pw.tmod 4 == 0)&&decide (8<=np/\np<=64)):=by
  rw [Bool.eq_iff_iff,zaD]
  simp only [Bool.and_eq_true,decide_eq_true_eq,beq_iff_eq]
  omega
 rw [e]
 cases decide (16<=pw/\pw<=64) <;> cases (pw.tmod 4 == 0) <;> rfl
theorem zgY (pw np:Int):F_page_size ((pw,np,()),())=some ((W (pw*np),()),()):=by
 rw [zov]
theorem zbT (n:Int):F_page_isSpace (n,())=some ((P.zjx n,()),()):=by
 rw [zgy];dsimp only
 rw [cor];unfold P.zjx
 rw [Bool.decide_or];rfl
theorem zeu (n:Int):F_page_isPins (n,())=some ((P.zkr n,()),()):=by
 rw [zhn];dsimp only
 rw [zay,Option.bind_some]
 rfl
theorem ze9 (pw np:Int):F_page_SmallWords ((pw,np,()),())=some ((P.zlt pw np,()),()):=by
 rw [zd0];dsimp only
 rw [zaM,Option.bind_some]
 dsimp only
 cases hc:confB pw np
 · rw [P.zvh (by rw [zas];exact hc)];rfl
 · have c:=zaD.1 hc
   rw [P.zmo (by rw [zas];exact hc)]
   have hq:W (pw.tdiv 4)=pw / 4:=by rw [Int.tdiv_eq_ediv_of_nonneg (by omega)];exact W_id (by omega)
   rw [hq];rfl
theorem zgZ (pw np n:Int):F_page_Need ((pw,np,()),n,())=some ((P.ziq pw np n,()),()):=by
 rw [zow];dsimp only
 rw [zaM,zay,ze9,Option.bind_some,Option.bind_some,Option.bind_some]
 dsimp only
 cases hc:confB pw np
 · rw [P.zkF (.inl (by rw [zas];exact hc))];rfl
 have c:=zaD.1 hc
 have hc':P.confB pw np=true:=by rw [zas];exact hc
 have w4:W (4*pw)=4*pw:=W_id (by omega)
 rw [w4,P.zmo hc']
 by_cases h1:1<=n/\n<=4*pw
 · rw [decide_eq_true h1,P.zkE hc' h1.1]
   by_cases h2:n<=pw / 4
   · rw [decide_eq_true h2,P.zqg h2];rfl
   · rw [decide_eq_false h2,P.zud (by omega) (by omega) (by omega) (by omega)]
     have w1:W (n+pw)=n+pw:=W_id (by omega)
     have w2:W (n+pw-1)=n+pw-1:=W_id (by omega)
     rw [w1,w2,Int.tdiv_eq_ediv_of_nonneg (by omega)]
     have hd:=Int.ediv_le_self (a:=n+pw-1) pw (by omega)
     have hd0:=Int.ediv_nonneg (a:=n+pw-1) (b:=pw) (by omega) (by omega)
     rw [W_id (by omega)]
     have hpw:(!pw == 0)=true:=by simp;omega
     rw [hpw];rfl
 · rw [decide_eq_false h1]
   have:P.ziq pw np n = -1:=by
    by_cases h2:n<1
    · exact P.zkF (.inr h2)
    · rw [P.zkE hc' (by omega)]
      exact P.zsw (by omega) (by omega) (by omega)
   rw [this];rfl
theorem ze8 (pw np:Int) (ps:List PgD) (k:Nat) (hk:k<ps.length) (h0:(ps.getD k PG0).1=0):F_page_table_free (((pw,np,()),ps,()),(k:Int),())=some ((P.zoT (toPg (ps.getD k PG0)),()),()):=by
 rw [zdZ];dsimp only
 rw [zil.2 ⟨by omega,by omega⟩,Int.toNat_natCast,h0]
 generalize ps.getD k PG0=X
 obtain ⟨a,b,c,d,_⟩:=X
 have:P.zoT (toPg (a,b,c,d,()))=((b == 0)&&((c == 0)&&((d == 0)&&true))):=by
  show decide (b=0/\c=0/\d=0)=_
  rw [Bool.eq_iff_iff,decide_eq_true_eq]
  simp
 rw [this];rfl
theorem zer (pw np:Int) (ps:List PgD) (k:Nat) (hk:k<ps.length):F_page_table_small (((pw,np,()),ps,()),(k:Int),())=some ((P.zjX pw (toPg (ps.getD k PG0)),()),()):=by
 rw [zdv];dsimp only
 rw [zil.2 ⟨by omega,by omega⟩,Int.toNat_natCast]
 generalize ps.getD k PG0=X
 obtain ⟨a,b,c,d,_⟩:=X
 dsimp only
 rw [zbT,zay,zeu,Option.bind_some,Option.bind_some,Option.bind_some]
 dsimp only
 have:P.zjX pw (toPg (a,b,c,d,()))=(P.zjx b&&decide (0<=c/\c<=pw)&&P.zkr d):=rfl
 rw [this]
 cases P.zjx b <;> cases decide (0<=c/\c<=pw) <;> rfl
theorem zf6 {α:Type} {l:List α} {k:Nat} {x:α} (h:l[k]?=some x):l.drop k=x::l.drop (k+1):=by
 obtain ⟨hk,e⟩:=List.getElem?_eq_some_iff.1 h
 rw [List.drop_eq_getElem_cons hk,e]
theorem ztw {ps:List PgD} {k:Nat} (hk:k<ps.length):(ps.map toPg)[k]?=some (toPg (ps.getD k PG0)):=by
 rw [<-zat,List.getD_eq_getElem?_getD,List.getElem?_eq_getElem (by rw [List.length_map];exact hk)];rfl
theorem zr7 (sp:Int) (l:List PgD) (hl:l.length<=100000000):Tot (fun (r:(Bool×Unit)×Unit×Unit⊕(Bool×Unit)×Unit×Unit)=>(match r with | .inl x=>x.1.1=false/\P.zi4 sp (l.map toPg)=false | .inr _=>P.zi4 sp (l.map toPg)=true)) (rl ((Bool×Int×Unit)×Unit×Unit) ((Bool×Unit)×Unit×Unit⊕(Bool×Unit)×Unit×Unit) (fun (x:(Bool×Int×Unit)×Unit×Unit)=>
 bif decide (x.1.2.1<(l.length:Int)) then
 bif inB x.1.2.1 l.length then
 bif bif (l.getD x.1.2.1.toNat PG0).1 != 3 then true
 else (l.getD x.1.2.1.toNat PG0).2.1 != sp then some (Sum.inr (Sum.inl ((false,()),(),())))
 else some (Sum.inl ((x.1.1,W (x.1.2.1+1),()),(),()))
 else none
 else some (Sum.inr (Sum.inr ((x.1.1,()),(),())))) ((false,0,()),(),())):=by
  refine zak (fun x=>∃ k:Nat,x.1.2.1=(k:Int)/\k<=l.length/\P.zi4 sp ((l.map toPg).drop k)=P.zi4 sp (l.map toPg)) (fun x=>((l.length:Int)-x.1.2.1).toNat) ⟨0,rfl,by omega,rfl⟩ ?_
  rintro ⟨⟨(b:Bool),(i:Int),_⟩,_⟩ ⟨k,e,hk,hp⟩
  dsimp only at e ⊢
  subst e
  refine zac (fun h1=>?_) fun h1=>zab ?_
  · simp only [decide_eq_true_eq]at h1
    have hk':k<l.length:=by omega
    rw [zf6 (ztw hk')]at hp
    unfold P.zi4 at hp ⊢
    rw [List.all_cons]at hp
    rw [W_id (by omega),Int.toNat_natCast]
    generalize hX:l.getD k PG0=X at *
    obtain ⟨xk,xs,xu,xp,_⟩:=X
    refine zae (zil.2 ⟨by omega,by omega⟩) (zac (fun h2=>zab ?_) fun h2=>zab ?_)
    · refine ⟨rfl,?_⟩
      rw [<-hp,Bool.and_eq_false_iff]
      left
      refine decide_eq_false ?_
      simp only [cor,Bool.or_eq_true,bne_iff_ne,ne_eq]at h2
      rintro ⟨q1,q2⟩
      rcases h2 with h2 | h2
      · exact h2 q1
      · exact h2 q2
    · simp only [Sum.elim_inl]
      refine ⟨⟨k+1,by omega,by omega,?_⟩,by omega⟩
      rw [<-hp]
      simp only [cor,Bool.or_eq_false_iff,bne_eq_false_iff_eq]at h2
      have:decide ((toPg (xk,xs,xu,xp,())).kind=3/\(toPg (xk,xs,xu,xp,())).space=sp)=true:=decide_eq_true h2
      rw [this,Bool.true_and]
  · simp only [decide_eq_false_iff_not]at h1
    simp only [Sum.elim_inr]
    rw [<-hp,List.drop_eq_nil_of_le (by rw [List.length_map];omega)];rfl
theorem zet (pw np:Int) (ps:List PgD) (k:Nat) (hk:k<ps.length) (hl:ps.length<=100000000):Tot (fun r=>r.1.1=P.zjG pw np (ps.map toPg) k (toPg (ps.getD k PG0))) (F_page_table_large (((pw,np,()),ps,()),(k:Int),())):=by
 rw [zdx];dsimp only
 refine zae (zil.2 ⟨by omega,by omega⟩) ?_
 rw [Int.toNat_natCast]
 generalize hX:ps.getD k PG0=X
 obtain ⟨a,b,c,d,_⟩:=X
 dsimp only
 rw [zgZ,Option.bind_some,zbT,Option.bind_some,zeu,Option.bind_some]
 dsimp only
 have hlm:(ps.map toPg).length=ps.length:=List.length_map ..
 have e:P.zjG pw np (ps.map toPg) k (toPg (a,b,c,d,()))=(P.zjx b&&decide (1<=P.ziq pw np c)&&P.zkr d&&decide ((k:Int)+P.ziq pw np c<=ps.length)&&P.zi4 b (((ps.map toPg).drop (k+1)).take ((P.ziq pw np c).toNat-1))):=by rw [<-hlm];rfl
 rw [e]
 have b1:=P.zcE pw np c
 have b0:=P.zmU pw np c
 generalize P.ziq pw np c=N at *
 refine zac (fun h1=>zab ?_) fun h1=>?_
 · simp only [Bool.not_eq_true']at h1;rw [h1];rfl
 simp only [Bool.not_eq_false']at h1
 rw [h1,Bool.true_and]
 refine zac (fun h2=>zab ?_) fun h2=>?_
 · simp only [decide_eq_true_eq]at h2
   rw [decide_eq_false (show ¬1<=N by omega)];rfl
 simp only [decide_eq_false_iff_not]at h2
 rw [decide_eq_true (show 1<=N by omega),Bool.true_and]
 have w1:W ((k:Int)+N)=k+N:=W_id (by omega)
 have w2:W ((k:Int)+1)=k+1:=W_id (by omega)
 rw [w1,w2,cor]
 refine zac (fun h3=>zab ?_) fun h3=>?_
 · simp only [Bool.or_eq_true,Bool.not_eq_true',decide_eq_true_eq]at h3
   rcases h3 with h3 | h3
   · rw [h3];rfl
   · rw [decide_eq_false (show ¬(k:Int)+N<=ps.length by omega)];simp
 simp only [Bool.or_eq_false_iff,Bool.not_eq_false',decide_eq_false_iff_not]at h3
 rw [h3.1,decide_eq_true (show (k:Int)+N<=ps.length by omega)]
 simp only [Bool.true_and]
 refine zae (decide_eq_true (by omega)) ?_
 have ed:List.drop ((k:Int)+1).toNat (List.take ((k:Int)+N).toNat ps)=(ps.drop (k+1)).take (N.toNat-1):=by
  rw [List.drop_take]
  congr 1
  omega
 rw [ed]
 have el:((ps.map toPg).drop (k+1)).take (N.toNat-1)=((ps.drop (k+1)).take (N.toNat-1)).map toPg:=by
  rw [List.map_take,List.map_drop]
 rw [el]
 refine zad (zr7 b ((ps.drop (k+1)).take (N.toNat-1)) (by rw [List.length_take,List.length_drop];omega)) fun r hr=>ziA (fun x hx=>?_) fun x hx=>?_
 · subst hx;exact zab (hr.1.trans hr.2.symm)
 · subst hx;exact zab hr.symm
theorem zes (pw np:Int) (ps:List PgD) (k:Nat) (hk:k<ps.length) (hl:ps.length<=100000000):Tot (fun r=>r.1.1=P.zkK pw np (ps.map toPg) k) (F_page_table_owned (((pw,np,()),ps,()),(k:Int),())):=by
 rw [zdw];dsimp only
 unfold P.zkK
 refine zad (P:=fun r=>match r with
  | .inl x=>x.1.1=P.zji pw np (ps.map toPg) k 1
  | .inr _=>P.zji pw np (ps.map toPg) k 1=false) (zak (fun x=>∃ m b:Nat,x.1.2.1=(b:Int)/\m+b=k+1/\1<=b/\P.zji pw np (ps.map toPg) m b=P.zji pw np (ps.map toPg) k 1) (fun x=>((k:Int)+1-x.1.2.1).toNat) ⟨k,1,rfl,rfl,by omega,rfl⟩ ?_) fun r hr=>ziA (fun x hx=>?_) fun x hx=>?_
 · rintro ⟨⟨(q:Bool),(i:Int),_⟩,_⟩ ⟨m,b,e,hm,hb,hp⟩
   dsimp only at e ⊢
   subst e
   refine zac (fun h1=>?_) fun h1=>zab ?_
   · simp only [decide_eq_true_eq]at h1
     obtain ⟨m,rfl⟩:∃ n,m=n+1:=⟨m-1,by omega⟩
     have w1:W ((k:Int)-b)=(m:Nat):=by rw [W_id (by omega)];omega
     rw [w1,W_id (n:=(b:Int)+1) (by omega),Int.toNat_natCast]
     rw [P.zji,zat]at hp
     generalize hX:ps.getD m PG0=X at *
     obtain ⟨xk,xs,xu,xp,_⟩:=X
     have hp:(if xk=2 then decide ((b:Int)<P.ziq pw np xu) else P.zji pw np (ps.map toPg) m ((b:Int)+1))=P.zji pw np (ps.map toPg) k 1:=hp
     refine zae (zil.2 ⟨by omega,by omega⟩) (zac (fun h2=>?_) fun h2=>zab ?_)
     · rw [zgZ,Option.bind_some]
       simp only [beq_iff_eq]at h2
       rw [if_pos h2]at hp
       exact zab hp
     · simp only [beq_eq_false_iff_ne,ne_eq]at h2
       rw [if_neg h2]at hp
       simp only [Sum.elim_inl]
       exact ⟨⟨m,b+1,by omega,by omega,by omega,by rw [<-hp];rfl⟩,by omega⟩
   · simp only [decide_eq_false_iff_not]at h1
     obtain rfl:m=0:=by omega
     simp only [Sum.elim_inr]
     rw [<-hp];rfl
 · subst hx;exact zab hr
 · subst hx;exact zab hr.symm
theorem ze7 (pw np:Int) (ps:List PgD) (k:Nat) (hk:k<ps.length) (hl:ps.length<=100000000):Tot (fun r=>r.1.1=P.zkh pw np (ps.map toPg) k (toPg (ps.getD k PG0))) (F_page_table_tail (((pw,np,()),ps,()),(k:Int),())):=by
 rw [zdY];dsimp only
 refine zae (zil.2 ⟨by omega,by omega⟩) ?_
 rw [Int.toNat_natCast]
 generalize hX:ps.getD k PG0=X
 obtain ⟨a,b,c,d,_⟩:=X
 have e:P.zkh pw np (ps.map toPg) k (toPg (a,b,c,d,()))=((c == 0)&&(d == 0)&&P.zkK pw np (ps.map toPg) k):=by
  unfold P.zkh
  rw [Bool.decide_and];rfl
 rw [e]
 dsimp only
 refine zac (fun h1=>zac (fun h2=>zad (zes pw np ps k hk hl) fun r hr=>zab ?_) fun h2=>zab ?_) fun h1=>zab ?_
 · rw [h1,h2];exact hr
 · rw [h1,h2];rfl
 · rw [h1];rfl
theorem zdH (pw np:Int) (ps:List PgD) (hl:ps.length<=100000000):Tot (fun r=>r.1.1=P.ziY pw np (ps.map toPg)) (F_page_table_proper (((pw,np,()),ps,()),())):=by
 rw [zdd];dsimp only
 unfold P.ziY
 have hlm:(ps.map toPg).length=ps.length:=List.length_map ..
 refine zad (P:=fun r=>match r with
  | .inl x=>x.1.1=false/\P.zix pw np (ps.map toPg) 0 (ps.map toPg)=false
  | .inr _=>P.zix pw np (ps.map toPg) 0 (ps.map toPg)=true) (zak (fun x=>∃ k:Nat,x.1.2.1=(k:Int)/\k<=ps.length/\P.zix pw np (ps.map toPg) k ((ps.map toPg).drop k)=P.zix pw np (ps.map toPg) 0 (ps.map toPg)) (fun x=>((ps.length:Int)-x.1.2.1).toNat) ⟨0,rfl,by omega,rfl⟩ ?_) fun r hr=>ziA (fun x hx=>?_) fun x hx=>?_
 · rintro ⟨⟨(q:Bool),(i:Int),_⟩,_⟩ ⟨k,e,hk,hp⟩
   dsimp only at e ⊢
   subst e
   refine zac (fun h1=>?_) fun h1=>zab ?_
   · simp only [decide_eq_true_eq]at h1
     have hk':k<ps.length:=by omega
     rw [P.zr9 (ztw hk')]at hp
     rw [zay,Option.bind_some,W_id (n:=(k:Int)+1) (by omega),Int.toNat_natCast]
     have hfree:=ze8 pw np ps k hk'
     have hsmall:=zer pw np ps k hk'
     have hlarge:=zet pw np ps k hk' hl
     have htail:=ze7 pw np ps k hk' hl
     generalize hX:ps.getD k PG0=X at *
     obtain ⟨xk,xs,xu,xp,_⟩:=X
     dsimp only at hfree ⊢
     have bad:P.zi9 pw np (ps.map toPg) k (toPg (xk,xs,xu,xp,()))=false->Tot (Sum.elim (fun x':(Bool×Int×Unit)×Unit×Unit=>(∃ k:Nat,x'.1.2.1=(k:Int)/\k<=ps.length/\P.zix pw np (ps.map toPg) k ((ps.map toPg).drop k)=P.zix pw np (ps.map toPg) 0 (ps.map toPg))/\((ps.length:Int)-x'.1.2.1).toNat<((ps.length:Int)-(k:Int)).toNat) fun (r:(Bool×Unit)×Unit×Unit⊕(Bool×Unit)×Unit×Unit)=>match r with
      | .inl x=>x.1.1=false/\P.zix pw np (ps.map toPg) 0 (ps.map toPg)=false
      | .inr _=>P.zix pw np (ps.map toPg) 0 (ps.map toPg)=true) (some (Sum.inr (Sum.inl ((false,()),(),())))):=fun hs=>by
      rw [hs]at hp
      exact zab ⟨rfl,hp.symm⟩
     have good:P.zi9 pw np (ps.map toPg) k (toPg (xk,xs,xu,xp,()))=true->Tot (Sum.elim (fun x':(Bool×Int×Unit)×Unit×Unit=>(∃ k:Nat,x'.1.2.1=(k:Int)/\k<=ps.length/\P.zix pw np (ps.map toPg) k ((ps.map toPg).drop k)=P.zix pw np (ps.map toPg) 0 (ps.map toPg))/\((ps.length:Int)-x'.1.2.1).toNat<((ps.length:Int)-(k:Int)).toNat) fun (r:(Bool×Unit)×Unit×Unit⊕(Bool×Unit)×Unit×Unit)=>match r with
      | .inl x=>x.1.1=false/\P.zix pw np (ps.map toPg) 0 (ps.map toPg)=false
      | .inr _=>P.zix pw np (ps.map toPg) 0 (ps.map toPg)=true) (some (Sum.inl ((q,(k:Int)+1,()),(),()))):=fun hs=>by
      rw [hs,Bool.true_and]at hp
      refine zab ?_
      simp only [Sum.elim_inl]
      exact ⟨⟨k+1,by omega,by omega,hp⟩,by omega⟩
     have st:P.zi9 pw np (ps.map toPg) k (toPg (xk,xs,xu,xp,()))=if xk=0 then P.zoT (toPg (xk,xs,xu,xp,())) else if xk=1 then P.zjX pw (toPg (xk,xs,xu,xp,())) else if xk=2 then P.zjG pw np (ps.map toPg) k (toPg (xk,xs,xu,xp,())) else if xk=3 then P.zkh pw np (ps.map toPg) k (toPg (xk,xs,xu,xp,())) else false:=rfl
     rw [st]at bad good
     refine zae (zil.2 ⟨by omega,by omega⟩) (zac (fun h2=>bad ?_) fun h2=>?_)
     · simp only [Bool.not_eq_true',decide_eq_false_iff_not]at h2
       rw [if_neg (by omega),if_neg (by omega),if_neg (by omega),if_neg (by omega)]
     simp only [Bool.not_eq_false',decide_eq_true_eq]at h2
     refine zac (fun c0=>?_) fun c0=>?_
     · have c0:=of_decide_eq_true c0
       rw [if_pos c0]at bad good
       rw [hfree c0,Option.bind_some]
       exact zac (fun h3=>bad (by simpa using h3)) fun h3=>good (by simpa using h3)
     have c0:=of_decide_eq_false c0
     rw [if_neg c0]at bad good
     refine zac (fun c1=>?_) fun c1=>?_
     · have c1:=of_decide_eq_true c1
       rw [if_pos c1]at bad good
       rw [hsmall,Option.bind_some]
       exact zac (fun h3=>bad (by simpa using h3)) fun h3=>good (by simpa using h3)
     have c1:=of_decide_eq_false c1
     rw [if_neg c1]at bad good
     refine zac (fun c2=>?_) fun c2=>?_
     · have c2:=of_decide_eq_true c2
       rw [if_pos c2]at bad good
       refine zad hlarge fun r hr=>?_
       rw [<-hr]at bad good
       exact zac (fun h3=>bad (by simpa using h3)) fun h3=>good (by simpa using h3)
     have c2:=of_decide_eq_false c2
     rw [if_neg c2]at bad good
     refine zac (fun c3=>?_) fun c3=>?_
     · have c3:=of_decide_eq_true c3
       rw [if_pos c3]at bad good
       refine zad htail fun r hr=>?_
       rw [<-hr]at bad good
       exact zac (fun h3=>bad (by simpa using h3)) fun h3=>good (by simpa using h3)
     · have c3:=of_decide_eq_false c3
       omega
   · simp only [decide_eq_false_iff_not]at h1
     rw [P.ztx (by omega)]at hp
     simp only [Sum.elim_inr]
     exact hp.symm
 · subst hx;exact zab (hr.1.trans hr.2.symm)
 · subst hx;exact zab hr.symm
theorem zhA (ps:List PgD) (b:Int) (hb:¬b = -1) (hl:ps.length<=100000000):F_page_isSmall (ps,b,())=some ((P.zkI (ps.map toPg) b,()),()):=by
 rw [zgz];dsimp only
 rw [zay,Option.bind_some]
 dsimp only
 have w1:W ((ps.length:Int)-1)=ps.length-1:=W_id (by omega)
 have hlm:(ps.map toPg).length=ps.length:=List.length_map ..
 rw [w1]
 unfold P.zkI
 rw [hlm,zat]
 by_cases h:0<=b/\b<=(ps.length:Int)-1
 · rw [decide_eq_true h,zil.2 ⟨h.1,by omega⟩]
   have:decide (b = -1\/0<=b/\b<(ps.length:Int)/\(toPg (ps.getD b.toNat PG0)).kind=1)=((ps.getD b.toNat PG0).1 == 1):=by
    rw [Bool.eq_iff_iff,decide_eq_true_eq,beq_iff_eq]
    constructor
    · rintro (e | e)
      · exact absurd e hb
      · exact e.2.2
    · intro e;exact .inr ⟨h.1,by omega,e⟩
   rw [this];rfl
 · rw [decide_eq_false h]
   have:decide (b = -1\/0<=b/\b<(ps.length:Int)/\(toPg (ps.getD b.toNat PG0)).kind=1)=false:=decide_eq_false (by
    rintro (e | e)
    · exact hb e
    · exact h ⟨e.1,by omega⟩)
   rw [this];rfl
theorem zbu (h:HpD) (hw:HpW h):Tot (fun r=>r.1.1=P.okH (toHp h)) (F_page_Proper (h,())):=by
 obtain ⟨⟨pw,np,_⟩,ws,ps,sp,bu,_⟩:=h
 have hl:=hw.pl
 have hwl:=hw.wl
 dsimp only at hl hwl
 have hlm:(ps.map toPg).length=ps.length:=List.length_map ..
 have e:P.okH (toHp ((pw,np,()),ws,ps,sp,bu,()))=(confB pw np&&decide ((ws.length:Int)=np*pw)&&decide ((ps.length:Int)=np)&&P.zjx sp&&P.zkI (ps.map toPg) bu&&P.ziY pw np (ps.map toPg)):=by
  show P.zj8 pw np ws.length (ps.map toPg) sp bu=_
  rw [<-P.zdU,<-zas]
  unfold P.zk1
  rw [hlm]
 rw [e]
 rw [zho];dsimp only
 rw [zaM,Option.bind_some]
 refine zac (fun h1=>zab ?_) fun h1=>?_
 · simp only [Bool.not_eq_true']at h1;rw [h1];rfl
 simp only [Bool.not_eq_false']at h1
 have c2:=zaD.1 h1
 have cm:=P.conf_prod (pw:=pw) (np:=np) (by rw [zas];exact h1)
 rw [h1,Bool.true_and,zgY,Option.bind_some]
 dsimp only
 rw [cor,Int.mul_comm pw np,W_id (n:=np*pw) (by omega)]
 refine zac (fun h2=>zab ?_) fun h2=>?_
 · simp only [Bool.or_eq_true,bne_iff_ne,ne_eq]at h2
   rcases h2 with h2 | h2
   · rw [decide_eq_false h2];rfl
   · rw [decide_eq_false (p:=(ps.length:Int)=np) h2];simp
 simp only [Bool.or_eq_false_iff,bne_eq_false_iff_eq]at h2
 rw [decide_eq_true h2.1,decide_eq_true h2.2,zbT,Option.bind_some]
 simp only [Bool.true_and]
 refine zac (fun h3=>zab ?_) fun h3=>?_
 · simp only [Bool.not_eq_true']at h3;rw [h3];rfl
 simp only [Bool.not_eq_false']at h3
 rw [h3,Bool.true_and]
 have fin:∀ b:Bool,b=true->Tot (fun r=>r.1.1=(b&&P.ziY pw np (ps.map toPg))) ((F_page_table_proper (((pw,np,()),ps,()),())).bind fun (r:(Bool×Unit)×Unit)=>some ((r.1.1,()),())):=fun b hb=>zad (zdH pw np ps hl) fun r hr=>zab (by rw [hb,Bool.true_and];exact hr)
 refine zac (fun h4=>?_) fun h4=>fin _ ?_
 · simp only [bne_iff_ne,ne_eq]at h4
   rw [zhA ps bu h4 hl,Option.bind_some]
   refine zac (fun h5=>zab ?_) fun h5=>fin _ (by simpa using h5)
   simp only [Bool.not_eq_true']at h5;rw [h5];rfl
 · simp only [bne_eq_false_iff_eq]at h4
   subst h4
   unfold P.zkI;exact decide_eq_true (.inl rfl)
theorem zuX (pw np a:Int) (ha:0<=a/\a<18446744073709551616):F_page_Of ((pw,np,()),a,())=some ((P.ofI pw np a,P.ofK pw np a,P.ofE pw np a,()),()):=by
 rw [zsv];dsimp only
 rw [zaM,zgY,Option.bind_some,Option.bind_some]
 dsimp only
 cases hc:confB pw np
 · obtain ⟨e1,e2,e3⟩:=P.zvG (pw:=pw) (np:=np) (a:=a) (by rw [zas];exact hc)
   rw [e1,e2,e3];rfl
 have hc':P.confB pw np=true:=by rw [zas];exact hc
 obtain ⟨c1,c2⟩:=P.conf_prod hc'
 have c3:=P.zai hc'
 rw [Int.mul_comm pw np,W_id (n:=np*pw) (by omega),U_id (n:=np*pw) (by omega)]
 have hpw:(!pw == 0)=true:=by simp;omega
 by_cases h1:a<4096
 · obtain ⟨e1,e2,e3⟩:=P.zkz (a:=a) hc' (by unfold P.inAr;exact decide_eq_false (by omega))
   rw [e1,e2,e3,decide_eq_true h1];rfl
 have w4:U (a-4096)=a-4096:=U_id (by omega)
 rw [w4,decide_eq_false h1]
 by_cases h2:a-4096 >= np*pw
 · obtain ⟨e1,e2,e3⟩:=P.zkz (a:=a) hc' (by unfold P.inAr;exact decide_eq_false (by omega))
   rw [e1,e2,e3,decide_eq_true h2];rfl
 obtain ⟨e1,e2,e3⟩:=P.zlY (a:=a) hc' (by unfold P.inAr;exact decide_eq_true (by omega))
 have w5:W (a-4096)=a-4096:=W_id (by omega)
 have hd:=Int.ediv_le_self (a:=a-4096) pw (by omega)
 have hd0:=Int.ediv_nonneg (a:=a-4096) (b:=pw) (by omega) (by omega)
 rw [decide_eq_false h2,w5,hpw,e1,e2,e3,Int.tdiv_eq_ediv_of_nonneg (by omega),Int.tmod_eq_emod_of_nonneg (by omega),W_id (n:=(a-4096) / pw) (by omega)]
 rfl
end Go.VI
namespace Go.VI
open Go
theorem zdo (ws:List Int) (a:Int) (n:Nat) (hl:ws.length<=100000000) (hn:n<=100000000) (ha:0<=a/\a<18446744073709551616):F_arena_locate (ws,a,(n:Int),())=some (((if P.okA ws.length a n then a-4096 else 0),(if P.okA ws.length a n then 0 else 2),()),()):=by
 rw [zgD];dsimp only
 rw [decide_eq_false (show ¬(n:Int)<0 by omega),U_id (n:=(ws.length:Int)) (by omega),U_id (n:=(n:Int)) (by omega)]
 by_cases h1:a<4096
 · have:P.okA ws.length a n=false:=by rw [<-Bool.not_eq_true,P.ziz];omega
   rw [decide_eq_true h1,this];rfl
 have u1:U (a-4096)=a-4096:=U_id (by omega)
 rw [decide_eq_false h1,u1]
 by_cases h2:a-4096 > (ws.length:Int)
 · have:P.okA ws.length a n=false:=by rw [<-Bool.not_eq_true,P.ziz];omega
   rw [decide_eq_true h2,this];rfl
 have u2:U ((ws.length:Int)-(a-4096))=ws.length-(a-4096):=U_id (by omega)
 have w1:W (a-4096)=a-4096:=W_id (by omega)
 rw [decide_eq_false h2,u2,w1]
 by_cases h3:(n:Int) > (ws.length:Int)-(a-4096)
 · have:P.okA ws.length a n=false:=by rw [<-Bool.not_eq_true,P.ziz];omega
   rw [decide_eq_true h3,this];rfl
 · have:P.okA ws.length a n=true:=by rw [P.ziz];omega
   rw [decide_eq_false h3,this];rfl
theorem znw (ws:List Int) (a:Int) (hl:ws.length<=100000000) (ha:0<=a/\a<18446744073709551616):F_arena_Index (ws,a,())=some ((P.zlD ws.length a,P.zlE ws.length a,()),()):=by
 rw [zhu];dsimp only
 have h:F_arena_locate (ws,a,1,())=_:=zdo ws a 1 hl (by omega) ha
 rw [h];rfl
theorem zpk (ws:List Int) (a:Int) (hl:ws.length<=100000000) (ha:0<=a/\a<18446744073709551616):F_arena_Load (ws,a,())=some ((P.zit ws a,P.zlA ws a,()),()):=by
 rw [zmR];dsimp only
 rw [znw ws a hl ha,Option.bind_some]
 dsimp only
 unfold P.zlD P.zlE P.zit P.zlA
 cases h:P.okA ws.length a 1
 · rfl
 · have:=P.ziz.1 h
   simp only [if_true]
   rw [zil.2 ⟨by omega,by omega⟩];rfl
theorem zbc (k:Nat) (ws:List Int) (hk:k<ws.length):F_bits_Unpack_S1_c ((k:Int),ws,())=some ((ws.getD k 0,()),ws,()):=by
 rw [zdA];dsimp only
 rw [zil.2 ⟨by omega,by omega⟩,Int.toNat_natCast];rfl
theorem zrN {ws:List Int} {k:Nat} (hk:k<ws.length):ws[k]?=some (ws.getD k 0):=by
 rw [List.getD_eq_getElem?_getD,List.getElem?_eq_getElem hk];rfl
theorem zs1 (ws:List Int) (hl:ws.length<=100000000):Tot (fun r=>r.1.1=P.fitL 64 ws/\r.2.1=ws) (F_bits_fit_c_bits_Unpack_S1 ((ws.length:Int),ws,())):=by
 rw [zbt];dsimp only
 refine zad (P:=fun r=>match r with
  | .inl x=>(x.1.1=false/\P.fitL 64 ws=false)/\x.2.2.1.1=ws
  | .inr x=>P.fitL 64 ws=true/\x.2.2.1.1=ws) (zak (fun x=>∃ k:Nat,x.1.2.2.1=(k:Int)/\k<=ws.length/\x.2.2.1.1=ws/\0<=x.1.2.1/\x.1.2.1<=64/\P.fitL x.1.2.1 (ws.drop k)=P.fitL 64 ws) (fun x=>((ws.length:Int)-x.1.2.2.1).toNat) ⟨0,rfl,by omega,rfl,by dsimp only;omega,by dsimp only;omega,rfl⟩ ?_) fun r hr=>ziA (fun x hx=>?_) fun x hx=>?_
 · rintro ⟨⟨(q:Bool),(lf:Int),(i:Int),_⟩,_,⟨(l:List Int),_⟩,_⟩ ⟨k,e,hk,el,h0,h64,hp⟩
   dsimp only at e el h0 h64 hp ⊢
   rw [e,el]
   refine zac (fun h1=>?_) fun h1=>zab ?_
   · simp only [decide_eq_true_eq]at h1
     have hk':k<ws.length:=by omega
     have hx:=zrN hk'
     rw [zbc k ws hk',Option.bind_some]
     dsimp only
     generalize ws.getD k 0=v at *
     refine zac (fun h2=>zab ⟨⟨rfl,?_⟩,rfl⟩) fun h2=>?_
     · rw [<-hp];exact P.zm6 hx (.inl (by simpa using h2))
     simp only [decide_eq_false_iff_not]at h2
     rw [zbc k ws hk',Option.bind_some]
     have hv:ws.getD k 0=v:=by rw [List.getD_eq_getElem?_getD,hx];rfl
     dsimp only
     rw [hv]
     refine zac (fun h3=>zab ⟨⟨rfl,?_⟩,rfl⟩) fun h3=>?_
     · rw [<-hp];exact P.zm6 hx (.inr (by simpa using h3))
     simp only [decide_eq_false_iff_not]at h3
     rw [zbc k ws hk',Option.bind_some]
     dsimp only
     rw [hv,W_id (n:=lf-v) (by omega),W_id (n:=(k:Int)+1) (by omega)]
     refine zab ⟨⟨k+1,by dsimp only;omega,by omega,rfl,by dsimp only;omega,by dsimp only;omega,?_⟩,by dsimp only;omega⟩
     rw [<-hp];exact (P.zrP hx h2 (by omega)).symm
   · simp only [decide_eq_false_iff_not]at h1
     refine ⟨?_,rfl⟩
     rw [<-hp];exact P.zrR (by omega)
 · subst hx;exact zab ⟨hr.1.1.trans hr.1.2.symm,hr.2⟩
 · subst hx;exact zab ⟨hr.1.symm,hr.2⟩
theorem zdI (n:Int):F_bits_Ones (n,())=some ((P.zky n,()),()):=by
 rw [zoB];dsimp only
 by_cases h:n<0
 · rw [decide_eq_true h,P.ztZ n h];rfl
 · rw [decide_eq_false h]
   have e:U (U (1*2 ^ min n.toNat IntKind.u64.bits)-1)=P.zky n:=by
    have hb:IntKind.u64.bits=64:=rfl
    rw [hb,Int.one_mul]
    unfold P.zky
    by_cases hc:n.toNat<64
    · rw [show min n.toNat 64=n.toNat from by omega]
      have h1:=P.zuq n.toNat hc
      have h2:=P.zup n.toNat
      rw [U_id (n:=2 ^ n.toNat) (by omega),U_id (by omega)]
    · rw [show min n.toNat 64=64 from by omega];rfl
   rw [e];rfl
theorem znM:∀ (ws:List Int) (x k:Nat) (a:Int),ws[k]?=some a->(P.zlU x ws)[k]?=some (((x >>> P.sumW (ws.take k)) &&& P.zkL a:Nat):Int)
 | [],x,k,a,h=>by simp at h
 | b::r,x,0,a,h=>by
  simp only [List.getElem?_cons_zero,Option.some.injEq]at h
  subst h
  simp [P.zlU,P.sumW]
 | b::r,x,k+1,a,h=>by
  rw [List.getElem?_cons_succ]at h
  rw [P.zlU,List.getElem?_cons_succ,znM r _ k a h,List.take_succ_cons,P.sumW,Nat.shiftRight_add]
theorem znu (x:Nat) (hx:x<18446744073709551616) (ws:List Int) (hl:ws.length<=1000):Tot (fun r=>r.1.1=P.unpV x ws/\r.1.2.1=P.unpE x ws) (F_bits_Unpack ((x:Int),ws,())):=by
 rw [zhs];dsimp only
 refine zad (zs1 ws (by omega)) ?_
 rintro ⟨⟨(b:Bool),_⟩,(l:List Int),_⟩ ⟨hb,el⟩
 dsimp only at hb el ⊢
 rw [hb,el]
 refine zac (fun h1=>zab ?_) fun h1=>?_
 · simp only [Bool.not_eq_true']at h1
   unfold P.unpV P.unpE
   rw [h1];exact ⟨rfl,rfl⟩
 simp only [Bool.not_eq_false']at h1
 refine zae (decide_eq_true (by omega)) (zae (zag.2 (by omega)) ?_)
 refine zad (P:=fun r=>r.1.1=((x >>> P.sumW ws:Nat):Int)/\r.2.2.1=P.zlU x ws) (zak (fun y=>∃ k:Nat,y.1.2.1=(k:Int)/\k<=ws.length/\y.1.1=((x >>> P.sumW (ws.take k):Nat):Int)/\y.2.2.1.length=ws.length/\∀ j,j<k->y.2.2.1[j]?=(P.zlU x ws)[j]?) (fun y=>((ws.length:Int)-y.1.2.1).toNat) ⟨0,rfl,by omega,by simp [P.sumW],by simp,fun j hj=>by omega⟩ ?_) ?_
 · rintro ⟨⟨(v:Int),(i:Int),_⟩,_,(L:List Int),_⟩ ⟨k,e,hk,ev,hL,hj⟩
   dsimp only at e ev hL hj ⊢
   rw [e,ev]
   refine zac (fun h2=>?_) fun h2=>zab ?_
   · simp only [decide_eq_true_eq]at h2
     have hk':k<ws.length:=by omega
     have hx':=zrN hk'
     have hm:=P.zm7 ws 64 (by omega) h1 _ (List.mem_of_getElem? hx')
     rw [Int.toNat_natCast]
     generalize ws.getD k 0=a at *
     rw [zdI,Option.bind_some]
     dsimp only
     have hin:inB (k:Int) ws.length=true:=zil.2 ⟨by omega,by omega⟩
     refine zae hin (zae (zil.2 ⟨by omega,by omega⟩) (zae hin (zae (by simp;omega) (zab ?_))))
     have hv:x >>> P.sumW (ws.take k)<18446744073709551616:=P.shr_lt x _ hx
     have e1:ziW IntKind.u64 (fun (x1 x2:BitVec IntKind.u64.bits)=>x1 &&& x2) ((x >>> P.sumW (ws.take k):Nat):Int) (P.zky a)=(((x >>> P.sumW (ws.take k)) &&& P.zkL a:Nat):Int):=by
      rw [P.zhT]
      exact znk _ _ hv (P.zvE a)
     have e2:(((x >>> P.sumW (ws.take k):Nat):Int)).fdiv (2 ^ min a.toNat IntKind.u64.bits)=((x >>> P.sumW (ws.take (k+1)):Nat):Int):=by
      have hb:IntKind.u64.bits=64:=rfl
      rw [hb,show min a.toNat 64=a.toNat from by omega,<-P.zcK,zb3 _ _ (Nat.pow_pos (by omega)),P.ztz hx',Nat.shiftRight_add,Nat.shiftRight_eq_div_pow (x >>> _)]
     refine ⟨⟨k+1,?_,by omega,e2,?_,?_⟩,?_⟩
     · dsimp only;exact W_id (by omega)
     · dsimp only;rw [List.length_set];exact hL
     · intro j hjk
       dsimp only
       rw [e1]
       by_cases hq:j=k
       · subst hq
         rw [znM ws x j a hx',List.getElem?_set_self (by omega)]
       · rw [List.getElem?_set_ne (by omega)]
         exact hj j (by omega)
     · dsimp only;rw [W_id (by omega)];omega
   · simp only [decide_eq_false_iff_not]at h2
     obtain rfl:k=ws.length:=by omega
     refine ⟨by rw [List.take_length],?_⟩
     show L=_
     refine List.ext_getElem? fun j=>?_
     by_cases hq:j<ws.length
     · exact hj j hq
     · rw [List.getElem?_eq_none (by omega),List.getElem?_eq_none (by rw [P.zto];omega)]
 · rintro ⟨⟨(v:Int),_⟩,_,(L:List Int),_⟩ ⟨hv,hL⟩
   dsimp only at hv hL ⊢
   subst hv hL
   unfold P.unpV P.unpE
   rw [h1,if_pos rfl,if_pos rfl]
   refine zac (fun h2=>zab ?_) fun h2=>zab ?_
   · simp only [bne_iff_ne,ne_eq]at h2
     rw [if_neg (by omega),if_neg (by omega)];exact ⟨rfl,rfl⟩
   · simp only [bne_eq_false_iff_eq]at h2
     rw [if_pos (by omega),if_pos (by omega)];exact ⟨rfl,rfl⟩
theorem zbU (k n m:Int) (hm:0<=m/\m<4294967296):F_header_Valid ((k,n,m,()),())=some ((P.zir k n m,()),()):=by
 rw [zgC];dsimp only
 have key:∀ {o:Option ((Bool×Unit)×Unit)},Tot (fun r=>r.1.1=P.zir k n m) o->o=some ((P.zir k n m,()),()):=fun h=>by
  obtain ⟨⟨⟨(b:Bool),_⟩,_⟩,rfl,e⟩:=h
  have e:b=P.zir k n m:=e
  rw [e]
 refine key (zac (fun h=>?_) fun h=>?_)
 · simp only [beq_iff_eq]at h
   subst h
   refine zac (fun h1=>zac (fun h2=>?_) fun h2=>zab ?_) fun h1=>zab ?_
   · simp only [decide_eq_true_eq,ge_iff_le]at h1 h2
     rw [zdI,Option.bind_some]
     refine zab ?_
     dsimp only
     rw [U_id (n:=m) (by omega)]
     by_cases h3:m<=P.zky n
     · rw [decide_eq_true h3,P.zfV ⟨by omega,by omega,h1,by omega,fun _=>⟨h2,(P.zrz h1 h2).1 h3⟩,fun c=>absurd rfl c⟩]
     · rw [decide_eq_false h3,P.map_no h1 h2 (by omega)]
   · simp only [decide_eq_false_iff_not]at h2
     exact (P.za6 (fun c=>h2 (c.2.2.2.2.1 rfl).1)).symm
   · simp only [decide_eq_false_iff_not,ge_iff_le]at h1
     exact (P.za6 (fun c=>h1 c.2.2.1)).symm
 · simp only [beq_eq_false_iff_ne,ne_eq]at h
   refine zac (fun h1=>zab ?_) fun h1=>zab ?_
   · have hk:k=0\/k=2\/k=3:=by
      by_cases c0:k=0
      · exact .inl c0
      · by_cases c2:k=2
        · exact .inr (.inl c2)
        · rw [show (k == 0)=false from by simpa using c0,show (k == 2)=false from by simpa using c2]at h1
          simp only [cond_false,beq_iff_eq]at h1
          exact .inr (.inr h1)
     dsimp only
     have e:((k == k)&&((n == n)&&((m == 0)&&true)))=(m == 0):=by simp
     rw [e]
     by_cases q1:0<=n
     · by_cases q2:n<=255
       · rw [decide_eq_true (show n >= 0 from q1),decide_eq_true q2]
         by_cases q3:m=0
         · rw [P.zpy hk q1 q2 q3,q3];rfl
         · rw [P.za6 (fun c=>q3 (c.2.2.2.2.2 h))];simp [q3]
       · rw [decide_eq_true (show n >= 0 from q1),decide_eq_false q2,P.za6 (fun c=>q2 c.2.2.2.1)];rfl
     · rw [decide_eq_false (show ¬n >= 0 from q1),P.za6 (fun c=>q1 c.2.2.1)];rfl
   · rw [P.za6]
     rintro ⟨q1,q2,-⟩
     have hk:k=0\/k=2\/k=3:=by omega
     rcases hk with e | e | e <;> subst e <;> simp at h1
theorem zbv (k n m:Int) (hm:0<=m/\m<4294967296):F_header_Size ((k,n,m,()),())=some ((P.ziC k n m,()),()):=by
 rw [zhr];dsimp only
 rw [zbU k n m hm,Option.bind_some]
 dsimp only
 cases h:P.zir k n m
 · rw [P.zpC h];rfl
 · have:=P.zam h
   rw [P.zjA h,W_id (n:=n+1) (by omega)];rfl
theorem zg2 (x:Nat) (hx:x<18446744073709551616):F_header_Decode ((x:Int),())=some (((P.decK x,P.decN x,P.decM x,()),P.okD x,()),()):=by
 rw [zfK];dsimp only
 obtain ⟨⟨⟨(l:List Int),(e:Int),_⟩,_⟩,he,h1,h2⟩:=znu x hx [2,2,12,32] (by simp)
 rw [he,Option.bind_some]
 dsimp only at h1 h2 ⊢
 have hf:P.fitL 64 [2,2,12,32]=true:=by decide
 have hs:P.sumW [2,2,12,32]=48:=by decide
 unfold P.unpV at h1
 unfold P.unpE at h2
 rw [hf,if_pos rfl,hs]at h1 h2
 by_cases hz:x >>> 48=0
 · have hz':x<281474976710656:=by
    rw [Nat.shiftRight_eq_div_pow]at hz
    omega
   rw [if_pos hz]at h1 h2
   have uv:P.zlU x [2,2,12,32]=[((x % 4:Nat):Int),(P.dK x:Int),(P.dN x:Int),(P.dM x:Int)]:=by
    show [((x &&& P.zkL 2:Nat):Int),((x >>> 2 &&& P.zkL 2:Nat):Int),((x >>> 2 >>> 2 &&& P.zkL 12:Nat):Int),((x >>> 2 >>> 2 >>> 12 &&& P.zkL 32:Nat):Int)]=_
    rw [P.zf8,P.zf8,P.zf8,P.zf8,<-Nat.shiftRight_add,<-Nat.shiftRight_add,Nat.shiftRight_eq_div_pow,Nat.shiftRight_eq_div_pow,Nat.shiftRight_eq_div_pow]
    rfl
   rw [uv]at h1
   subst h1 h2
   have hmb:(0:Int)<=(P.dM x:Int)/\(P.dM x:Int)<4294967296:=by unfold P.dM;omega
   have w1:W (P.dK x:Int)=P.dK x:=W_id (by unfold P.dK;omega)
   have w2:W (P.dN x:Int)=P.dN x:=W_id (by unfold P.dN;omega)
   have w3:U32 (P.dM x:Int)=P.dM x:=by rw [U32,IntKind.wrap_u32];omega
   have i0:∀ a b c d:Int,inB 0 ([a,b,c,d]:List Int).length=true:=fun _ _ _ _=>rfl
   have i1:∀ a b c d:Int,inB 1 ([a,b,c,d]:List Int).length=true:=fun _ _ _ _=>rfl
   have i2:∀ a b c d:Int,inB 2 ([a,b,c,d]:List Int).length=true:=fun _ _ _ _=>rfl
   have i3:∀ a b c d:Int,inB 3 ([a,b,c,d]:List Int).length=true:=fun _ _ _ _=>rfl
   have g0:∀ a b c d:Int,([a,b,c,d]:List Int).getD (Int.toNat 0) 0=a:=fun _ _ _ _=>rfl
   have g1:∀ a b c d:Int,([a,b,c,d]:List Int).getD (Int.toNat 1) 0=b:=fun _ _ _ _=>rfl
   have g2:∀ a b c d:Int,([a,b,c,d]:List Int).getD (Int.toNat 2) 0=c:=fun _ _ _ _=>rfl
   have g3:∀ a b c d:Int,([a,b,c,d]:List Int).getD (Int.toNat 3) 0=d:=fun _ _ _ _=>rfl
   simp only [i0,i1,i2,i3,g0,g1,g2,g3,w1,w2,w3,zbU _ _ _ hmb,Option.bind_some,bne_self_eq_false,cond_false,cond_true]
   by_cases h4:x % 4=1
   · rw [h4]
     cases hv:P.zir (P.dK x) (P.dN x) (P.dM x)
     · have hok:=P.zt1 (x:=x) (.inr (.inr hv))
       obtain ⟨f1,f2,f3⟩:=P.zo0 hok
       rw [hok,f1,f2,f3];rfl
     · have hok:=P.zwl h4 hz' hv
       obtain ⟨f1,f2,f3⟩:=P.zma hok
       rw [hok,f1,f2,f3];rfl
   · have hok:=P.zt1 (x:=x) (.inl h4)
     obtain ⟨f1,f2,f3⟩:=P.zo0 hok
     have:((((x % 4:Nat):Int)) != 1)=true:=by simp;omega
     rw [this,hok,f1,f2,f3];rfl
 · have hz':¬x<281474976710656:=by
    intro c
    apply hz
    rw [Nat.shiftRight_eq_div_pow]
    omega
   rw [if_neg hz]at h1 h2
   subst h1 h2
   have hok:=P.zt1 (x:=x) (.inr (.inl hz'))
   obtain ⟨f1,f2,f3⟩:=P.zo0 hok
   rw [hok,f1,f2,f3];rfl
theorem zns (k s u p o n:Int) (ho:0<=o/\o<=100000000) (hn:0<=n/\n<=100000000):F_object_fits ((k,s,u,p,()),o,n,())=some (((if k=1 then decide (o+n<=u) else if k=2 then decide (o=0/\n=u) else false),()),()):=by
 rw [zhp];dsimp only
 rw [W_id (n:=o+n) (by omega)]
 by_cases h1:k=1
 · subst h1;rfl
 · rw [if_neg h1,show (k == 1)=false from by simpa using h1]
   by_cases h2:k=2
   · subst h2
     rw [if_pos rfl,Bool.decide_and]
     simp only [cand];rfl
   · rw [if_neg h2,show (k == 2)=false from by simpa using h2];rfl
end Go.VI
namespace Go.VI
open Go
theorem zep (n:Nat) (d:WdD) (hm:Mk n d) (l:List Int) (a:Int) (h0:0<=a) (h1:a<=1000000) :
 Tot (fun (r:(WdD×Unit)×(List Int×Int×Unit)×Unit)=>HpW r.1.1.1) (F_made_World_Spoil (d,(l,a,()),())):=by
 obtain ⟨⟨⟨pw,np,_⟩,ws,ps,sp,bu,_⟩,st,wk,_⟩:=d
 have L:=hm.lens
 have hw:=hm.hw
 have hcf:P.confB pw np=true:=L.conf
 have c3:=P.zai hcf
 obtain ⟨cp1,cp2⟩:=P.conf_prod hcf
 have hwl:(ws.length:Int)=np*pw:=L.words
 have hlm:(ps.map toPg).length=ps.length:=List.length_map ..
 have hpn:(ps.length:Int)=np:=by have:=L.pages;rw [<-hlm];exact this
 have hwb:WBo ws:=hm.wb
 have fin:∀ (cf:CfD) (ws':List Int) (ps':List PgD) (s b:Int) (tp:List Int×Int×Unit),ws'.length<=100000000->ps'.length<=100000000->WBo ws'->Tot (fun (r:(WdD×Unit)×(List Int×Int×Unit)×Unit)=>HpW r.1.1.1) (some ((((cf,ws',ps',s,b,()),st,wk,()),()),tp,())):=fun cf ws' ps' s b tp q1 q2 q3=>zab ⟨q1,q2,q3⟩
 have setW:∀ (i:Nat) (v:Int),0<=v/\v<18446744073709551616->(ws.set i v).length<=100000000/\WBo (ws.set i v):=fun i v hv=>⟨by rw [List.length_set];omega,hwb.set hv⟩
 have setP:∀ (i:Nat) (v:PgD),(ps.set i v).length<=100000000:=fun i v=>by rw [List.length_set];omega
 rw [zdy];dsimp only
 refine zae (zag.2 (by omega)) (zae (zag.2 (by omega)) (zad (zaj l a (ws.length:Int) h0 (by omega) (by omega)) ?_))
 rintro ⟨⟨(wi:Int),_⟩,⟨(l1:List Int),(a1:Int),_⟩,_⟩ g1
 have q1:=g1.lo;have q2:=g1.hi (by omega);have q4:=g1.a0;have q5:=g1.a1
 dsimp only at q1 q2 q4 q5 ⊢
 refine zad (zaj l1 a1 (ps.length:Int) (by omega) (by omega) (by omega)) ?_
 rintro ⟨⟨(pi:Int),_⟩,⟨(l2:List Int),(a2:Int),_⟩,_⟩ g2
 have r1:=g2.lo;have r2:=g2.hi (by omega);have r4:=g2.a0;have r5:=g2.a1
 dsimp only at r1 r2 r4 r5 ⊢
 refine zad (zaj l2 a2 12 (by omega) (by omega) (by omega)) ?_
 rintro ⟨⟨(v:Int),_⟩,⟨(l3:List Int),(a3:Int),_⟩,_⟩ g3
 have s4:=g3.a0;have s5:=g3.a1
 dsimp only at s4 s5 ⊢
 have hiw:inB wi ws.length=true:=zil.2 ⟨q1,q2⟩
 have hip:inB pi ps.length=true:=zil.2 ⟨r1,r2⟩
 have next:∀ m:Int,1<=m->m<=1000->Tot (fun r=>0<=(r.1.1:Int)/\(r.1.1:Int)<m) (F_made_Tape_Next ((l3,a3,()),m,())):=fun m m0 m1=>(zaj l3 a3 m (by omega) (by omega) (by omega)).mono fun r hr=>⟨hr.lo,hr.hi m0⟩
 refine zac (fun _=>?_) fun _=>zae (ziu fun _=>hiw) (zac (fun _=>?_) fun _=>zac (fun _=>?_) fun _=>zac (fun _=>?_) fun _=>zae (ziu fun _=>hip) (zac (fun _=>?_) fun _=>zac (fun _=>?_) fun _=>zac (fun _=>?_) fun _=>zac (fun _=>?_) fun _=>zae ?_ (zac (fun _=>?_) fun _=>zac (fun _=>?_) fun _=>zac (fun _=>?_) fun _=>?_)))
 · refine zad (next 10 (by omega) (by omega)) ?_
   rintro ⟨⟨(u:Int),_⟩,tp,_⟩ ⟨u0,u1⟩
   dsimp only at u0 u1 ⊢
   have hv:∀ x∈[(0:Int),1,5,21,4096,4097,4112,16386,1099511627776,61],0<=x/\x<18446744073709551616:=by
    intro x hx
    simp only [List.mem_cons,List.not_mem_nil,or_false]at hx
    omega
   have hs:=setW wi.toNat _ (hv _ (zav (d:=0) (i:=u.toNat) (by simp only [List.length_cons,List.length_nil];omega)))
   exact zae (zil.2 ⟨u0,by simp only [List.length_cons,List.length_nil];omega⟩) (zae hiw (fin _ _ _ _ _ _ hs.1 (by omega) hs.2))
 · refine zad (next 64 (by omega) (by omega)) ?_
   rintro ⟨⟨(u:Int),_⟩,tp,_⟩ ⟨u0,u1⟩
   dsimp only at u0 u1 ⊢
   have hbx:∀ x y:Int,0<=ziW IntKind.u64 (fun (x1 x2:BitVec IntKind.u64.bits)=>x1 ^^^ x2) x y/\ziW IntKind.u64 (fun (x1 x2:BitVec IntKind.u64.bits)=>x1 ^^^ x2) x y<18446744073709551616:=fun x y=>zuW _
   have hs:=setW wi.toNat _ (hbx (ws.getD wi.toNat 0) (U (1*2 ^ min (U u).toNat IntKind.u64.bits)))
   refine zae ?_ (zae hiw (fin _ _ _ _ _ _ hs.1 (by omega) hs.2))
   have:=zuW u
   simp only [Bool.not_eq_true',decide_eq_false_iff_not];omega
 · refine zad (next 5 (by omega) (by omega)) fun r hr=>zae hip (fin _ _ _ _ _ _ (by omega) (setP _ _) hwb)
 · refine zad (next 3 (by omega) (by omega)) fun r hr=>zae hip (fin _ _ _ _ _ _ (by omega) (setP _ _) hwb)
 · refine zad (next 9 (by omega) (by omega)) fun r hr=>zae hip (fin _ _ _ _ _ _ (by omega) (setP _ _) hwb)
 · refine zad (next 3 (by omega) (by omega)) fun r hr=>zae hip (fin _ _ _ _ _ _ (by omega) (setP _ _) hwb)
 · refine zad (next 3 (by omega) (by omega)) fun r hr=>fin _ _ _ _ _ _ (by omega) (by omega) hwb
 · have w:W ((ps.length:Int)+2)=ps.length+2:=W_id (by omega)
   rw [w]
   refine zad (next ((ps.length:Int)+2) (by omega) (by omega)) fun r hr=>fin _ _ _ _ _ _ (by omega) (by omega) hwb
 · cases (v == 9) <;> cases (v == 10) <;> first | rfl | exact decide_eq_true (by omega)
 · exact fin _ _ _ _ _ _ (by omega) (by omega) hwb
 · exact fin _ _ _ _ _ _ (by omega) (by rw [List.length_take,List.length_drop];omega) hwb
 · refine zad (P:=fun r=>r.2.2.1.length=ps.length) (zak (fun x=>0<=x.1.1/\x.1.1<=(ps.length:Int)/\x.2.2.1.length=ps.length) (fun x=>((ps.length:Int)-x.1.1).toNat) ?_ ?_) ?_
   · exact ⟨by dsimp only;omega,by dsimp only;omega,rfl⟩
   · rintro ⟨⟨(i:Int),_⟩,_,(qs:List PgD),_⟩ ⟨i0,i1,i2⟩
     dsimp only at i0 i1 i2 ⊢
     refine zac (fun h=>?_) fun _=>zab i2
     simp only [decide_eq_true_eq]at h
     have hi:inB i qs.length=true:=zil.2 ⟨i0,h⟩
     have w:W (i+1)=i+1:=W_id (by omega)
     rw [w]
     refine zae hi (zae (ziu fun _=>hi) (zac (fun _=>zab ?_) fun _=>zab ?_))
     · simp only [Sum.elim_inl]
       exact ⟨⟨by omega,by omega,by rw [List.length_set];exact i2⟩,by omega⟩
     · simp only [Sum.elim_inl]
       exact ⟨⟨by omega,by omega,i2⟩,by omega⟩
   · rintro ⟨_,_,(qs:List PgD),_⟩ hq
     dsimp only at hq ⊢
     exact fin _ _ _ _ _ _ (by omega) (by omega) hwb
 · exact fin _ _ _ _ _ _ (by omega) (by omega) hwb
end Go.VI
namespace Go.VI
open Go
theorem need_or {c e:Bool} (h:e=true):(bif c then true else e)=true:=by subst h;cases c <;> rfl
theorem zg0 (h:HpD):F_object_reader (h,())=some (((h,()),()),()):=by
 rw [zfG]
theorem zdf (h:HpD) (hw:HpW h) (a:Int) (ha:0<=a/\a<18446744073709551616):F_object_reader_S1_c (a,h,())=some ((P.zit h.2.1 a,P.zlA h.2.1 a,()),h,()):=by
 rw [zcC];dsimp only
 rw [zpk _ _ hw.wl ha,Option.bind_some]
theorem zvU {h:HpD} (hw:HpW h) (hok:P.okH (toHp h)=true) {a:Int} (hof:P.ofE (toHp h).pw (toHp h).np a=0) :
 (0<=P.ofI (toHp h).pw (toHp h).np a/\P.ofI (toHp h).pw (toHp h).np a<h.2.2.1.length)/\(0<=P.ofK (toHp h).pw (toHp h).np a/\P.ofK (toHp h).pw (toHp h).np a<=64)/\P.zlA h.2.1 a=0/\P.zit h.2.1 a=P.ziE (toHp h) a/\P.ziE (toHp h) a<18446744073709551616:=by
 obtain ⟨q1,⟨i,j,e1,e2,e3,e4,e5⟩,-⟩:=P.zt2 hok hof
 have hlm:(toHp h).pages.length=h.2.2.1.length:=List.length_map ..
 have c:=P.zai (P.zan hok).1
 have hwb:P.WB (toHp h).words:=hw.wb
 obtain ⟨w1,w2,w3⟩:=P.word_of hwb hok hof
 rw [e1,e2]
 exact ⟨by omega,by omega,w2,w1,w3⟩
theorem zqS (h:HpD) (hw:HpW h) (a:Int) (ha:0<=a/\a<18446744073709551616):Tot (fun r=>r.1.2.1=P.atE (toHp h) a/\toHd r.1.1=P.atH (toHp h) a) (F_object_At (h,a,())):=by
 obtain ⟨⟨pw,np,_⟩,ws,ps,sp,bu,_⟩:=h
 rw [zox];dsimp only
 generalize hX:toHp ((pw,np,()),ws,ps,sp,bu,())=X
 have bad:∀ (c:Int),P.atE X a=c/\P.atH X a=P.Hd.zero->Tot (fun r:((Int×Int×Int×Unit)×Int×Unit)×Unit=>r.1.2.1=P.atE X a/\toHd r.1.1=P.atH X a) (some (((0,0,0,()),c,()),())):=fun c he=>zab ⟨he.1.symm,he.2.symm⟩
 refine zad (zbu _ hw) ?_
 rintro ⟨⟨(b:Bool),_⟩,_⟩ hb
 have hb:b=P.okH X:=hX ▸ hb
 subst hb
 refine zac (fun h1=>bad 1 (P.zuM (by simpa using h1))) fun h1=>?_
 simp only [Bool.not_eq_false']at h1
 have xw:X.pw=pw:=hX ▸ rfl
 have xn:X.np=np:=hX ▸ rfl
 have hc:=(P.zan h1).1
 rw [xw,xn]at hc
 rw [zuX pw np a ha,Option.bind_some]
 dsimp only
 refine zac (fun h2=>?_) fun h2=>?_
 · simp only [bne_iff_ne,ne_eq]at h2
   have e2:P.ofE pw np a=2:=by
    cases hq:P.inAr pw np a
    · exact (P.zkz (a:=a) hc hq).2.2
    · exact absurd (P.zlY hc hq).2.2 h2
   rw [e2]
   exact bad 2 (P.zlO h1 (by rw [xw,xn];exact h2))
 simp only [bne_eq_false_iff_eq]at h2
 have hof:P.ofE X.pw X.np a=0:=by rw [xw,xn];exact h2
 have I:=zvU hw (hX ▸ h1) (a:=a) (hX ▸ hof)
 rw [hX,xw,xn]at I
 obtain ⟨hi,ho,l1,l2,hy⟩:=I
 dsimp only at hi l1 l2
 rw [zg0,Option.bind_some]
 dsimp only
 rw [zdf _ hw a ha,Option.bind_some]
 dsimp only
 rw [l1,l2]
 refine zac (fun c=>by simp at c) fun _=>?_
 have hpg:P.zjy X a=toPg (ps.getD (P.ofI pw np a).toNat PG0):=by
  unfold P.zjy
  rw [xw,xn]
  have:X.pages=ps.map toPg:=hX ▸ rfl
  rw [this,zat]
 have hatB:P.atB X a=atBx (P.zjy X a).kind (P.zjy X a).used (P.ofK X.pw X.np a) (P.ziE X a):=rfl
 rw [hpg,xw,xn]at hatB
 have hH:=P.zpa h1 hof
 have hN:=P.zpb h1 hof
 rw [hatB]at hH hN
 generalize P.ziE X a=y at *
 generalize P.ofK pw np a=o at *
 rw [zg2 y hy,Option.bind_some]
 dsimp only
 refine zae (need_or (zil.2 hi)) ?_
 generalize ps.getD (P.ofI pw np a).toNat PG0=G at *
 obtain ⟨gk,gs,gu,gp,_⟩:=G
 have hab:atBx (toPg (gk,gs,gu,gp,())).kind (toPg (gk,gs,gu,gp,())).used o y=atBx gk gu o y:=rfl
 rw [hab]at hH hN
 unfold atBx at hH hN
 refine zac (fun h3=>bad 19 (hN ?_)) fun h3=>?_
 · simp only [Bool.not_eq_true']at h3
   rw [h3];simp
 simp only [Bool.not_eq_false']at h3
 obtain ⟨d1,d2,d3⟩:=P.za8 h3
 obtain ⟨f1,f2,f3⟩:=P.zma h3
 have hmb:(0:Int)<=(P.dM y:Int)/\(P.dM y:Int)<4294967296:=by unfold P.dM;omega
 have vp:=P.zam d3
 rw [f1,f2,f3,zbv _ _ _ hmb,Option.bind_some,P.zjA d3]
 dsimp only
 rw [zns gk gs gu gp o _ (by omega) (by omega),Option.bind_some]
 dsimp only
 refine zac (fun h4=>bad 19 (hN ?_)) fun h4=>zab ?_
 · by_cases k1:gk=1
   · subst k1
     simp only [if_true,Bool.not_eq_true']at h4 ⊢
     rw [h4];simp
   · rw [if_neg k1]at h4 ⊢
     by_cases k2:gk=2
     · subst k2
       simp only [if_true,Bool.not_eq_true']at h4 ⊢
       rw [h4];simp
     · rw [show decide (gk=1\/gk=2)=false from decide_eq_false (by omega)];rfl
 · have:(decide (gk=1\/gk=2)&&decide (o<gu)&&P.okD y&&if gk=1 then decide (o+((P.dN y:Int)+1)<=gu) else decide (o=0/\(P.dN y:Int)+1=gu))=true:=by
    by_cases k1:gk=1
    · subst k1
      simp only [if_true,Bool.not_eq_false',decide_eq_true_eq]at h4
      rw [h3,decide_eq_true (show o<gu by omega),if_pos rfl,decide_eq_true h4];rfl
    · rw [if_neg k1]at h4
      by_cases k2:gk=2
      · subst k2
        simp only [if_true,Bool.not_eq_false',decide_eq_true_eq]at h4
        rw [h3,decide_eq_true (show o<gu by omega),if_neg k1,decide_eq_true h4];rfl
      · rw [if_neg k2]at h4;simp at h4
   obtain ⟨g1,g2⟩:=hH this
   rw [g1,g2]
   exact ⟨rfl,rfl⟩
theorem zpj (h:HpD):F_made_Light (h,())=some ((decide (h.2.1.length<=5000/\h.2.2.1.length<=100),()),()):=by
 rw [zmQ];dsimp only
 rw [cand,Bool.decide_and]
 have e1:decide ((h.2.1.length:Int)<=5000)=decide (h.2.1.length<=5000):=decide_eq_decide.2 (by omega)
 have e2:decide ((h.2.2.1.length:Int)<=100)=decide (h.2.2.1.length<=100):=decide_eq_decide.2 (by omega)
 rw [e1,e2]
end Go.VI
namespace Go.VI
open Go
theorem zvc {x y:PgD} (h:toPg x=toPg y):x=y:=by
 obtain ⟨a,b,c,d,_⟩:=x
 obtain ⟨a',b',c',d',_⟩:=y
 simp only [toPg,P.Pg.mk.injEq]at h
 obtain ⟨rfl,rfl,rfl,rfl⟩:=h
 rfl
theorem zrm {x y:HpD} (h:toHp x=toHp y):x=y:=by
 obtain ⟨⟨a,b,_⟩,c,d,e,f,_⟩:=x
 obtain ⟨⟨a',b',_⟩,c',d',e',f',_⟩:=y
 simp only [toHp,P.Hp.mk.injEq]at h
 obtain ⟨rfl,rfl,rfl,h4,rfl,rfl⟩:=h
 have:d=d':=List.map_inj_right (fun _ _=>zvc) |>.1 h4
 rw [this]
theorem ze6 (l:List Int) (hl:l.length<=100000000):Tot (fun r=>r.1.1=true) (F_r01_Same (l,l,())):=by
 rw [zqd];dsimp only
 refine zac (fun h=>by simp at h) fun _=>?_
 refine zad (P:=fun r=>match r with | .inl _=>False | .inr _=>True) (zak (fun x=>∃ k:Nat,x.1.2.1=(k:Int)/\k<=l.length) (fun x=>((l.length:Int)-x.1.2.1).toNat) ⟨0,rfl,by omega⟩ ?_) fun r hr=>ziA (fun x hx=>?_) fun x hx=>zab rfl
 · rintro ⟨⟨(q:Bool),(i:Int),_⟩,_⟩ ⟨k,e,hk⟩
   dsimp only at e ⊢
   subst e
   refine zac (fun h1=>?_) fun h1=>zab trivial
   simp only [decide_eq_true_eq]at h1
   have hin:inB (k:Int) l.length=true:=zil.2 ⟨by omega,by omega⟩
   refine zae hin (zae hin (zac (fun h=>by simp at h) fun _=>zab ?_))
   rw [W_id (by omega)]
   exact ⟨⟨k+1,by dsimp only;omega,by omega⟩,by dsimp only;omega⟩
 · subst hx;exact hr.elim
theorem zgX (l:List PgD) (hl:l.length<=100000000):Tot (fun r=>r.1.1=true) (F_r04_SamePages (l,l,())):=by
 rw [zfF];dsimp only
 refine zac (fun h=>by simp at h) fun _=>?_
 refine zad (P:=fun r=>match r with | .inl _=>False | .inr _=>True) (zak (fun x=>∃ k:Nat,x.1.2.1=(k:Int)/\k<=l.length) (fun x=>((l.length:Int)-x.1.2.1).toNat) ⟨0,rfl,by omega⟩ ?_) fun r hr=>ziA (fun x hx=>?_) fun x hx=>zab rfl
 · rintro ⟨⟨(q:Bool),(i:Int),_⟩,_⟩ ⟨k,e,hk⟩
   dsimp only at e ⊢
   subst e
   refine zac (fun h1=>?_) fun h1=>zab trivial
   simp only [decide_eq_true_eq]at h1
   have hin:inB (k:Int) l.length=true:=zil.2 ⟨by omega,by omega⟩
   refine zae hin (zae hin (zac (fun h=>by simp at h) fun _=>zab ?_))
   rw [W_id (by omega)]
   exact ⟨⟨k+1,by dsimp only;omega,by omega⟩,by dsimp only;omega⟩
 · subst hx;exact hr.elim
theorem zs0 (h:HpD) (h1:h.2.1.length<=100000000) (h2:h.2.2.1.length<=100000000):Tot (fun r=>r.1.1=true) (F_r04_Same (h,h,())):=by
 obtain ⟨⟨pw,np,_⟩,l,ps,sp,bu,_⟩:=h
 dsimp only at h1 h2
 rw [zp5];dsimp only
 refine zac (fun h=>by simp at h) fun _=>zac (fun h=>by simp at h) fun _=>zac (fun h=>by simp at h) fun _=>zad (zgX ps h2) ?_
 rintro ⟨⟨(b:Bool),_⟩,_⟩ hb
 have hb:b=true:=hb
 subst hb
 refine zac (fun h=>by simp at h) fun _=>?_
 refine zad (P:=fun r=>match r with | .inl _=>False | .inr _=>True) (zak (fun x=>∃ k:Nat,x.1.2.1=(k:Int)/\k<=l.length) (fun x=>((l.length:Int)-x.1.2.1).toNat) ⟨0,rfl,by omega⟩ ?_) fun r hr=>ziA (fun x hx=>?_) fun x hx=>zab rfl
 · rintro ⟨⟨(q:Bool),(i:Int),_⟩,_⟩ ⟨k,e,hk⟩
   dsimp only at e ⊢
   subst e
   refine zac (fun h1=>?_) fun h1=>zab trivial
   simp only [decide_eq_true_eq]at h1
   have hin:inB (k:Int) l.length=true:=zil.2 ⟨by omega,by omega⟩
   refine zae hin (zae hin (zac (fun h=>by simp at h) fun _=>zab ?_))
   rw [W_id (by omega)]
   exact ⟨⟨k+1,by dsimp only;omega,by omega⟩,by dsimp only;omega⟩
 · subst hx;exact hr.elim
theorem zfa (ws:List Int) (hl:ws.length<=100000000):F_arena_duplicate (ws,())=some ((ws,()),()):=by
 rw [zd8];dsimp only
 rw [decide_eq_true (show 0<=(ws.length:Int)/\(ws.length:Int)<=ws.length by omega),Int.toNat_natCast,zag.2 (by omega),List.length_replicate,List.take_length,List.drop_of_length_le (by rw [List.length_replicate];exact Nat.le_refl _),List.append_nil]
 rfl
theorem znv (ws:List Int) (a:Int) (l:List Int) (hl:ws.length<=100000000) (hl2:l.length<=100000000) (ha:0<=a/\a<18446744073709551616):F_arena_Write (ws,a,l,())=some ((P.ziw ws a l,P.zjo ws a l,()),()):=by
 rw [zht];dsimp only
 rw [zdo ws a l.length hl hl2 ha,Option.bind_some,zfa ws hl,Option.bind_some]
 dsimp only
 unfold P.ziw P.zjo
 cases h:P.okA ws.length a l.length
 · rfl
 · have:=P.ziz.1 h
   simp only [if_true]
   obtain ⟨i,hi⟩:∃ i:Nat,a-4096=(i:Int):=⟨(a-4096).toNat,by omega⟩
   rw [hi,Int.toNat_natCast,show ((ws.length:Int)-(i:Int)).toNat=ws.length-i from by omega,decide_eq_true (show 0<=(i:Int)/\(i:Int)<=ws.length/\(ws.length:Int)<=ws.length by omega),List.take_of_length_le (l:=l) (by omega),show min l.length (ws.length-i)=l.length from by omega]
   have:Go.splice ws i l=ws.take i++(l++ws.drop (i+l.length)):=rfl
   rw [this];rfl
theorem zcj (ps:List PgD) (hl:ps.length<=100000000):F_slices_Clone_api_Page (ps,())=some ((ps,()),()):=by
 unfold F_slices_Clone_api_Page zlg
 have:∀ b,b<=1000->ziv (0+ps.length) b=true:=fun b hb=>zag.2 (by
  rw [Nat.zero_add]
  calc ps.length*b<=100000000*1000:=Nat.mul_le_mul hl hb
   _<=_:=by decide)
 show cond (ziv (0+ps.length) _) _ _=_
 rw [this _ (by decide)];rfl
theorem zhC (h:HpD) (hw:HpW h) (a:Int) (l:List Int) (hl:l.length<=100000000) (ha:0<=a/\a<18446744073709551616):F_object_write (h,a,l,())=some (((if P.zjo h.2.1 a l=0 then (h.1,P.ziw h.2.1 a l,h.2.2) else H0),P.zjo h.2.1 a l,()),()):=by
 obtain ⟨⟨pw,np,_⟩,ws,ps,sp,bu,_⟩:=h
 have h1:=hw.wl
 have h2:=hw.pl
 dsimp only at h1 h2
 rw [zgB];dsimp only
 rw [znv ws a l h1 hl ha,Option.bind_some,zcj ps h2,Option.bind_some]
 dsimp only
 by_cases h:P.zjo ws a l=0
 · rw [h];rfl
 · rw [if_neg h,show (P.zjo ws a l != 0)=true from by simpa using h];rfl
end Go.VI
namespace Go.VI
open Go
theorem zlB {o:Option ((Bool×Unit)×Unit)} (h:Tot (fun r=>r.1.1=true) o):o=some ((true,()),()):=by
 obtain ⟨⟨⟨(b:Bool),_⟩,_⟩,rfl,e⟩:=h
 have e:b=true:=e
 rw [e]
abbrev LX:=(Bool×Int×Unit)×Unit×Unit
abbrev LY:=(Bool×Unit)×Unit×Unit⊕(Bool×Unit)×Unit×Unit
theorem zb9 {n:Nat} {q0:Bool} {g:LX->Option (LX⊕LY)} (hn:n<=1000000000) (h:∀ (q:Bool) (k:Nat),k<n->Tot (fun r=>∃ q',r = .inl ((q',(k:Int)+1,()),(),())) (g ((q,(k:Int),()),(),()))) :
 Tot (fun (r:LY)=>∃ y,r = .inr y) (rl LX LY (fun x=>bif decide (x.1.2.1<(n:Int)) then bif inB x.1.2.1 n then g x else none else some (Sum.inr (Sum.inr ((x.1.1,()),(),())))) ((q0,0,()),(),())):=by
 refine zak (fun x=>∃ k:Nat,x.1.2.1=(k:Int)/\k<=n) (fun x=>((n:Int)-x.1.2.1).toNat) ⟨0,rfl,by omega⟩ ?_
 rintro ⟨⟨(q:Bool),(i:Int),_⟩,_⟩ ⟨k,e,hk⟩
 dsimp only at e ⊢
 subst e
 refine zac (fun h1=>?_) fun h1=>zab ⟨_,rfl⟩
 simp only [decide_eq_true_eq]at h1
 refine zae (zil.2 ⟨by omega,by omega⟩) ((h q k (by omega)).mono ?_)
 rintro _ ⟨q',rfl⟩
 exact ⟨⟨k+1,by dsimp only;omega,by omega⟩,by dsimp only;omega⟩
end Go.VI
namespace Go.VI
open Go
theorem wf_u {n:Int} (h:(Lit.int .u64 n).wf=true):0<=n/\n<18446744073709551616:=by
 simp only [Lit.wf,Bool.and_eq_true,decide_eq_true_eq]at h
 have e1:IntKind.u64.min=0:=rfl
 have e2:IntKind.u64.max=18446744073709551615:=rfl
 omega
theorem wf_i {n:Int} (h:(Lit.int .i64 n).wf=true) : -9223372036854775808<=n/\n<9223372036854775808:=by
 simp only [Lit.wf,Bool.and_eq_true,decide_eq_true_eq]at h
 have e1:IntKind.i64.min = -9223372036854775808:=rfl
 have e2:IntKind.i64.max=9223372036854775807:=rfl
 omega
end Go.VI
namespace Go.VI.P
open Go
open Go.RowKit
theorem zgJ {ps:List Pg} {k:Nat} (h0:¬(ps.getD k Pg.zero).kind=3):∀ (d:Nat),(∀ t,k<t->t<=k+d->(ps.getD t Pg.zero).kind=3)->zi2 ps (k+d)=k
 | 0,_=>by
  cases k with
  | zero=>rfl
  | succ j=>rw [Nat.add_zero,zi2,if_neg h0]
 | d+1,hd=>by
  rw [show k+(d+1)=(k+d)+1 from rfl,zi2,if_pos (hd (k+d+1) (by omega) (by omega))]
  exact zgJ h0 d fun t h1 h2=>hd t h1 (by omega)
end Go.VI.P
namespace Go.VI.P
open Go
open Go.RowKit
def Tile (sz:Int->Int):Int->Int->List Int->Prop
 | a,b,[]=>a=b
 | a,b,q::r=>q=a/\1<=sz q/\Tile sz (a+sz q) b r
theorem znO {sz:Int->Int}:∀ {l:List Int} {a b c:Int},Tile sz a b l->1<=sz b->c=b+sz b->Tile sz a c (l++[b])
 | [],a,b,c,h,h1,e=>by
  have:a=b:=h
  subst this
  exact ⟨rfl,h1,e.symm⟩
 | q::r,a,b,c,h,h1,e=>⟨h.1,h.2.1,znO h.2.2 h1 e⟩
theorem zb1 {sz sz':Int->Int}:∀ {l:List Int} {a b:Int},(∀ q∈l,sz' q=sz q)->Tile sz a b l->Tile sz' a b l
 | [],a,b,_,h=>h
 | q::r,a,b,he,h=>by
  have e:=he q (List.mem_cons_self ..)
  refine ⟨h.1,by rw [e];exact h.2.1,?_⟩
  rw [e];exact zb1 (fun c hc=>he c (List.mem_cons_of_mem _ hc)) h.2.2
end Go.VI.P
namespace Go.VI.P
open Go
open Go.RowKit
theorem zdO {h:Hp} {x:Int} (h0:4096<=x):ziE h x=(zit h.words x).toNat:=by
 unfold ziE zit
 by_cases c:okA h.words.length x 1=true
 · rw [if_pos c]
 · rw [if_neg c]
   have:¬(x-4096).toNat<h.words.length:=fun q=>c (ziz.2 (by omega))
   rw [List.getD_eq_getElem?_getD,List.getElem?_eq_none (by omega)];rfl
theorem ptr_lt {k n m i:Int} (h:ptrB k n m i=true):zir k n m=true/\0<=i/\i<n:=by
 unfold ptrB at h
 simp only [Bool.and_eq_true,decide_eq_true_eq]at h
 exact ⟨h.1.1.1,h.1.1.2,h.1.2⟩
end Go.VI.P
namespace Go.VI.P
open Go
open Go.RowKit
def bs (h:Hp) (k:Nat):Int:=4096+(k:Int)*h.pw
def Fw (os qs:List Int) (v w:Int):Prop:=(v=0/\w=0)\/∃ t:Nat,os[t]?=some v/\qs[t]?=some w
theorem Fw.more {os qs os' qs':List Int} {v w:Int} (h:Fw os qs v w) (h1:∃ l,os'=os++l) (h2:∃ l,qs'=qs++l):Fw os' qs' v w:=by
 rcases h with e | ⟨t,e1,e2⟩
 · exact .inl e
 · obtain ⟨l1,rfl⟩:=h1
   obtain ⟨l2,rfl⟩:=h2
   have t1:=(List.getElem?_eq_some_iff.1 e1).1
   have t2:=(List.getElem?_eq_some_iff.1 e2).1
   exact .inr ⟨t,by rw [List.getElem?_append_left t1];exact e1,by rw [List.getElem?_append_left t2];exact e2⟩
structure CI (h:Hp) (x:Wk) (os:List Int) (D:Nat->Int->Prop):Prop where
 inv:Inv h x
 len:os.length=x.queue.length
 dl:∀ i j,D i j->i<os.length
 oin:∀ o∈os,o∈zij h
 qnd:x.queue.Nodup
 seen:∀ a∈zij h,a∈os↔(a∈x.queue\/okT (evWd x a).toNat=true)
 plc:∀ (i:Nat) (o q:Int),os[i]?=some o->x.queue[i]?=some q->q=o\/(okT (evWd x o).toNat=true/\tgtV (evWd x o).toNat=q/\ziS x q/\∀ i' j' g',Begins h o i' j' g'->g'.kind=1)
 hd:∀ (i:Nat) (o q:Int),os[i]?=some o->x.queue[i]?=some q->evWd x q=zit h.words o
 fl:∀ (i:Nat) (o q:Int),os[i]?=some o->x.queue[i]?=some q->∀ j,0<=j->j<(atH h o).n->(D i j->ptrB (atH h o).k (atH h o).n (atH h o).m j=true->Fw os x.queue (zit h.words (o+1+j)) (zit x.h.words (q+1+j)))/\((D i j->ptrB (atH h o).k (atH h o).n (atH h o).m j=false)->zit x.h.words (q+1+j)=zit h.words (o+1+j))
 un:∀ a∈zij h,¬a∈os->∀ j,0<=j->j<osz h a->zit x.h.words (a+j)=zit h.words (a+j)
 ot:∀ p,(∀ a∈zij h,p<a\/a+osz h a<=p)->(∀ (k:Nat) (g0:Pg),h.pages[k]?=some g0->g0.kind=0->p<bs h k\/bs h k+h.pw<=p)->zit x.h.words p=zit h.words p
 fr:∀ (k:Nat) (g0:Pg) (p:Int),h.pages[k]?=some g0->g0.kind=0->bs h k<=p->p<bs h k+h.pw->(¬(k:Int)∈x.taken\/∃ g,x.h.pages[k]?=some g/\bs h k+g.used<=p)->zit x.h.words p=0
 tile:∀ k:Nat,(k:Int)∈x.taken->∃ u l,x.h.pages[k]?=some ⟨1,1-h.space,u,0⟩/\Tile (evN x) (bs h k) (bs h k+u) l/\∀ q,q∈l↔q∈x.queue/\bs h k<=q/\q<bs h k+h.pw
 ppg:∀ (k:Nat) (g0:Pg),h.pages[k]?=some g0->¬(k:Int)∈x.taken->∃ s,x.h.pages[k]?=some ⟨g0.kind,s,g0.used,g0.pins⟩/\(g0.kind=0->s=g0.space)/\(g0.kind=1->s=if 0<g0.pins then 1-h.space else h.space) /\
  (g0.kind=2->s=if bs h k∈x.queue then 1-h.space else h.space)/\(g0.kind=3->s=if bs h (zi2 h.pages k)∈x.queue then 1-h.space else h.space)
 kp:∀ q∈x.queue,q∈zij h->∀ i j g,Begins h q i j g->g.kind=2\/(g.kind=1/\0<g.pins)
 wb:WB x.h.words
theorem CI.congr {h:Hp} {x:Wk} {os:List Int} {D E:Nat->Int->Prop} (C:CI h x os D) (el:∀ i j,E i j->i<os.length) (he:∀ (i:Nat) (o:Int),os[i]?=some o->∀ j,ptrB (atH h o).k (atH h o).n (atH h o).m j=true->(D i j↔E i j)):CI h x os E :=
 ⟨C.inv,C.len,el,C.oin,C.qnd,C.seen,C.plc,C.hd,fun i o q h1 h2 j j0 j1=>by
  obtain ⟨f1,f2⟩:=C.fl i o q h1 h2 j j0 j1
  refine ⟨fun e p=>f1 ((he i o h1 j p).2 e) p,fun e=>f2 fun d=>?_⟩
  cases hp:ptrB (atH h o).k (atH h o).n (atH h o).m j
  · rfl
  · have:=e ((he i o h1 j hp).1 d)
    rw [hp]at this;exact this,C.un,C.ot,C.fr,C.tile,C.ppg,C.kp,C.wb⟩
theorem zc0 {os:List Int} {a o:Int} {i:Nat} (h:(os++[a])[i]?=some o):os[i]?=some o\/(i=os.length/\o=a):=by
 by_cases c:i<os.length
 · rw [List.getElem?_append_left c]at h;exact .inl h
 · have hl:=(List.getElem?_eq_some_iff.1 h).1
   rw [List.length_append,List.length_singleton]at hl
   have e:i=os.length:=by omega
   subst e
   rw [List.getElem?_append_right (Nat.le_refl _),Nat.sub_self]at h
   simp only [List.getElem?_cons_zero,Option.some.injEq]at h
   exact .inr ⟨rfl,h.symm⟩
theorem zgI (ps:List Pg):∀ k:Nat,(∀ t,zi2 ps k<t->t<=k->(ps.getD t Pg.zero).kind=3)/\(zi2 ps k=0\/¬(ps.getD (zi2 ps k) Pg.zero).kind=3)
 | 0=>⟨fun t h1 h2=>by unfold zi2 at h1;omega,.inl rfl⟩
 | k+1=>by
  obtain ⟨ih1,ih2⟩:=zgI ps k
  unfold zi2
  by_cases c:(ps.getD (k+1) Pg.zero).kind=3
  · rw [if_pos c]
    refine ⟨fun t h1 h2=>?_,ih2⟩
    by_cases e:t=k+1
    · rw [e];exact c
    · exact ih1 t h1 (by omega)
  · rw [if_neg c]
    exact ⟨fun t h1 h2=>by omega,.inr c⟩
theorem zsJ {h:Hp} (hp:0<=h.pw) {k k':Nat} (hk:k<k'):bs h k+h.pw<=bs h k':=by
 unfold bs
 have:((k:Int)+1)*h.pw<=(k':Int)*h.pw:=Int.mul_le_mul_of_nonneg_right (by omega) hp
 rw [Int.add_mul,Int.one_mul]at this
 omega
theorem zla {h:Hp} (hp:0<=h.pw) {k k':Nat} {p:Int} (h1:bs h k<=p) (h2:p<bs h k+h.pw) (h3:bs h k'<=p) (h4:p<bs h k'+h.pw):k=k':=by
 refine Decidable.by_contra fun c=>?_
 by_cases hlt:k<k'
 · have:=zsJ hp hlt;omega
 · have:=zsJ (h:=h) hp (show k'<k by omega);omega
theorem zwm {h:Hp} {a:Int} {i j:Nat} {g:Pg} (b:Begins h a i j g):bs h i<=a/\a<bs h i+h.pw:=by
 have:=b.ad
 have:=b.jl
 unfold bs
 omega
theorem CI.kept {h:Hp} {x y:Wk} {os:List Int} {D:Nat->Int->Prop} (C:CI h x os D) {a:Int} (ha:a∈zij h) (hq:¬a∈x.queue) (ht:okT (evWd x a).toNat=false)
 (Iy:Inv h y) (ew:y.h.words=x.h.words) (eq:y.queue=x.queue++[a]) (et:y.taken=x.taken) (ep:y.h.pw=x.h.pw) (htk:∀ k:Nat,(k:Int)∈x.taken->y.h.pages[k]?=x.h.pages[k]?)
 (hpp:∀ (k:Nat) (g0:Pg),h.pages[k]?=some g0->¬(k:Int)∈x.taken->∃ s,y.h.pages[k]?=some ⟨g0.kind,s,g0.used,g0.pins⟩/\(g0.kind=0->s=g0.space)/\(g0.kind=1->s=if 0<g0.pins then 1-h.space else h.space) /\
  (g0.kind=2->s=if bs h k∈y.queue then 1-h.space else h.space)/\(g0.kind=3->s=if bs h (zi2 h.pages k)∈y.queue then 1-h.space else h.space))
 (hkp:∀ i j g,Begins h a i j g->g.kind=2\/(g.kind=1/\0<g.pins)):CI h y (os++[a]) D:=by
 have I:=C.inv
 have hcf:=I.conf
 have hev:∀ b,evWd y b=evWd x b:=fun b=>by unfold evWd;rw [ew]
 have hevN:∀ b,evN y b=evN x b:=fun b=>by unfold evN;rw [hev]
 have hao:¬a∈os:=fun c=>by
  rcases (C.seen a ha).1 c with e | e
  · exact hq e
  · rw [ht]at e;cases e
 have hcp:∀ q,ziS x q->ziS y q:=fun q ⟨k,g,c1,c2,c3,c4,c5⟩=>⟨k,g,by rw [et];exact c1,by rw [htk k c1];exact c2,by rw [ep];exact c3,by rw [hev];exact c4,by rw [hevN,ep];exact c5⟩
 have e0:evWd x a=zit h.words a:=by
  rcases I.un a ha with e | e
  · exact e
  · rw [ht]at e;exact absurd e.1 (by decide)
 obtain ⟨ia,ja,ga,ba⟩:=zah ha
 have hon:=zwm ba
 have hlen:(os++[a]).length=y.queue.length:=by rw [eq,List.length_append,List.length_append,C.len]
 have hqg:∀ (i:Nat) (o q:Int),(os++[a])[i]?=some o->y.queue[i]?=some q->(os[i]?=some o/\x.queue[i]?=some q)\/(i=os.length/\o=a/\q=a):=fun i o q h1 h2=>by
  rw [eq]at h2
  rcases zc0 h1 with e | ⟨e1,e2⟩
  · rcases zc0 h2 with e' | ⟨e1',-⟩
    · exact .inl ⟨e,e'⟩
    · have:=(List.getElem?_eq_some_iff.1 e).1
      rw [C.len]at this;omega
  · rcases zc0 h2 with e' | ⟨-,e2'⟩
    · have:=(List.getElem?_eq_some_iff.1 e').1
      rw [<-C.len]at this;omega
    · exact .inr ⟨e1,e2,e2'⟩
 refine ⟨Iy,hlen,fun i j d=>by rw [List.length_append];have:=C.dl i j d;omega,fun o ho=>?_,?_,fun c hc=>?_,fun i o q h1 h2=>?_,fun i o q h1 h2=>?_,fun i o q h1 h2 j j0 j1=>?_,fun c hc hn j j0 j1=>?_,fun p h1 h2=>by rw [ew];exact C.ot p h1 h2,fun k g0 p hg hk h1 h2 h3=>?_,fun k hk=>?_,fun k g0 hg hk=>hpp k g0 hg (by rw [<-et];exact hk),fun q hq2 hqo=>?_,by rw [ew];exact C.wb⟩
 · rcases List.mem_append.1 ho with e | e
   · exact C.oin o e
   · rw [List.mem_singleton.1 e];exact ha
 · rw [eq]
   exact List.nodup_append.2 ⟨C.qnd,by simp,fun u hu v hv=>by rw [List.mem_singleton.1 hv];exact fun e=>hq (e ▸ hu)⟩
 · rw [hev,eq,List.mem_append,List.mem_append,C.seen c hc]
   simp only [List.mem_singleton]
   constructor
   · rintro ((e | e) | e)
     · exact .inl (.inl e)
     · exact .inr e
     · exact .inl (.inr e)
   · rintro ((e | e) | e)
     · exact .inl (.inl e)
     · exact .inr e
     · exact .inl (.inr e)
 · rcases hqg i o q h1 h2 with ⟨e1,e2⟩ | ⟨-,e1,e2⟩
   · rcases C.plc i o q e1 e2 with e | ⟨e3,e4,e5,e6⟩
     · exact .inl e
     · exact .inr ⟨by rw [hev];exact e3,by rw [hev];exact e4,hcp q e5,e6⟩
   · left;rw [e1,e2]
 · rw [hev]
   rcases hqg i o q h1 h2 with ⟨e1,e2⟩ | ⟨-,e1,e2⟩
   · exact C.hd i o q e1 e2
   · rw [e1,e2];exact e0
 · rw [ew]
   rcases hqg i o q h1 h2 with ⟨e1,e2⟩ | ⟨ei,e1,e2⟩
   · obtain ⟨f1,f2⟩:=C.fl i o q e1 e2 j j0 j1
     exact ⟨fun d p=>(f1 d p).more ⟨_,rfl⟩ ⟨_,eq⟩,f2⟩
   · subst e1 e2
     refine ⟨fun d=>by have:=C.dl i j d;omega,fun _=>?_⟩
     have:=C.un q ha hao (j+1) (by omega) (by unfold osz;omega)
     rwa [show q+(j+1)=q+1+j from by omega]at this
 · rw [ew]
   exact C.un c hc (fun e=>hn (List.mem_append_left _ e)) j j0 j1
 · rw [ew]
   refine C.fr k g0 p hg hk h1 h2 ?_
   rw [et]at h3
   by_cases c:(k:Int)∈x.taken
   · rcases h3 with e | e
     · exact .inl e
     · rw [htk k c]at e;exact .inr e
   · exact .inl c
 · rw [et]at hk
   obtain ⟨u,l,t1,t2,t3⟩:=C.tile k hk
   obtain ⟨k2,g0,g2,f1,f2,f3,-⟩:=I.tk _ hk
   obtain rfl:k=k2:=by omega
   refine ⟨u,l,by rw [htk k hk];exact t1,zb1 (fun q _=>hevN q) t2,fun q=>?_⟩
   rw [t3,eq,List.mem_append,List.mem_singleton]
   constructor
   · rintro ⟨q1,q2⟩;exact ⟨.inl q1,q2⟩
   · rintro ⟨q1 | q1,q2,q3⟩
     · exact ⟨q1,q2,q3⟩
     · subst q1
       exfalso
       have:=zla (by omega) q2 q3 hon.1 hon.2
       subst this
       have:=ba.pg
       rw [f2]at this
       injection this with this
       subst this
       rcases ba.kd with ⟨q,-⟩ | ⟨q,-⟩ <;> omega
 · rw [eq]at hq2
   rcases List.mem_append.1 hq2 with e | e
   · exact C.kp q e hqo
   · rw [List.mem_singleton.1 e];exact hkp
end Go.VI.P
namespace Go.VI.P
open Go
open Go.RowKit
theorem znP {h:Hp} (hok:okH h=true) {k:Nat} {g:Pg} (hg:h.pages[k]?=some g) (hk:g.kind=3):∃ l y,l<k/\zi2 h.pages k=l/\h.pages[l]?=some y/\y.kind=2:=by
 obtain ⟨p1,p2,p3,p4,p5,p6,p7⟩:=zan hok
 have hT:ziY h.pw h.np h.pages=true:=by rw [<-zfn];exact p7
 have ho:=zaJ.1 hT k g hg
 unfold zi9 at ho
 rw [if_neg (by omega),if_neg (by omega),if_neg (by omega),if_pos hk]at ho
 unfold zkh at ho
 simp only [Bool.and_eq_true]at ho
 have ho:=ho.2
 unfold zkK at ho
 obtain ⟨l,l1,l2,l3,l4⟩:=(zbl h.pw h.np h.pages k 1).1 ho
 have hkl:=(List.getElem?_eq_some_iff.1 hg).1
 have hl:h.pages[l]?=some h.pages[l]:=List.getElem?_eq_getElem (by omega)
 rw [zin hl]at l2 l4
 generalize h.pages[l]=y at hl l2 l4
 obtain ⟨t1,t2,t3⟩:=zdB p7 hl l2
 refine ⟨l,y,l1,?_,hl,l2⟩
 obtain ⟨d,rfl⟩:∃ d,k=l+d:=⟨k-l,by omega⟩
 refine zgJ (by rw [zin hl];omega) d fun t q1 q2=>?_
 obtain ⟨z,z1,z2,-⟩:=t3 t q1 (by omega)
 rw [zin z1];exact z2
theorem zfm {α:Type} {P:α->Bool}:∀ (l:List α) (n:Nat),n<=l.length->(∀ t y,t<n->l[t]?=some y->P y=true)->n<=(l.takeWhile P).length
 | l,0,_,_=>Nat.zero_le _
 | [],n+1,h,_=>by simp at h
 | y::r,n+1,h,hp=>by
  rw [List.takeWhile_cons,hp 0 y (by omega) rfl]
  simp only [if_true,List.length_cons]
  have:=zfm r n (by simpa using h) fun t z ht hz=>hp (t+1) z (by omega) (by simpa using hz)
  omega
theorem CI.keep1 {h:Hp} {x:Wk} {os:List Int} {D:Nat->Int->Prop} (C:CI h x os D) {a:Int} (ha:a∈zij h) (hq:¬a∈x.queue) (ht:okT (evWd x a).toNat=false) (hpr:zj9 x (evI x a)=true):CI h (zjS x a) (os++[a]) D:=by
 have I:=C.inv
 have hcf:=I.conf
 obtain ⟨i,j,g,b⟩:=zah ha
 have hoi:evI x a=i:=by unfold evI;rw [I.pw,I.np];exact b.oi
 obtain ⟨s,s1,s2,s3,s4,s5⟩:=C.ppg i g b.pg (I.begun b)
 rw [hoi]at hpr
 unfold zj9 at hpr
 rw [Int.toNat_natCast,s1]at hpr
 simp only [Bool.and_eq_true,decide_eq_true_eq,Bool.not_eq_true',decide_eq_false_iff_not]at hpr
 obtain ⟨-,⟨k1,k2⟩,-⟩:=hpr
 rw [I.sp]at k2
 have hpins:0<g.pins:=Decidable.by_contra fun c=>k2 (by rw [s3 k1,if_neg c])
 have hon:=zwm b
 have hnb:∀ (k:Nat) (y:Pg),h.pages[k]?=some y->y.kind=2->bs h k≠a:=fun k y hy hk e=>by
  have:=zla (h:=h) (by omega) (k:=k) (k':=i) (p:=a) (by omega) (by omega) hon.1 hon.2
  subst this
  have:=b.pg
  rw [hy]at this
  injection this with this
  subst this
  omega
 refine C.kept ha hq ht (I.keep ha hq ht).1 rfl rfl rfl rfl (fun _ _=>rfl) (fun k g0 hg hk=>?_) fun i' j' g' b'=>?_
 · obtain ⟨s',q1,q2,q3,q4,q5⟩:=C.ppg k g0 hg hk
   refine ⟨s',q1,q2,q3,fun k2=>?_,fun k3=>?_⟩
   · rw [q4 k2]
     have:bs h k∈(zjS x a).queue↔bs h k∈x.queue:=by
      show bs h k∈x.queue++[a]↔_
      rw [List.mem_append,List.mem_singleton]
      exact ⟨fun c=>c.elim id fun e=>absurd e (hnb k g0 hg k2),.inl⟩
     simp only [this]
   · rw [q5 k3]
     obtain ⟨l,y,-,l2,l3,l4⟩:=znP I.ok hg k3
     rw [l2]
     have:bs h l∈(zjS x a).queue↔bs h l∈x.queue:=by
      show bs h l∈x.queue++[a]↔_
      rw [List.mem_append,List.mem_singleton]
      exact ⟨fun c=>c.elim id fun e=>absurd e (hnb l y l3 l4),.inl⟩
     simp only [this]
 · have:i'=i:=by have h1:=b.oi;have h2:=b'.oi;omega
   subst this
   have:g'=g:=by have h1:=b.pg;have h2:=b'.pg;rw [h1]at h2;injection h2 with h2;exact h2.symm
   subst this
   exact .inr ⟨k1,hpins⟩
theorem CI.keep2 {h:Hp} {x:Wk} {os:List Int} {D:Nat->Int->Prop} (C:CI h x os D) {a:Int} (ha:a∈zij h) (hq:¬a∈x.queue) (ht:okT (evWd x a).toNat=false) (hbig:zkP x a=true):CI h (zjS (zjl x (evI x a).toNat) a) (os++[a]) D:=by
 have I:=C.inv
 have hcf:=I.conf
 obtain ⟨i,j,g,b⟩:=zah ha
 have hoi:evI x a=i:=by unfold evI;rw [I.pw,I.np];exact b.oi
 obtain ⟨s,s1,s2,s3,s4,s5⟩:=C.ppg i g b.pg (I.begun b)
 unfold zkP at hbig
 rw [hoi,Int.toNat_natCast,zin s1]at hbig
 have k2:g.kind=2:=of_decide_eq_true hbig
 have haj:a=bs h i:=by
  rcases b.kd with ⟨k,-⟩ | ⟨-,k,-⟩
  · omega
  · have:=b.ad;unfold bs;omega
 rw [hoi,Int.toNat_natCast]
 obtain ⟨I2,L2,e1,e2⟩:=I.large s1 (by exact k2)
 have hbs:∀ k:Nat,bs h k=a->k=i:=fun k e=>by
  have:(k:Int)*h.pw=(i:Int)*h.pw:=by unfold bs at e haj;omega
  have h0:h.pw≠0:=by omega
  have:=Int.eq_of_mul_eq_mul_right h0 this
  omega
 have htk3:∀ k:Nat,(k:Int)∈x.taken->∃ y,x.h.pages[k]?=some y/\y.kind=1:=fun k hk=>by
  obtain ⟨u,l,t1,-⟩:=C.tile k hk
  exact ⟨_,t1,rfl⟩
 have hrange:∀ (k:Nat) (g0:Pg),h.pages[k]?=some g0->¬(k:Int)∈x.taken->((i<=k/\k<zjh x.h.pages i)↔(k=i\/(g0.kind=3/\zi2 h.pages k=i))):=fun k g0 hg hk=>by
  have hkl:=(List.getElem?_eq_some_iff.1 hg).1
  constructor
  · rintro ⟨r1,r2⟩
    by_cases e:k=i
    · exact .inl e
    · right
      have hall:∀ t,i<t->t<=k->(h.pages.getD t Pg.zero).kind=3:=fun t t1 t2=>by
       unfold zjh at r2
       obtain ⟨z,z1,z2⟩:=zbK (l:=x.h.pages.drop (i+1)) (k:=t-(i+1)) (P:=fun y=>decide (y.kind=3)) (by omega)
       rw [List.getElem?_drop,show i+1+(t-(i+1))=t from by omega]at z1
       have z2:z.kind=3:=of_decide_eq_true z2
       have hnt:¬(t:Int)∈x.taken:=fun c=>by
        obtain ⟨y,y1,y2⟩:=htk3 t c
        rw [z1]at y1;injection y1 with y1;subst y1;omega
       have ht0:h.pages[t]?=some h.pages[t]:=List.getElem?_eq_getElem (by omega)
       obtain ⟨y,y1,y2,y3⟩:=I.pg t _ ht0 hnt
       rw [z1]at y1;injection y1 with y1;subst y1
       rw [zin ht0];omega
      obtain ⟨d,rfl⟩:∃ d,k=i+d:=⟨k-i,by omega⟩
      refine ⟨?_,zgJ (by rw [zin b.pg];omega) d hall⟩
      have:=hall (i+d) (by omega) (Nat.le_refl _)
      rwa [zin hg]at this
  · rintro (e | ⟨e1,e2⟩)
    · subst e
      exact ⟨Nat.le_refl _,by unfold zjh;omega⟩
    · have hle:=zoQ h.pages k
      have hne:k≠i:=fun c=>by subst c;have:=b.pg;rw [hg]at this;injection this with this;subst this;omega
      obtain ⟨hs1,-⟩:=zgI h.pages k
      rw [e2]at hs1
      refine ⟨by omega,?_⟩
      unfold zjh
      have hpl:=I.pl
      have:=zfm (P:=fun y:Pg=>decide (y.kind=3)) (x.h.pages.drop (i+1)) (k-i) (by rw [List.length_drop];omega) fun t y ht1 hy=>by
       rw [List.getElem?_drop]at hy
       have h3:=hs1 (i+1+t) (by omega) (by omega)
       have ht0:h.pages[i+1+t]?=some h.pages[i+1+t]:=List.getElem?_eq_getElem (by omega)
       rw [zin ht0]at h3
       have hnt:¬((i+1+t:Nat):Int)∈x.taken:=fun c=>by
        obtain ⟨k3,g0',g',f0,f1,f2,-⟩:=I.tk _ c
        obtain rfl:i+1+t=k3:=by omega
        rw [ht0]at f1;injection f1 with f1;rw [f1]at h3;omega
       obtain ⟨y',y1,y2,y3⟩:=I.pg _ _ ht0 hnt
       rw [hy]at y1;injection y1 with y1;subst y1
       exact decide_eq_true (by omega)
      omega
 have hpage:∀ (k:Nat) (y:Pg),x.h.pages[k]?=some y->(zjS (zjl x i) a).h.pages[k]?=some (if i<=k/\k<zjh x.h.pages i then ⟨y.kind,1-x.h.space,y.used,y.pins⟩ else y):=fun k y hy=>zkY hy
 refine C.kept ha hq ht (I2.keep ha (by rw [e2];exact hq) (by rw [e1];exact ht)).1 rfl rfl rfl rfl (fun k hk=>?_) (fun k g0 hg hk=>?_) fun i' j' g' b'=>?_
 · obtain ⟨y,y1,y2⟩:=htk3 k hk
   rw [hpage k y y1,y1]
   rw [if_neg]
   rintro ⟨r1,r2⟩
   unfold zjh at r2
   by_cases e:k=i
   · subst e;rw [s1]at y1;injection y1 with y1;subst y1;simp only at y2;omega
   · obtain ⟨z,z1,z2⟩:=zbK (l:=x.h.pages.drop (i+1)) (k:=k-(i+1)) (P:=fun y=>decide (y.kind=3)) (by omega)
     rw [List.getElem?_drop,show i+1+(k-(i+1))=k from by omega,y1]at z1
     injection z1 with z1
     subst z1
     have:=of_decide_eq_true z2
     omega
 · obtain ⟨s',q1,q2,q3,q4,q5⟩:=C.ppg k g0 hg hk
   have hm:∀ c,c∈(zjS (zjl x i) a).queue↔c∈x.queue\/c=a:=fun c=>by
    show c∈x.queue++[a]↔_
    rw [List.mem_append,List.mem_singleton]
   have hr:=hrange k g0 hg hk
   rw [hpage k _ q1,I.sp]
   by_cases c:i<=k/\k<zjh x.h.pages i
   · rw [if_pos c]
     refine ⟨1-h.space,rfl,fun k0=>?_,fun k1=>?_,fun kk2=>?_,fun k3=>?_⟩
     · rcases hr.1 c with e | ⟨e,-⟩
       · subst e;have:=b.pg;rw [hg]at this;injection this with this;subst this;omega
       · omega
     · rcases hr.1 c with e | ⟨e,-⟩
       · subst e;have:=b.pg;rw [hg]at this;injection this with this;subst this;omega
       · omega
     · rcases hr.1 c with e | ⟨e,-⟩
       · subst e;rw [if_pos ((hm _).2 (.inr haj.symm))]
       · omega
     · rcases hr.1 c with e | ⟨-,e⟩
       · subst e;have:=b.pg;rw [hg]at this;injection this with this;subst this;omega
       · rw [e,if_pos ((hm _).2 (.inr haj.symm))]
   · rw [if_neg c]
     have hc:=fun d=>c (hr.2 d)
     refine ⟨s',rfl,q2,q3,fun kk2=>?_,fun k3=>?_⟩
     · rw [q4 kk2]
       have:bs h k∈(zjS (zjl x i) a).queue↔bs h k∈x.queue:=by
        rw [hm]
        exact ⟨fun d=>d.elim id fun e=>absurd (.inl (hbs k e)) hc,.inl⟩
       simp only [this]
     · rw [q5 k3]
       have:bs h (zi2 h.pages k)∈(zjS (zjl x i) a).queue↔bs h (zi2 h.pages k)∈x.queue:=by
        rw [hm]
        exact ⟨fun d=>d.elim id fun e=>absurd (.inr ⟨k3,hbs _ e⟩) hc,.inl⟩
       simp only [this]
 · have:i'=i:=by have h1:=b.oi;have h2:=b'.oi;omega
   subst this
   have:g'=g:=by have h1:=b.pg;have h2:=b'.pg;rw [h1]at h2;injection h2 with h2;exact h2.symm
   subst this
   exact .inl k2
theorem zsF {h:Hp} {x:Wk} {os:List Int} {D:Nat->Int->Prop} (C:CI h x os D) {a:Int} (ha:a∈zij h) (ht:okT (evWd x a).toNat=false) (hbig:zkP x a=false) (hpl:plB x (evN x a)=true) :
 ∃ (J:Nat) (u:Int) (g0:Pg),plA x (evN x a)=bs h J+u/\evN x a=osz h a/\0<=u/\u+osz h a<=h.pw/\(J:Int)<h.np/\h.pages[J]?=some g0/\g0.kind=0 /\
  (∀ k:Nat,k≠J->(ziV x a).h.pages[k]?=x.h.pages[k]?)/\(ziV x a).h.pages[J]?=some ⟨1,1-h.space,u+osz h a,0⟩/\(∀ t,t∈(ziV x a).taken↔t∈x.taken\/t=J) /\
  ((J:Int)∈x.taken->x.h.pages[J]?=some ⟨1,1-h.space,u,0⟩)/\(¬(J:Int)∈x.taken->u=0)/\(ziV x a).queue=x.queue++[bs h J+u] /\
  (∀ p,p≠a->(p<bs h J+u\/bs h J+u+osz h a<=p)->zit (ziV x a).h.words p=zit x.h.words p) /\
  (∀ j,0<=j->j<osz h a->zit (ziV x a).h.words (bs h J+u+j)=zit x.h.words (a+j))/\zit (ziV x a).h.words a=fwdV (bs h J+u)/\(a+osz h a<=bs h J\/bs h J+h.pw<=a)/\∀ i' j' g',Begins h a i' j' g'->g'.kind=1:=by
 have I:=C.inv
 obtain ⟨c1,c2,c3,c4,c5,c6,c7,c8,c9⟩:=I.conf
 obtain ⟨i,j,g,b⟩:=zah ha
 have hbp:=b.pos
 have hbw:=b.wl
 have hwl:=I.wl
 have e0:evWd x a=zit h.words a:=(I.un a ha).elim id (fun c=>by rw [ht]at c;exact absurd c.1 (by decide))
 obtain ⟨e1,e2,e3,-⟩:=zld ha e0
 have hoi:evI x a=i:=by unfold evI;rw [I.pw,I.np];exact b.oi
 obtain ⟨y,f1,f2,f3⟩:=I.pg i g b.pg (I.begun b)
 have hk1:g.kind=1:=by
  rcases b.kd with ⟨k,-⟩ | ⟨k,-⟩
  · exact k
  · unfold zkP at hbig
    rw [hoi,Int.toNat_natCast,zin f1]at hbig
    have:=of_decide_eq_false hbig
    omega
 have hn:osz h a<=h.pw:=by
  rcases b.kd with ⟨k,l,m⟩ | ⟨k,-⟩ <;> omega
 rw [e2]at hpl ⊢
 obtain ⟨J,y0,p1,p2,p3,p4,p5,p6,p7⟩:=zc3 I.plok hpl
 have hplen:=I.pl
 rw [I.pw]at p6 p7
 have eP:(ziV x a).h.pages=(plPs x (osz h a)).set J ⟨y0.kind,y0.space,y0.used+osz h a,y0.pins⟩:=by
  show (plW x (evN x a)).h.pages=_
  rw [e2]
  show zkJ (plPs x (osz h a)) (plJ x (osz h a)).toNat (osz h a)=_
  unfold zkJ;rw [p1,Int.toNat_natCast,zin p4]
 have eT:(ziV x a).taken=plT x (osz h a):=by show (plW x (evN x a)).taken=_;rw [e2];rfl
 have eA:plA x (osz h a)=bs h J+y0.used:=by
  unfold plA bs;rw [p1,Int.toNat_natCast,zin p4,I.pw]
 have eQ:(ziV x a).queue=x.queue++[bs h J+y0.used]:=by show x.queue++[plA x (evN x a)]=_;rw [e2,eA]
 have hJlt:(J:Int)<h.np:=by omega
 obtain ⟨g0,hg0,hk0,hsame,hJpage,htk,hin,hout⟩:∃ g0,h.pages[J]?=some g0/\g0.kind=0/\(∀ k:Nat,k≠J->(plPs x (osz h a))[k]?=x.h.pages[k]?)/\(y0.kind=1/\y0.space=1-h.space/\y0.pins=0)/\(∀ t,t∈plT x (osz h a)↔t∈x.taken\/t=J) /\
  ((J:Int)∈x.taken->x.h.pages[J]?=some ⟨1,1-h.space,y0.used,0⟩)/\(¬(J:Int)∈x.taken->y0.used=0)/\y0.used+osz h a<=h.pw:=by
  rcases p7 with ⟨r1,r2,r3,r4⟩ | ⟨r1,r2,r3,r4,z,r5,r6⟩
  · have hm:(J:Int)∈x.taken:=List.mem_of_getLast? r3
    obtain ⟨k2,g0,g',f0,f1',f2',-⟩:=I.tk _ hm
    obtain rfl:J=k2:=by omega
    obtain ⟨u,l,t1,-⟩:=C.tile _ hm
    rw [r2]at p4
    rw [t1]at p4
    injection p4 with p4
    subst p4
    refine ⟨g0,f1',f2',fun k _=>by rw [r2],⟨rfl,rfl,rfl⟩,fun t=>?_,fun _=>t1,fun c=>absurd hm c,r4⟩
    unfold plT;rw [if_pos r1]
    constructor
    · exact .inl
    · rintro (q | q)
      · exact q
      · rw [q];exact hm
  · have hnt:¬(J:Int)∈x.taken:=fun hm=>by
     obtain ⟨u,l,t1,-⟩:=C.tile _ hm
     rw [r5]at t1;injection t1 with t1;subst t1;cases r6
    have hlt:J<h.pages.length:=by omega
    have hh:h.pages[J]?=some h.pages[J]:=List.getElem?_eq_getElem hlt
    obtain ⟨g',q1,q2,q3⟩:=I.pg J _ hh hnt
    rw [r5]at q1;injection q1 with q1;subst q1
    subst r4
    refine ⟨_,hh,by omega,fun k hk=>by rw [r3,List.getElem?_set_ne (by omega)],⟨rfl,by rw [<-I.sp],rfl⟩,fun t=>?_,fun hm=>absurd hm hnt,fun _=>rfl,by show 0+osz h a<=h.pw;omega⟩
    unfold plT;rw [r1,r2]
    simp
 obtain ⟨hout,hfit⟩:=hout
 have hpp:=zaw (p:=(J:Int)) (zan I.ok).1 (by omega) hJlt
 have hfree:=zaq b hg0 hk0
 have hbsJ:bs h J=4096+(J:Int)*h.pw:=rfl
 have ka:okA x.h.words.length (bs h J+y0.used) (osz h a).toNat=true:=ziz.2 (by omega)
 have kb:okA x.h.words.length a (osz h a).toNat=true:=ziz.2 (by omega)
 have kc:okA (zkd x.h.words (bs h J+y0.used) a (osz h a)).length a [fwdV (bs h J+y0.used)].length=true:=by rw [zmV (by omega) ka kb];exact ziz.2 (by simp only [List.length_singleton];omega)
 have hW:(ziV x a).h.words=ziw (zkd x.h.words (bs h J+y0.used) a (osz h a)) a [fwdV (bs h J+y0.used)]:=by
  show zlK x a=_
  unfold zlK;rw [e2,eA]
 refine ⟨J,y0.used,g0,eA,rfl,p5,hfit,hJlt,hg0,hk0,fun k hk=>?_,?_,fun t=>by rw [eT];exact htk t,hin,hout,eQ,fun p q1 q2=>?_,fun t t0 t1=>?_,?_,by rw [hbsJ];exact hfree,fun i' j' g' b'=>?_⟩
 · rw [eP,List.getElem?_set_ne (by omega)];exact hsame k hk
 · rw [eP,List.getElem?_set_self (by omega),hJpage.1,hJpage.2.1,hJpage.2.2]
 · rw [hW,zaH kc (by simp only [List.length_singleton];omega)]
   exact zeb (by omega) ka kb (by omega)
 · rw [hW,zaH kc (by simp only [List.length_singleton];omega)]
   exact zfq (by omega) ka kb t0 t1
 · rw [hW];exact zce kc
 · have e1:i'=i:=by have h1:=b.oi;have h2:=b'.oi;omega
   subst e1
   have h1:=b.pg
   have h2:=b'.pg
   rw [h1]at h2;injection h2 with h2
   rw [<-h2];exact hk1
end Go.VI.P
namespace Go.VI.P
open Go
open Go.RowKit
theorem CI.copied {h:Hp} {x:Wk} {os:List Int} {D:Nat->Int->Prop} (C:CI h x os D) {a:Int} (ha:a∈zij h) (hq:¬a∈x.queue) (ht:okT (evWd x a).toNat=false) (hpr:zj9 x (evI x a)=false) (hbig:zkP x a=false) (hpl:plB x (evN x a)=true) :
 CI h (ziV x a) (os++[a]) D/\(ziV x a).queue=x.queue++[plA x (evN x a)]:=by
 have I:=C.inv
 obtain ⟨c1,c2,c3,c4,c5,c6,c7,c8,c9⟩:=I.conf
 obtain ⟨J,u,g0,eA,eN,u0,u1,hJ,hg0,hk0,hoth,hJp,htk,hin,hnin,eQ,wout,win,wself,hfr,hk1⟩:=zsF C ha ht hbig hpl
 rw [eA]
 obtain ⟨T,hT⟩:∃ T,bs h J+u=T:=⟨_,rfl⟩
 rw [hT]at eQ wout win wself ⊢
 obtain ⟨N,hN⟩:∃ N,osz h a=N:=⟨_,rfl⟩
 rw [hN]at u1 hJp wout win hfr
 obtain ⟨ia,ja,ga,ba⟩:=zah ha
 have hbp:=ba.pos
 rw [hN]at hbp
 have Iy:=(I.copied ha hq ht hpr hbig hpl).1
 obtain ⟨y,hy⟩:∃ y,ziV x a=y:=⟨_,rfl⟩
 have hpw:(ziV x a).h.pw=h.pw:=I.pw
 rw [hy]at Iy eQ wout win wself hoth hJp htk hpw ⊢
 have hxpw:=I.pw
 have hev:∀ p,p≠a->(p<T\/T+N<=p)->evWd y p=evWd x p:=fun p h1 h2=>wout p h1 h2
 have hobjw:∀ c∈zij h,c≠a->∀ j,0<=j->j<osz h c->zit y.h.words (c+j)=zit x.h.words (c+j):=fun c hc hne j j0 j1=>by
  obtain ⟨i3,j3,g3,b3⟩:=zah hc
  have h1:=zaq b3 hg0 hk0
  have h2:=zbs hc ha hne
  have h3:=b3.pos
  unfold bs at hT
  exact wout _ (by omega) (by omega)
 have hobj:∀ c∈zij h,c≠a->evWd y c=evWd x c:=fun c hc hne=>by
  obtain ⟨i3,j3,g3,b3⟩:=zah hc
  have:=hobjw c hc hne 0 (by omega) (by have:=b3.pos;omega)
  rw [Int.add_zero]at this
  exact this
 have hcop:∀ q,ziS x q->∃ (k:Nat) (g:Pg),(k:Int)∈x.taken/\x.h.pages[k]?=some g/\bs h k<=q/\okD (evWd x q).toNat=true/\1<=evN x q/\q+evN x q<=bs h k+g.used/\g.used<=h.pw/\(q+evN x q<=T\/T+N<=q)/\(a<bs h k\/bs h k+h.pw<=a):=fun q hc=>by
  obtain ⟨k,g,d1,d2,d3,d4,d5⟩:=hc
  rw [hxpw]at d3 d5
  obtain ⟨k3,y0,y3,l0,l1,l2,l3,l4,l5,l6⟩:=I.tk _ d1
  obtain rfl:k=k3:=by omega
  rw [d2]at l3
  injection l3 with l3
  subst l3
  have hev1:=(zlI d4).1
  have ha1:=zaq ba l1 l2
  refine ⟨k,g,d1,d2,d3,d4,by omega,d5,l6,?_,by unfold bs;omega⟩
  by_cases hkJ:k=J
  · subst hkJ
    have:=hin d1
    rw [d2]at this
    injection this with this
    left
    have hgu:g.used=u:=by rw [this]
    unfold bs at hT;omega
  · by_cases hlt:k<J
    · have:=zsJ (h:=h) (by omega) hlt
      left;unfold bs at hT this;omega
    · have:=zsJ (h:=h) (by omega) (show J<k by omega)
      right;unfold bs at hT this;omega
 have hcopw:∀ q,ziS x q->∀ j,0<=j->j<evN x q->zit y.h.words (q+j)=zit x.h.words (q+j):=fun q hc j j0 j1=>by
  obtain ⟨k,g,d1,d2,d3,d4,d5,d6,d7,d8,d9⟩:=hcop q hc
  exact wout _ (by omega) (by omega)
 have hcopev:∀ q,ziS x q->evWd y q=evWd x q:=fun q hc=>by
  obtain ⟨k,g,d1,d2,d3,d4,d5,d6,d7,d8,d9⟩:=hcop q hc
  have:=hcopw q hc 0 (by omega) (by omega)
  rw [Int.add_zero]at this
  exact this
 have hcc:∀ q,ziS x q->ziS y q:=fun q hc=>by
  have e1:=hcopev q hc
  have e2:evN y q=evN x q:=by unfold evN;rw [e1]
  obtain ⟨k,g,d1,d2,d3,d4,d5,d6,d7,d8,d9⟩:=hcop q hc
  by_cases hkJ:k=J
  · subst hkJ
    have h3:=hin d1
    rw [d2]at h3
    injection h3 with h3
    have hgu:g.used=u:=by rw [h3]
    exact ⟨k,_,(htk _).2 (.inl d1),hJp,by rw [hpw];exact d3,by rw [e1];exact d4,by rw [e2,hpw];show q+evN x q<=4096+(k:Int)*h.pw+(u+N);unfold bs at d6;omega⟩
  · exact ⟨k,g,(htk _).2 (.inl d1),by rw [hoth k hkJ];exact d2,by rw [hpw];exact d3,by rw [e1];exact d4,by rw [e2,hpw];exact d6⟩
 have hqev:∀ q∈x.queue,evWd y q=evWd x q:=fun q h1=>by
  rcases I.qs q h1 with h2 | h2
  · exact hobj q h2 (fun e=>hq (by rw [<-e];exact h1))
  · exact hcopev q h2
 have hnotobj:∀ c∈zij h,c≠T:=fun c hc e=>by
  obtain ⟨i3,j3,g3,b3⟩:=zah hc
  have h1:=zaq b3 hg0 hk0
  have h3:=b3.pos
  unfold bs at hT
  omega
 have hTq:¬T∈x.queue:=fun h1=>by
  rcases I.qs T h1 with h2 | h2
  · exact hnotobj T h2 rfl
  · obtain ⟨k,g,d1,d2,d3,d4,d5,d6,d7,d8,d9⟩:=hcop T h2
    omega
 have hao:¬a∈os:=fun c=>by
  rcases (C.seen a ha).1 c with e | e
  · exact hq e
  · rw [ht]at e;cases e
 have e0:evWd x a=zit h.words a:=by
  rcases I.un a ha with e | e
  · exact e
  · rw [ht]at e;exact absurd e.1 (by decide)
 have eT:evWd y T=evWd x a:=by
  have:=win 0 (by omega) (by omega)
  rw [Int.add_zero,Int.add_zero]at this
  exact this
 have eTN:evN y T=N:=by
  unfold evN;rw [eT]
  obtain ⟨e1,e2,-⟩:=zld ha e0
  unfold evN at e2
  rw [e2,hN]
 have hbJ:4096<=bs h J/\bs h J+h.pw<=4096+h.np*h.pw:=by
  have hpp:=zaw (p:=(J:Int)) (zan I.ok).1 (by omega) hJ
  unfold bs;omega
 have hokT:okT (evWd y a).toNat=true/\tgtV (evWd y a).toNat=T:=by
  have:evWd y a=fwdV T:=wself
  rw [this]
  have h1:=zmC (a:=T) (by omega) (by omega)
  refine ⟨h1,?_⟩
  rw [zwg h1,(zwp (a:=T) (by omega)).1];omega
 have hcT:ziS y T:=by
  refine ⟨J,_,(htk _).2 (.inr rfl),hJp,by rw [hpw];unfold bs at hT;omega,?_,?_⟩
  · rw [eT];exact (zld ha e0).1
  · rw [eTN,hpw];show T+N<=4096+(J:Int)*h.pw+(u+N);unfold bs at hT;omega
 have hqg:∀ (i:Nat) (o q:Int),(os++[a])[i]?=some o->y.queue[i]?=some q->(os[i]?=some o/\x.queue[i]?=some q)\/(i=os.length/\o=a/\q=T):=fun i o q h1 h2=>by
  rw [eQ]at h2
  rcases zc0 h1 with e | ⟨e1,e2⟩
  · rcases zc0 h2 with e' | ⟨e1',-⟩
    · exact .inl ⟨e,e'⟩
    · have:=(List.getElem?_eq_some_iff.1 e).1
      rw [C.len]at this;omega
  · rcases zc0 h2 with e' | ⟨-,e2'⟩
    · have:=(List.getElem?_eq_some_iff.1 e').1
      rw [<-C.len]at this;omega
    · exact .inr ⟨e1,e2,e2'⟩
 have hoa:∀ (i:Nat) (o:Int),os[i]?=some o->o≠a:=fun i o h1 e=>hao (by rw [<-e];exact List.mem_of_getElem? h1)
 refine ⟨⟨Iy,by rw [eQ,List.length_append,List.length_append,C.len];rfl,fun i j d=>by rw [List.length_append];have:=C.dl i j d;omega,fun o ho=>?_,?_,fun c hc=>?_,fun i o q h1 h2=>?_,fun i o q h1 h2=>?_,fun i o q h1 h2 j j0 j1=>?_,fun c hc hn j j0 j1=>?_,fun p h1 h2=>?_,fun k g5 p hg hk h1 h2 h3=>?_,fun k hk=>?_,fun k g5 hg hk=>?_,fun q hq2 hqo=>?_,by rw [<-hy];exact zwv I.plok hpl C.wb⟩,eQ⟩
 · rcases List.mem_append.1 ho with e | e
   · exact C.oin o e
   · rw [List.mem_singleton.1 e];exact ha
 · rw [eQ]
   exact List.nodup_append.2 ⟨C.qnd,by simp,fun w hw v hv=>by rw [List.mem_singleton.1 hv];exact fun e=>hTq (e ▸ hw)⟩
 · rw [eQ,List.mem_append,List.mem_append,List.mem_singleton,List.mem_singleton]
   by_cases e:c=a
   · subst e
     exact ⟨fun _=>.inr hokT.1,fun _=>.inr rfl⟩
   · rw [hobj c hc e,C.seen c hc]
     have:=hnotobj c hc
     constructor
     · rintro ((q | q) | q)
       · exact .inl (.inl q)
       · exact .inr q
       · exact absurd q e
     · rintro ((q | q) | q)
       · exact .inl (.inl q)
       · exact absurd q this
       · exact .inl (.inr q)
 · rcases hqg i o q h1 h2 with ⟨e1,e2⟩ | ⟨-,e1,e2⟩
   · rcases C.plc i o q e1 e2 with e | ⟨e3,e4,e5,e6⟩
     · exact .inl e
     · have:=hobj o (C.oin o (List.mem_of_getElem? e1)) (hoa i o e1)
       exact .inr ⟨by rw [this];exact e3,by rw [this];exact e4,hcc q e5,e6⟩
   · right
     rw [e1,e2];exact ⟨hokT.1,hokT.2,hcT,hk1⟩
 · rcases hqg i o q h1 h2 with ⟨e1,e2⟩ | ⟨-,e1,e2⟩
   · rw [hqev q (List.mem_of_getElem? e2)];exact C.hd i o q e1 e2
   · rw [e1,e2,eT];exact e0
 · rcases hqg i o q h1 h2 with ⟨e1,e2⟩ | ⟨ei,e1,e2⟩
   · have hqm:=List.mem_of_getElem? e2
     have hwe:zit y.h.words (q+1+j)=zit x.h.words (q+1+j):=by
      have hhd:=C.hd i o q e1 e2
      have hob:=C.oin o (List.mem_of_getElem? e1)
      rcases I.qs q hqm with h5 | h5
      · have hne:q≠a:=fun e=>hq (by rw [<-e];exact hqm)
        have hsz:j+1<osz h q:=by
         obtain ⟨i3,j3,g3,b3⟩:=zah h5
         obtain ⟨i4,j4,g4,b4⟩:=zah hob
         have k1:=b3.sz
         have k2:=b4.sz
         have hk:=I.kept h5 hqm
         rw [hk]at hhd
         have:ziE h q=ziE h o:=by rw [zdO b3.pos.2,zdO b4.pos.2,hhd]
         rw [this]at k1
         unfold osz at k2
         omega
        have:=hobjw q h5 hne (j+1) (by omega) hsz
        rwa [show q+(j+1)=q+1+j from by omega]at this
      · have hsz:j+1<evN x q:=by
         obtain ⟨k,g,d1,d2,d3,d4,d5,d6,d7,d8,d9⟩:=hcop q h5
         have k1:=(zlI d4).1
         obtain ⟨i4,j4,g4,b4⟩:=zah hob
         have k2:=b4.sz
         rw [hhd,<-zdO b4.pos.2]at k1
         unfold osz at k2
         omega
        have:=hcopw q h5 (j+1) (by omega) hsz
        rwa [show q+(j+1)=q+1+j from by omega]at this
     rw [hwe]
     obtain ⟨f1,f2⟩:=C.fl i o q e1 e2 j j0 j1
     exact ⟨fun d p=>(f1 d p).more ⟨_,rfl⟩ ⟨_,eQ⟩,f2⟩
   · subst e1 e2
     refine ⟨fun d=>by have:=C.dl i j d;omega,fun _=>?_⟩
     have hs:j+1<N:=by rw [<-hN];unfold osz;omega
     have h5:=win (j+1) (by omega) hs
     have h6:=C.un o ha hao (j+1) (by omega) (by rw [hN];exact hs)
     rw [show q+1+j=q+(j+1) from by omega,h5,h6,show o+(j+1)=o+1+j from by omega]
 · have hne:c≠a:=fun e=>hn (by rw [e];exact List.mem_append_right _ (List.mem_singleton.2 rfl))
   rw [hobjw c hc hne j j0 j1]
   exact C.un c hc (fun e=>hn (List.mem_append_left _ e)) j j0 j1
 · have hpa:=h1 a ha
   have hpj:=h2 J g0 hg0 hk0
   rw [wout p (by omega) (by omega)]
   exact C.ot p h1 h2
 · have hpa:=zaq ba hg hk
   by_cases e:k=J
   · subst e
     have h3':bs h k+(u+N)<=p:=by
      rcases h3 with q | ⟨g6,q1,q2⟩
      · exact absurd ((htk _).2 (.inr rfl)) q
      · rw [hJp]at q1;injection q1 with q1;subst q1;exact q2
     rw [wout p (by unfold bs at h1 h2;omega) (by omega)]
     refine C.fr k g5 p hg hk h1 h2 ?_
     by_cases c:(k:Int)∈x.taken
     · exact .inr ⟨_,hin c,by show bs h k+u<=p;omega⟩
     · exact .inl c
   · have hdisj:p<bs h J\/bs h J+h.pw<=p:=by
      by_cases hlt:k<J
      · have:=zsJ (h:=h) (by omega) hlt;omega
      · have:=zsJ (h:=h) (by omega) (show J<k by omega);omega
     rw [wout p (by unfold bs at h1 h2;omega) (by omega)]
     refine C.fr k g5 p hg hk h1 h2 ?_
     rcases h3 with q | q
     · exact .inl fun c=>q ((htk _).2 (.inl c))
     · rw [hoth k e]at q;exact .inr q
 · by_cases e:k=J
   · subst e
     by_cases c:(k:Int)∈x.taken
     · obtain ⟨u',l,t1,t2,t3⟩:=C.tile k c
       have hu:u'=u:=by have:=hin c;rw [t1]at this;injection this with this;injection this
       subst hu
       rw [hT]at t2
       have hlq:∀ q∈l,evN y q=evN x q:=fun q hql=>by unfold evN;rw [hqev q ((t3 q).1 hql).1]
       refine ⟨u'+N,l++[T],hJp,?_,fun q=>?_⟩
       · refine znO (zb1 hlq t2) (by rw [eTN];omega) (by rw [eTN];omega)
       · rw [List.mem_append,List.mem_singleton,t3,eQ,List.mem_append,List.mem_singleton]
         constructor
         · rintro (⟨q1,q2⟩ | q1)
           · exact ⟨.inl q1,q2⟩
           · rw [q1];exact ⟨.inr rfl,by omega,by omega⟩
         · rintro ⟨q1 | q1,q2⟩
           · exact .inl ⟨q1,q2⟩
           · exact .inr q1
     · have hu:=hnin c
       subst hu
       refine ⟨0+N,[T],hJp,⟨by omega,by rw [eTN];omega,by show _=_;rw [eTN];omega⟩,fun q=>?_⟩
       rw [List.mem_singleton,eQ,List.mem_append,List.mem_singleton]
       constructor
       · intro q1;rw [q1];exact ⟨.inr rfl,by omega,by omega⟩
       · rintro ⟨q1 | q1,q2,q3⟩
         · exfalso
           rcases I.qs q q1 with h5 | h5
           · obtain ⟨i3,j3,g3,b3⟩:=zah h5
             have:=zaq b3 hg0 hk0
             have:=b3.pos
             unfold bs at q2 q3
             omega
           · obtain ⟨k3,g3,d1,d2,d3,d4,d5,d6,d7,d8,d9⟩:=hcop q h5
             have:=zla (h:=h) (by omega) q2 q3 d3 (by omega)
             subst this
             exact c d1
         · exact q1
   · have hk':(k:Int)∈x.taken:=by
      rcases (htk _).1 hk with q | q
      · exact q
      · exact absurd (by omega) e
     obtain ⟨u',l,t1,t2,t3⟩:=C.tile k hk'
     have hlq:∀ q∈l,evN y q=evN x q:=fun q hql=>by unfold evN;rw [hqev q ((t3 q).1 hql).1]
     refine ⟨u',l,by rw [hoth k e];exact t1,zb1 hlq t2,fun q=>?_⟩
     rw [t3,eQ,List.mem_append,List.mem_singleton]
     constructor
     · rintro ⟨q1,q2⟩;exact ⟨.inl q1,q2⟩
     · rintro ⟨q1 | q1,q2,q3⟩
       · exact ⟨q1,q2,q3⟩
       · exfalso
         exact e (zla (h:=h) (by omega) q2 q3 (by omega) (by omega))
 · have hk':¬(k:Int)∈x.taken:=fun c=>hk ((htk _).2 (.inl c))
   have e:k≠J:=fun c=>hk ((htk _).2 (.inr (by rw [c])))
   obtain ⟨s',q1,q2,q3,q4,q5⟩:=C.ppg k g5 hg hk'
   have hnb:∀ (l:Nat) (z:Pg),h.pages[l]?=some z->z.kind=2->(bs h l∈y.queue↔bs h l∈x.queue):=fun l z hz hzk=>by
    rw [eQ,List.mem_append,List.mem_singleton]
    refine ⟨fun c=>c.elim id fun c=>?_,.inl⟩
    exfalso
    have:l=J:=zla (h:=h) (p:=T) (by omega) (by omega) (by omega) (by omega) (by omega)
    subst this
    rw [hg0]at hz;injection hz with hz;subst hz;omega
   refine ⟨s',by rw [hoth k e];exact q1,q2,q3,fun kk2=>?_,fun k3=>?_⟩
   · rw [q4 kk2];simp only [hnb k g5 hg kk2]
   · rw [q5 k3]
     obtain ⟨l,z,-,l2,l3,l4⟩:=znP I.ok hg k3
     rw [l2];simp only [hnb l z l3 l4]
 · rw [eQ]at hq2
   rcases List.mem_append.1 hq2 with e | e
   · exact C.kp q e hqo
   · exact absurd (List.mem_singleton.1 e) (hnotobj q hqo)
theorem CI.forward {h:Hp} {x:Wk} {os:List Int} {D:Nat->Int->Prop} (C:CI h x os D) {v:Int} (hv:v=0\/v∈zij h) (he:evE x v=0) :
 ∃ os',CI h (evW x v) os' D/\(∃ l,os'=os++l)/\(∃ l,(evW x v).queue=x.queue++l)/\Fw os' (evW x v).queue v (evA x v):=by
 have I:=C.inv
 unfold evE at he
 unfold evW evA
 by_cases h0:v=0\/v∈x.queue
 · have hc:evC x v=0:=by unfold evC;rw [if_pos h0]
   rw [hc]
   refine ⟨os,C,⟨[],by simp⟩,⟨[],by simp⟩,?_⟩
   by_cases hz:v=0
   · exact .inl ⟨hz,hz⟩
   have hob:=hv.resolve_left hz
   have hin:=h0.resolve_left hz
   obtain ⟨t,ht,e⟩:=List.mem_iff_getElem.1 hin
   have hlen:=C.len
   have ho:os[t]?=some os[t]:=List.getElem?_eq_getElem (by omega)
   have hq:x.queue[t]?=some v:=by rw [List.getElem?_eq_getElem ht,e]
   rcases C.plc t _ v ho hq with q | ⟨-,-,q,-⟩
   · exact .inr ⟨t,by rw [ho,<-q],hq⟩
   · exfalso
     obtain ⟨k,g0,d1,d2,d3,d4,d5,d6,d7⟩:=I.copy q
     obtain ⟨i3,j3,g3,b3⟩:=zah hob
     have h1:=zaq b3 d1 d2
     have h3:=b3.pos
     omega
 have hz:¬v=0:=fun c=>h0 (.inl c)
 have hq:¬v∈x.queue:=fun c=>h0 (.inr c)
 have ho2:=hv.resolve_left hz
 have ho:v∈x.old:=by rw [I.old];exact ho2
 by_cases ht:okT (evWd x v).toNat=true
 · have hc:evC x v=2:=by unfold evC;rw [if_neg h0,if_neg (by simpa using ho),if_pos ht]
   rw [hc]
   refine ⟨os,C,⟨[],by simp⟩,⟨[],by simp⟩,.inr ?_⟩
   have hin:=(C.seen v ho2).2 (.inr ht)
   obtain ⟨t,htl,e⟩:=List.mem_iff_getElem.1 hin
   have hlen:=C.len
   have hos:os[t]?=some v:=by rw [List.getElem?_eq_getElem htl,e]
   have hqq:x.queue[t]?=some x.queue[t]:=List.getElem?_eq_getElem (by omega)
   rcases C.plc t v _ hos hqq with q | ⟨-,q,-⟩
   · exact absurd (by rw [<-q];exact List.getElem_mem _) hq
   · exact ⟨t,hos,by show x.queue[t]?=some (tgtV (evWd x v).toNat);rw [hqq,<-q]⟩
 replace ht:okT (evWd x v).toNat=false:=by simpa using ht
 have hnew:∀ w,Fw (os++[v]) (x.queue++[w]) v w:=fun w=>.inr ⟨os.length,by rw [List.getElem?_append_right (Nat.le_refl _),Nat.sub_self];rfl,by rw [C.len,List.getElem?_append_right (Nat.le_refl _),Nat.sub_self];rfl⟩
 by_cases h3:¬ofE x.h.pw x.h.np v=0\/(x.h.pages.length:Int)<=evI x v
 · have hc:evC x v=3:=by unfold evC;rw [if_neg h0,if_neg (by simpa using ho),if_neg (by simp [ht]),if_pos h3]
   rw [hc]at he;exact absurd he (by decide)
 cases hpr:zj9 x (evI x v) with
 | true=>
  have hc:evC x v=4:=by unfold evC;rw [if_neg h0,if_neg (by simpa using ho),if_neg (by simp [ht]),if_neg h3,if_pos hpr]
  rw [hc]
  exact ⟨os++[v],C.keep1 ho2 hq ht hpr,⟨[v],rfl⟩,⟨[v],rfl⟩,hnew v⟩
 | false=>
  cases hbig:zkP x v with
  | true=>
   have hc:evC x v=5:=by unfold evC;rw [if_neg h0,if_neg (by simpa using ho),if_neg (by simp [ht]),if_neg h3,if_neg (by simp [hpr]),if_pos hbig]
   rw [hc]
   exact ⟨os++[v],C.keep2 ho2 hq ht hbig,⟨[v],rfl⟩,⟨[v],rfl⟩,hnew v⟩
  | false=>
   cases hpp:plB x (evN x v) with
   | true=>
    have hc:evC x v=7:=by unfold evC;rw [if_neg h0,if_neg (by simpa using ho),if_neg (by simp [ht]),if_neg h3,if_neg (by simp [hpr]),if_neg (by simp [hbig]),if_pos hpp]
    rw [hc]
    obtain ⟨r1,r2⟩:=C.copied ho2 hq ht hpr hbig hpp
    refine ⟨os++[v],r1,⟨[v],rfl⟩,⟨[plA x (evN x v)],r2⟩,?_⟩
    show Fw (os++[v]) (ziV x v).queue v (plA x (evN x v))
    rw [r2];exact hnew _
   | false=>
    have hc:evC x v=6:=by unfold evC;rw [if_neg h0,if_neg (by simpa using ho),if_neg (by simp [ht]),if_neg h3,if_neg (by simp [hpr]),if_neg (by simp [hbig]),if_neg (by simp [hpp])]
    rw [hc]at he;exact absurd he (by decide)
end Go.VI.P
namespace Go.VI.P
open Go
open Go.RowKit
theorem zt7 {l:List Int} (h:l.Nodup) {i j:Nat} {q:Int} (h1:l[i]?=some q) (h2:l[j]?=some q):i=j:=by
 obtain ⟨k1,e1⟩:=List.getElem?_eq_some_iff.1 h1
 obtain ⟨k2,e2⟩:=List.getElem?_eq_some_iff.1 h2
 refine Decidable.by_contra fun c=>?_
 have hp:=List.pairwise_iff_getElem.1 h
 by_cases hlt:i<j
 · exact hp i j k1 k2 hlt (e1.trans e2.symm)
 · exact hp j i k2 k1 (by omega) (e2.trans e1.symm)
theorem CI.size {h:Hp} {x:Wk} {os:List Int} {D:Nat->Int->Prop} (C:CI h x os D) {i:Nat} {o q:Int} (h1:os[i]?=some o) (h2:x.queue[i]?=some q):evN x q=osz h o/\evH x q=atH h o/\okD (evWd x q).toNat=true/\(evWd x q).toNat=ziE h o:=by
 have ho:=C.oin o (List.mem_of_getElem? h1)
 obtain ⟨i3,j3,g3,b⟩:=zah ho
 have hw:(evWd x q).toNat=ziE h o:=by rw [C.hd i o q h1 h2,zdO b.pos.2]
 have hd:okD (evWd x q).toNat=true:=by rw [hw];exact b.od
 obtain ⟨d1,d2,d3⟩:=zma hd
 refine ⟨?_,?_,hd,hw⟩
 · rw [(zlI hd).1,hw,b.sz]
 · rw [b.hd]
   unfold evH hdOf
   rw [d1,d2,d3,hw]
theorem CI.nd {h:Hp} {x:Wk} {os:List Int} {D:Nat->Int->Prop} (C:CI h x os D) {i j:Nat} {q:Int} (h1:x.queue[i]?=some q) (h2:x.queue[j]?=some q):i=j:=zt7 C.qnd h1 h2
theorem CI.apart {h:Hp} {x:Wk} {os:List Int} {D:Nat->Int->Prop} (C:CI h x os D) {q r:Int} (hq:q∈x.queue) (hr:r∈x.queue) (hne:q≠r):q+evN x q<=r\/r+evN x r<=q:=by
 have I:=C.inv
 have hob:∀ c∈x.queue,c∈zij h->evN x c=osz h c:=fun c hc ho=>(zld ho (I.kept ho hc)).2.1
 rcases I.qs q hq with a | a <;> rcases I.qs r hr with b | b
 · rw [hob q hq a,hob r hr b];exact zbs a b hne
 · rw [hob q hq a];exact I.old_copy a b
 · rw [hob r hr b];exact (I.old_copy b a).symm
 · exact I.dj q hq r hr a b hne
theorem CI.write {h:Hp} {x:Wk} {os:List Int} {D:Nat->Int->Prop} (C:CI h x os D) {s:Nat} {o A i w:Int} (hs:os[s]?=some o) (hA:x.queue[s]?=some A) (hp:ptrB (atH h o).k (atH h o).n (atH h o).m i=true)
 (hw:Fw os x.queue (zit h.words (o+1+i)) w):CI h { x with h:={ x.h with words:=ziw x.h.words (A+1+i) [w] } } os (fun t j=>D t j\/(t=s/\j=i)):=by
 have I:=C.inv
 have hcf:=I.conf
 obtain ⟨z1,z2,z3,z4⟩:=C.size hs hA
 have hAm:=List.mem_of_getElem? hA
 obtain ⟨-,i0,i1⟩:=ptr_lt hp
 obtain ⟨n1,n2,n3⟩:=I.inside hAm i0 (by rw [z2];exact i1)
 have Iy:=(I.write n1 n2 n3 (v:=w)).1
 have hin:A+1+i<A+evN x A:=by rw [z1];unfold osz;omega
 have hwb:0<=w/\w<18446744073709551616:=by
  rcases hw with ⟨-,e⟩ | ⟨t,-,e⟩
  · omega
  · have:=I.queue_bd (List.mem_of_getElem? e);omega
 obtain ⟨y,hy⟩:∃ y,({ x with h:={ x.h with words:=ziw x.h.words (A+1+i) [w] } }:Wk)=y:=⟨_,rfl⟩
 have hout:∀ p,p≠A+1+i->zit y.h.words p=zit x.h.words p:=fun p hpn=>by rw [<-hy];exact zaH n1 (by simp only [List.length_singleton];omega)
 have hself:zit y.h.words (A+1+i)=w:=by rw [<-hy];exact zce n1
 have eq:y.queue=x.queue:=by rw [<-hy]
 have et:y.taken=x.taken:=by rw [<-hy]
 have ep:y.h.pages=x.h.pages:=by rw [<-hy]
 have epw:y.h.pw=x.h.pw:=by rw [<-hy]
 rw [hy]at Iy ⊢
 have hev:∀ p,p≠A+1+i->evWd y p=evWd x p:=hout
 have hevq:∀ q∈x.queue,evWd y q=evWd x q:=fun q hq=>hev q (fun e=>n3 q hq e.symm)
 have hevo:∀ c∈zij h,evWd y c=evWd x c:=fun c hc=>hev c (fun e=>n2 c hc e.symm)
 have hcp:∀ q∈x.queue,ziS x q->ziS y q:=fun q hq ⟨k,g,c1,c2,c3,c4,c5⟩=>⟨k,g,by rw [et];exact c1,by rw [ep];exact c2,by rw [epw];exact c3,by rw [hevq q hq];exact c4,by unfold evN;rw [hevq q hq,epw];exact c5⟩
 have hplace:(A∈zij h/\evN x A=osz h A)\/∃ (k:Nat) (g0 g:Pg),(k:Int)∈x.taken/\h.pages[k]?=some g0/\g0.kind=0/\x.h.pages[k]?=some g/\bs h k<=A/\A+evN x A<=bs h k+g.used/\g.used<=h.pw:=by
  rcases I.qs A hAm with a | a
  · exact .inl ⟨a,(zld a (I.kept a hAm)).2.1⟩
  · right
    obtain ⟨k,g,d1,d2,d3,d4,d5⟩:=a
    obtain ⟨k3,y0,y3,l0,l1,l2,l3,l4,l5,l6⟩:=I.tk _ d1
    obtain rfl:k=k3:=by omega
    rw [d2]at l3;injection l3 with l3;subst l3
    rw [I.pw]at d3 d5
    exact ⟨k,y0,g,d1,l1,l2,d2,d3,d5,l6⟩
 refine ⟨Iy,by rw [eq];exact C.len,fun t j d=>?_,C.oin,by rw [eq];exact C.qnd,fun c hc=>?_,fun t o' q h1 h2=>?_,fun t o' q h1 h2=>?_,fun t o' q h1 h2 j j0 j1=>?_,fun c hc hn j j0 j1=>?_,fun p h1 h2=>?_,fun k g0 p hg hk h1 h2 h3=>?_,fun k hk=>?_,fun k g0 hg hk=>?_,fun q hq hqo=>?_,by rw [<-hy];exact zcW C.wb (fun z hz=>by rw [List.mem_singleton.1 hz];exact hwb)⟩
 · rcases d with d | ⟨d,-⟩
   · exact C.dl t j d
   · rw [d];exact (List.getElem?_eq_some_iff.1 hs).1
 · rw [hevo c hc,eq];exact C.seen c hc
 · rw [eq]at h2
   rcases C.plc t o' q h1 h2 with e | ⟨e1,e2,e3,e4⟩
   · exact .inl e
   · have:=hevo o' (C.oin o' (List.mem_of_getElem? h1))
     exact .inr ⟨by rw [this];exact e1,by rw [this];exact e2,hcp q (List.mem_of_getElem? h2) e3,e4⟩
 · rw [eq]at h2
   rw [hevq q (List.mem_of_getElem? h2)];exact C.hd t o' q h1 h2
 · rw [eq]at h2
   rw [eq]
   obtain ⟨f1,f2⟩:=C.fl t o' q h1 h2 j j0 j1
   by_cases e:t=s
   · subst e
     rw [hs]at h1;injection h1 with h1;subst h1
     rw [hA]at h2;injection h2 with h2;subst h2
     by_cases e2:j=i
     · subst e2
       rw [hself]
       exact ⟨fun _ _=>hw,fun c=>by have:=c (.inr ⟨rfl,rfl⟩);rw [hp]at this;cases this⟩
     · rw [hout _ (by omega)]
       exact ⟨fun d p=>f1 (d.elim id fun c=>absurd c.2 e2) p,fun c=>f2 fun d=>c (.inl d)⟩
   · have hne:q≠A:=fun c=>e (C.nd (by rw [<-c];exact h2) hA)
     have:=C.apart (List.mem_of_getElem? h2) hAm hne
     obtain ⟨y1,y2,-,-⟩:=C.size h1 h2
     have hjs:q+1+j<q+evN x q:=by rw [y1];unfold osz;omega
     rw [hout _ (by omega)]
     exact ⟨fun d p=>f1 (d.elim id fun c=>absurd c.1 e) p,fun c=>f2 fun d=>c (.inl d)⟩
 · rw [hout _ ?_]
   · exact C.un c hc hn j j0 j1
   · intro e
     obtain ⟨i4,j4,g4,b4⟩:=zah hc
     have hb4:=b4.pos
     rcases hplace with ⟨a1,a2⟩ | ⟨k,g0,g,k1,k2,k3,k4,k5,k6,k7⟩
     · have hne:c≠A:=fun e2=>hn ((C.seen c hc).2 (.inl (by rw [e2];exact hAm)))
       have:=zbs hc a1 hne
       omega
     · have:=zaq b4 k2 k3
       unfold bs at k5 k6;omega
 · rw [hout _ ?_]
   · exact C.ot p h1 h2
   · intro e
     rcases hplace with ⟨a1,a2⟩ | ⟨k,g0,g,k1,k2,k3,k4,k5,k6,k7⟩
     · have:=h1 A a1;omega
     · have:=h2 k g0 k2 k3;omega
 · rw [hout _ ?_]
   · refine C.fr k g0 p hg hk h1 h2 ?_
     rw [et,ep]at h3;exact h3
   · intro e
     rcases hplace with ⟨a1,a2⟩ | ⟨k',g0',g',k1,k2,k3,k4,k5,k6,k7⟩
     · obtain ⟨i4,j4,g4,b4⟩:=zah a1
       have:=zaq b4 hg hk
       unfold bs at h1 h2;omega
     · have:=zla (h:=h) (by omega) h1 h2 (k':=k') (by omega) (by omega)
       subst this
       rw [et,ep]at h3
       rcases h3 with c | ⟨g5,c1,c2⟩
       · exact c k1
       · rw [k4]at c1;injection c1 with c1;subst c1;omega
 · rw [et]at hk
   obtain ⟨u,l,t1,t2,t3⟩:=C.tile k hk
   refine ⟨u,l,by rw [ep];exact t1,zb1 (fun q hq=>by unfold evN;rw [hevq q ((t3 q).1 hq).1]) t2,fun q=>by rw [eq];exact t3 q⟩
 · rw [et]at hk
   rw [ep,eq];exact C.ppg k g0 hg hk
 · rw [eq]at hq;exact C.kp q hq hqo
end Go.VI.P
