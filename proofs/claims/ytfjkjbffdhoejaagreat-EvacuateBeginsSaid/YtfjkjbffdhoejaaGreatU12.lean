import Derived.Test.YtfjkjbffdhoejaaGreatU03
import Derived.Test.YtfjkjbffdhoejaaGreatU04
import Derived.Test.YtfjkjbffdhoejaaGreatU08
import Derived.Test.YtfjkjbffdhoejaaGreatU10
import Derived.Test.YtfjkjbffdhoejaaGreatU11
set_option linter.unusedSimpArgs false
set_option linter.unusedVariables false
set_option maxRecDepth 100000
set_option maxHeartbeats 4000000
namespace Go.VI
open Go
theorem zaU(a b c:Int):F_page_within (a,b,c,())=some ((decide (b<=a/\a<=c),()),()):=by
 rw [znM];dsimp only
 rw [cand,Bool.decide_and]
theorem zbE(pw np:Int):F_page_ValidConf ((pw,np,()),())=some ((confB pw np,()),()):=by
 rw [zjy];dsimp only
 rw [zaU,zaU,qaa,qaa];dsimp only;have e:confB pw np=(decide (16<=pw/\pw<=64)&&(pw.tmod 4 == 0)&&decide (8<=np/\np<=64)):=by
  rw [qa9,zaT];simp only [qae,qab,qax];omega
 rw [e];cases decide (16<=pw/\pw<=64) <;> cases (pw.tmod 4 == 0) <;> rfl
theorem zm8(pw np:Int):F_page_size ((pw,np,()),())=some ((W (pw*np),()),()):=by
 rw [zrq]
theorem zc6(n:Int):F_page_isSpace (n,())=some ((P.zb4 n,()),()):=by
 rw [zmj];dsimp only
 rw [cor];unfold P.zb4
 rw [Bool.decide_or];rfl
theorem ziS(n:Int):F_page_isPins (n,())=some ((P.zfV n,()),()):=by
 rw [znN];dsimp only
 rw [zaU,qaa]
 rfl
theorem zeW(pw np:Int):F_page_SmallWords ((pw,np,()),())=some ((P.zev pw np,()),()):=by
 rw [zh5];dsimp only
 rw [zbE,qaa];dsimp only;cases hc:confB pw np
 . rw [P.zyx (by rw [zaF];exact hc)];rfl
 . have c:=zaT.1 hc;rw [P.zo8 (by rw [zaF];exact hc)]
   have hq:W (pw.tdiv 4)=pw / 4:=by rw [qbE (by omega)];exact W_id (by omega)
   rw [hq];rfl
theorem zhF(pw np n:Int):F_page_Need ((pw,np,()),n,())=some ((P.zat pw np n,()),()):=by
 rw [zrr];dsimp only
 rw [zbE,zaU,zeW,qaa,qaa,qaa];dsimp only;cases hc:confB pw np
 . rw [P.zhp (.inl (by rw [zaF];exact hc))];rfl
 have c:=zaT.1 hc;have hc':P.confB pw np=true:=by rw [zaF];exact hc
 have w4:W (4*pw)=4*pw:=W_id (by omega)
 rw [w4,P.zo8 hc'];by_cases h1:1<=n/\n<=4*pw
 . rw [qad h1,P.zho hc' h1.1];by_cases h2:n<=pw / 4
   . rw [qad h2,P.ztu h2];rfl
   . rw [qaj h2,P.zxB (by omega) (by omega) (by omega) (by omega)]
     have w1:W (n+pw)=n+pw:=W_id (by omega)
     have w2:W (n+pw-1)=n+pw-1:=W_id (by omega)
     rw [w1,w2,qbE (by omega)]
     have hd:=Int.ediv_le_self (a:=n+pw-1) pw (by omega)
     have hd0:=qbT (a:=n+pw-1) (b:=pw) (by omega) (by omega)
     rw [W_id (by omega)]
     have hpw:(!pw == 0)=true:=by simp;omega
     rw [hpw];rfl
 . rw [qaj h1];have:P.zat pw np n = -1:=by
    by_cases h2:n<1
    . exact P.zhp (.inr h2)
    . rw [P.zho hc' (by omega)]
      exact P.zvR (by omega) (by omega) (by omega)
   rw [this];rfl
theorem zj4(pw np:Int)(ps:List PgD)(k:Nat)(hk:k<ps.length)(h0:(ps.getD k PG0).1=0):F_page_table_free (((pw,np,()),ps,()),(k:Int),())=some ((P.zrQ (toPg (ps.getD k PG0)),()),()):=by
 rw [zh4];dsimp only
 rw [zaf.2 ⟨by omega,by omega⟩,qac,h0]
 generalize ps.getD k PG0=X
 obtain ⟨a,b,c,d,_⟩:=X;have:P.zrQ (toPg (a,b,c,d,()))=((b == 0)&&((c == 0)&&((d == 0)&&true))):=by
  show decide (b=0/\c=0/\d=0)=_
  rw [qa9,qab];simp
 rw [this];rfl
theorem ziP(pw np:Int)(ps:List PgD)(k:Nat)(hk:k<ps.length):F_page_table_small (((pw,np,()),ps,()),(k:Int),())=some ((P.zdg pw (toPg (ps.getD k PG0)),()),()):=by
 rw [zhh];dsimp only
 rw [zaf.2 ⟨by omega,by omega⟩,qac]
 generalize ps.getD k PG0=X
 obtain ⟨a,b,c,d,_⟩:=X;dsimp only;rw [zc6,zaU,ziS,qaa,qaa,qaa];dsimp only;have:P.zdg pw (toPg (a,b,c,d,()))=(P.zb4 b&&decide (0<=c/\c<=pw)&&P.zfV d):=rfl
 rw [this];cases P.zb4 b <;> cases decide (0<=c/\c<=pw) <;> rfl
theorem zlE{α:Type}{l:List α}{k:Nat}{x:α}(h:l[k]?=some x):l.drop k=x::l.drop (k+1):=by
 obtain ⟨hk,e⟩:=qar.1 h;rw [qaT hk,e]
theorem zwU{ps:List PgD}{k:Nat}(hk:k<ps.length):(ps.map toPg)[k]?=some (toPg (ps.getD k PG0)):=by
 rw [<-zaB,qay,qas (by rw [qai];exact hk)];rfl
theorem zvw(sp:Int)(l:List PgD)(hl:l.length<=100000000):Tot (fun (r:A8)=>(match r with | .inl x=>x.1.1=false/\P.zbK sp (l.map toPg)=false | .inr _=>P.zbK sp (l.map toPg)=true)) (rl Ab A8 (fun (x:Ab)=>
 bif decide (x.1.2.1<(l.length:Int)) then
 bif inB x.1.2.1 l.length then
 bif bif (l.getD x.1.2.1.toNat PG0).1 != 3 then true
 else (l.getD x.1.2.1.toNat PG0).2.1 != sp then some (Sum.inr (Sum.inl ((false,()),(),())))
 else some (Sum.inl ((x.1.1,W (x.1.2.1+1),()),(),()))
 else none
 else some (Sum.inr (Sum.inr ((x.1.1,()),(),())))) ((false,0,()),(),())):=by
  refine zai (fun x=>∃ k:Nat,x.1.2.1=(k:Int)/\k<=l.length/\P.zbK sp ((l.map toPg).drop k)=P.zbK sp (l.map toPg)) (fun x=>((l.length:Int)-x.1.2.1).toNat) ⟨0,rfl,by omega,rfl⟩ ?_
  rintro ⟨⟨(b:Bool),(i:Int),_⟩,_⟩ ⟨k,e,hk,hp⟩;dsimp only at e ⊢
  subst e;refine zac (fun h1=>?_) fun h1=>zab ?_
  . simp only [qab]at h1;have hk':k<l.length:=by omega
    rw [zlE (zwU hk')]at hp;unfold P.zbK at hp ⊢
    rw [qb2]at hp;rw [W_id (by omega),qac]
    generalize hX:l.getD k PG0=X at *
    obtain ⟨xk,xs,xu,xp,_⟩:=X;refine zae (zaf.2 ⟨by omega,by omega⟩) (zac (fun h2=>zab ?_) fun h2=>zab ?_)
    . refine ⟨rfl,?_⟩;rw [<-hp,qbC];left
      refine qaj ?_;simp only [cor,qaY,qaC,ne_eq]at h2;rintro ⟨q1,q2⟩;rcases h2 with h2 | h2
      . exact h2 q1
      . exact h2 q2
    . simp only [qal];refine ⟨⟨k+1,by omega,by omega,?_⟩,by omega⟩
      rw [<-hp];simp only [cor,qaP,qaA]at h2;have:decide ((toPg (xk,xs,xu,xp,())).kind=3/\(toPg (xk,xs,xu,xp,())).space=sp)=true:=qad h2
      rw [this,qaU]
  . simp only [qag]at h1;simp only [qak];rw [<-hp,qbw (by rw [qai];omega)];rfl
theorem ziR(pw np:Int)(ps:List PgD)(k:Nat)(hk:k<ps.length)(hl:ps.length<=100000000):Tot (fun r=>r.1.1=P.zcv pw np (ps.map toPg) k (toPg (ps.getD k PG0))) (F_page_table_large (((pw,np,()),ps,()),(k:Int),())):=by
 rw [zhj];dsimp only
 refine zae (zaf.2 ⟨by omega,by omega⟩) ?_
 rw [qac];generalize hX:ps.getD k PG0=X
 obtain ⟨a,b,c,d,_⟩:=X;dsimp only;rw [zhF,qaa,zc6,qaa,ziS,qaa];dsimp only;have hlm:(ps.map toPg).length=ps.length:=qai ..
 have e:P.zcv pw np (ps.map toPg) k (toPg (a,b,c,d,()))=(P.zb4 b&&decide (1<=P.zat pw np c)&&P.zfV d&&decide ((k:Int)+P.zat pw np c<=ps.length)&&P.zbK b (((ps.map toPg).drop (k+1)).take ((P.zat pw np c).toNat-1))):=by rw [<-hlm];rfl
 rw [e];have b1:=P.zf9 pw np c;have b0:=P.zpM pw np c;generalize P.zat pw np c=N at *
 refine zac (fun h1=>zab ?_) fun h1=>?_
 . simp only [qao]at h1;rw [h1];rfl
 simp only [qaw]at h1;rw [h1,qaU];refine zac (fun h2=>zab ?_) fun h2=>?_
 . simp only [qab]at h2;rw [qaj (show ¬1<=N by omega)];rfl
 simp only [qag]at h2;rw [qad (show 1<=N by omega),qaU]
 have w1:W ((k:Int)+N)=k+N:=W_id (by omega)
 have w2:W ((k:Int)+1)=k+1:=W_id (by omega)
 rw [w1,w2,cor];refine zac (fun h3=>zab ?_) fun h3=>?_
 . simp only [qaY,qao,qab]at h3;rcases h3 with h3 | h3
   . rw [h3];rfl
   . rw [qaj (show ¬(k:Int)+N<=ps.length by omega)];simp
 simp only [qaP,qaw,qag]at h3;rw [h3.1,qad (show (k:Int)+N<=ps.length by omega)]
 simp only [qaU];refine zae (qad (by omega)) ?_
 have ed:List.drop ((k:Int)+1).toNat (List.take ((k:Int)+N).toNat ps)=(ps.drop (k+1)).take (N.toNat-1):=by
  rw [qbI];congr 1
  omega
 rw [ed];have el:((ps.map toPg).drop (k+1)).take (N.toNat-1)=((ps.drop (k+1)).take (N.toNat-1)).map toPg:=by
  rw [List.map_take,List.map_drop]
 rw [el];refine zad (zvw b ((ps.drop (k+1)).take (N.toNat-1)) (by rw [qau,qaI];omega)) fun r hr=>zaQ (fun x hx=>?_) fun x hx=>?_
 . subst hx;exact zab (hr.1.trans hr.2.symm)
 . subst hx;exact zab hr.symm
theorem ziQ(pw np:Int)(ps:List PgD)(k:Nat)(hk:k<ps.length)(hl:ps.length<=100000000):Tot (fun r=>r.1.1=P.zg3 pw np (ps.map toPg) k) (F_page_table_owned (((pw,np,()),ps,()),(k:Int),())):=by
 rw [zhi];dsimp only
 unfold P.zg3;refine zad (P:=fun r=>match r with
  | .inl x=>x.1.1=P.zcd pw np (ps.map toPg) k 1
  | .inr _=>P.zcd pw np (ps.map toPg) k 1=false) (zai (fun x=>∃ m b:Nat,x.1.2.1=(b:Int)/\m+b=k+1/\1<=b/\P.zcd pw np (ps.map toPg) m b=P.zcd pw np (ps.map toPg) k 1) (fun x=>((k:Int)+1-x.1.2.1).toNat) ⟨k,1,rfl,rfl,by omega,rfl⟩ ?_) fun r hr=>zaQ (fun x hx=>?_) fun x hx=>?_
 . rintro ⟨⟨(q:Bool),(i:Int),_⟩,_⟩ ⟨m,b,e,hm,hb,hp⟩;dsimp only at e ⊢
   subst e;refine zac (fun h1=>?_) fun h1=>zab ?_
   . simp only [qab]at h1;obtain ⟨m,rfl⟩:∃ n,m=n+1:=⟨m-1,by omega⟩
     have w1:W ((k:Int)-b)=(m:Nat):=by rw [W_id (by omega)];omega
     rw [w1,W_id (n:=(b:Int)+1) (by omega),qac]
     rw [P.zcd,zaB]at hp;generalize hX:ps.getD m PG0=X at *
     obtain ⟨xk,xs,xu,xp,_⟩:=X;have hp:(if xk=2 then decide ((b:Int)<P.zat pw np xu) else P.zcd pw np (ps.map toPg) m ((b:Int)+1))=P.zcd pw np (ps.map toPg) k 1:=hp
     refine zae (zaf.2 ⟨by omega,by omega⟩) (zac (fun h2=>?_) fun h2=>zab ?_)
     . rw [zhF,qaa];simp only [qax]at h2;rw [if_pos h2]at hp;exact zab hp
     . simp only [qaO,ne_eq]at h2;rw [if_neg h2]at hp;simp only [qal];exact ⟨⟨m,b+1,by omega,by omega,by omega,by rw [<-hp];rfl⟩,by omega⟩
   . simp only [qag]at h1;obtain rfl:m=0:=by omega
     simp only [qak];rw [<-hp];rfl
 . subst hx;exact zab hr
 . subst hx;exact zab hr.symm
theorem zj3(pw np:Int)(ps:List PgD)(k:Nat)(hk:k<ps.length)(hl:ps.length<=100000000):Tot (fun r=>r.1.1=P.zet pw np (ps.map toPg) k (toPg (ps.getD k PG0))) (F_page_table_tail (((pw,np,()),ps,()),(k:Int),())):=by
 rw [zh3];dsimp only
 refine zae (zaf.2 ⟨by omega,by omega⟩) ?_
 rw [qac];generalize hX:ps.getD k PG0=X
 obtain ⟨a,b,c,d,_⟩:=X;have e:P.zet pw np (ps.map toPg) k (toPg (a,b,c,d,()))=((c == 0)&&(d == 0)&&P.zg3 pw np (ps.map toPg) k):=by
  unfold P.zet;rw [Bool.decide_and];rfl
 rw [e];dsimp only;refine zac (fun h1=>zac (fun h2=>zad (ziQ pw np ps k hk hl) fun r hr=>zab ?_) fun h2=>zab ?_) fun h1=>zab ?_
 . rw [h1,h2];exact hr
 . rw [h1,h2];rfl
 . rw [h1];rfl
theorem zhE(pw np:Int)(ps:List PgD)(hl:ps.length<=100000000):Tot (fun r=>r.1.1=P.zbs pw np (ps.map toPg)) (F_page_table_proper (((pw,np,()),ps,()),())):=by
 rw [zgN];dsimp only
 unfold P.zbs;have hlm:(ps.map toPg).length=ps.length:=qai ..
 refine zad (P:=fun r=>match r with
  | .inl x=>x.1.1=false/\P.zaG pw np (ps.map toPg) 0 (ps.map toPg)=false
  | .inr _=>P.zaG pw np (ps.map toPg) 0 (ps.map toPg)=true) (zai (fun x=>∃ k:Nat,x.1.2.1=(k:Int)/\k<=ps.length/\P.zaG pw np (ps.map toPg) k ((ps.map toPg).drop k)=P.zaG pw np (ps.map toPg) 0 (ps.map toPg)) (fun x=>((ps.length:Int)-x.1.2.1).toNat) ⟨0,rfl,by omega,rfl⟩ ?_) fun r hr=>zaQ (fun x hx=>?_) fun x hx=>?_
 . rintro ⟨⟨(q:Bool),(i:Int),_⟩,_⟩ ⟨k,e,hk,hp⟩;dsimp only at e ⊢
   subst e;refine zac (fun h1=>?_) fun h1=>zab ?_
   . simp only [qab]at h1;have hk':k<ps.length:=by omega
     rw [P.zvy (zwU hk')]at hp;rw [zaU,qaa,W_id (n:=(k:Int)+1) (by omega),qac]
     have hfree:=zj4 pw np ps k hk';have hsmall:=ziP pw np ps k hk';have hlarge:=ziR pw np ps k hk' hl;have htail:=zj3 pw np ps k hk' hl;generalize hX:ps.getD k PG0=X at *
     obtain ⟨xk,xs,xu,xp,_⟩:=X;dsimp only at hfree ⊢
     have bad:P.zbo pw np (ps.map toPg) k (toPg (xk,xs,xu,xp,()))=false->Tot (Sum.elim (fun x':AS×Unit×Unit=>(∃ k:Nat,x'.1.2.1=(k:Int)/\k<=ps.length/\P.zaG pw np (ps.map toPg) k ((ps.map toPg).drop k)=P.zaG pw np (ps.map toPg) 0 (ps.map toPg))/\((ps.length:Int)-x'.1.2.1).toNat<((ps.length:Int)-(k:Int)).toNat) fun (r:A8)=>match r with
      | .inl x=>x.1.1=false/\P.zaG pw np (ps.map toPg) 0 (ps.map toPg)=false
      | .inr _=>P.zaG pw np (ps.map toPg) 0 (ps.map toPg)=true) (some (Sum.inr (Sum.inl ((false,()),(),())))):=fun hs=>by
      rw [hs]at hp;exact zab ⟨rfl,hp.symm⟩
     have good:P.zbo pw np (ps.map toPg) k (toPg (xk,xs,xu,xp,()))=true->Tot (Sum.elim (fun x':AS×Unit×Unit=>(∃ k:Nat,x'.1.2.1=(k:Int)/\k<=ps.length/\P.zaG pw np (ps.map toPg) k ((ps.map toPg).drop k)=P.zaG pw np (ps.map toPg) 0 (ps.map toPg))/\((ps.length:Int)-x'.1.2.1).toNat<((ps.length:Int)-(k:Int)).toNat) fun (r:A8)=>match r with
      | .inl x=>x.1.1=false/\P.zaG pw np (ps.map toPg) 0 (ps.map toPg)=false
      | .inr _=>P.zaG pw np (ps.map toPg) 0 (ps.map toPg)=true) (some (Sum.inl ((q,(k:Int)+1,()),(),()))):=fun hs=>by
      rw [hs,qaU]at hp;refine zab ?_;simp only [qal];exact ⟨⟨k+1,by omega,by omega,hp⟩,by omega⟩
     have st:P.zbo pw np (ps.map toPg) k (toPg (xk,xs,xu,xp,()))=if xk=0 then P.zrQ (toPg (xk,xs,xu,xp,())) else if xk=1 then P.zdg pw (toPg (xk,xs,xu,xp,())) else if xk=2 then P.zcv pw np (ps.map toPg) k (toPg (xk,xs,xu,xp,())) else if xk=3 then P.zet pw np (ps.map toPg) k (toPg (xk,xs,xu,xp,())) else false:=rfl
     rw [st]at bad good;refine zae (zaf.2 ⟨by omega,by omega⟩) (zac (fun h2=>bad ?_) fun h2=>?_)
     . simp only [qao,qag]at h2;rw [if_neg (by omega),if_neg (by omega),if_neg (by omega),if_neg (by omega)]
     simp only [qaw,qab]at h2;refine zac (fun c0=>?_) fun c0=>?_
     . have c0:=qat c0;rw [if_pos c0]at bad good;rw [hfree c0,qaa];exact zac (fun h3=>bad (by simpa using h3)) fun h3=>good (by simpa using h3)
     have c0:=qa3 c0;rw [if_neg c0]at bad good;refine zac (fun c1=>?_) fun c1=>?_
     . have c1:=qat c1;rw [if_pos c1]at bad good;rw [hsmall,qaa];exact zac (fun h3=>bad (by simpa using h3)) fun h3=>good (by simpa using h3)
     have c1:=qa3 c1;rw [if_neg c1]at bad good;refine zac (fun c2=>?_) fun c2=>?_
     . have c2:=qat c2;rw [if_pos c2]at bad good;refine zad hlarge fun r hr=>?_
       rw [<-hr]at bad good;exact zac (fun h3=>bad (by simpa using h3)) fun h3=>good (by simpa using h3)
     have c2:=qa3 c2;rw [if_neg c2]at bad good;refine zac (fun c3=>?_) fun c3=>?_
     . have c3:=qat c3;rw [if_pos c3]at bad good;refine zad htail fun r hr=>?_
       rw [<-hr]at bad good;exact zac (fun h3=>bad (by simpa using h3)) fun h3=>good (by simpa using h3)
     . have c3:=qa3 c3;omega
   . simp only [qag]at h1;rw [P.zwV (by omega)]at hp
     simp only [qak];exact hp.symm
 . subst hx;exact zab (hr.1.trans hr.2.symm)
 . subst hx;exact zab hr.symm
theorem zn5(ps:List PgD)(b:Int)(hb:¬b = -1)(hl:ps.length<=100000000):F_page_isSmall (ps,b,())=some ((P.zgj (ps.map toPg) b,()),()):=by
 rw [zmk];dsimp only
 rw [zaU,qaa];dsimp only;have w1:W ((ps.length:Int)-1)=ps.length-1:=W_id (by omega)
 have hlm:(ps.map toPg).length=ps.length:=qai ..
 rw [w1];unfold P.zgj;rw [hlm,zaB];by_cases h:0<=b/\b<=(ps.length:Int)-1
 . rw [qad h,zaf.2 ⟨h.1,by omega⟩]
   have:decide (b = -1\/0<=b/\b<(ps.length:Int)/\(toPg (ps.getD b.toNat PG0)).kind=1)=((ps.getD b.toNat PG0).1 == 1):=by
    rw [qa9,qab,qax];constructor
    . rintro (e | e)
      . exact absurd e hb
      . exact e.2.2
    . intro e;exact .inr ⟨h.1,by omega,e⟩
   rw [this];rfl
 . rw [qaj h];have:decide (b = -1\/0<=b/\b<(ps.length:Int)/\(toPg (ps.getD b.toNat PG0)).kind=1)=false:=qaj (by
    rintro (e | e)
    . exact hb e
    . exact h ⟨e.1,by omega⟩)
   rw [this];rfl
theorem zcB(h:HpD)(hw:HpW h):Tot (fun r=>r.1.1=P.okH (toHp h)) (F_page_Proper (h,())):=by
 obtain ⟨⟨pw,np,_⟩,ws,ps,sp,bu,_⟩:=h;have hl:=hw.pl;have hwl:=hw.wl;dsimp only at hl hwl
 have hlm:(ps.map toPg).length=ps.length:=qai ..
 have e:P.okH (toHp ((pw,np,()),ws,ps,sp,bu,()))=(confB pw np&&decide ((ws.length:Int)=np*pw)&&decide ((ps.length:Int)=np)&&P.zb4 sp&&P.zgj (ps.map toPg) bu&&P.zbs pw np (ps.map toPg)):=by
  show P.ze7 pw np ws.length (ps.map toPg) sp bu=_
  rw [<-P.zeB,<-zaF];unfold P.zjp;rw [hlm]
 rw [e];rw [znO];dsimp only
 rw [zbE,qaa];refine zac (fun h1=>zab ?_) fun h1=>?_
 . simp only [qao]at h1;rw [h1];rfl
 simp only [qaw]at h1;have c2:=zaT.1 h1;have cm:=P.conf_prod (pw:=pw) (np:=np) (by rw [zaF];exact h1)
 rw [h1,qaU,zm8,qaa];dsimp only;rw [cor,Int.mul_comm pw np,W_id (n:=np*pw) (by omega)]
 refine zac (fun h2=>zab ?_) fun h2=>?_
 . simp only [qaY,qaC,ne_eq]at h2;rcases h2 with h2 | h2
   . rw [qaj h2];rfl
   . rw [qaj (p:=(ps.length:Int)=np) h2];simp
 simp only [qaP,qaA]at h2;rw [qad h2.1,qad h2.2,zc6,qaa];simp only [qaU];refine zac (fun h3=>zab ?_) fun h3=>?_
 . simp only [qao]at h3;rw [h3];rfl
 simp only [qaw]at h3;rw [h3,qaU];have fin:∀ b:Bool,b=true->Tot (fun r=>r.1.1=(b&&P.zbs pw np (ps.map toPg))) ((F_page_table_proper (((pw,np,()),ps,()),())).bind fun (r:A5)=>some ((r.1.1,()),())):=fun b hb=>zad (zhE pw np ps hl) fun r hr=>zab (by rw [hb,qaU];exact hr)
 refine zac (fun h4=>?_) fun h4=>fin _ ?_
 . simp only [qaC,ne_eq]at h4;rw [zn5 ps bu h4 hl,qaa];refine zac (fun h5=>zab ?_) fun h5=>fin _ (by simpa using h5)
   simp only [qao]at h5;rw [h5];rfl
 . simp only [qaA]at h4;subst h4;unfold P.zgj;exact qad (.inl rfl)
theorem ziT(pw np a:Int)(ha:0<=a/\a<18446744073709551616):F_page_Of ((pw,np,()),a,())=some ((P.ofI pw np a,P.ofK pw np a,P.ofE pw np a,()),()):=by
 rw [zvQ];dsimp only
 rw [zbE,zm8,qaa,qaa];dsimp only;cases hc:confB pw np
 . obtain ⟨e1,e2,e3⟩:=P.zyU (pw:=pw) (np:=np) (a:=a) (by rw [zaF];exact hc)
   rw [e1,e2,e3];rfl
 have hc':P.confB pw np=true:=by rw [zaF];exact hc
 obtain ⟨c1,c2⟩:=P.conf_prod hc';have c3:=P.zaj hc';rw [Int.mul_comm pw np,W_id (n:=np*pw) (by omega),U_id (n:=np*pw) (by omega)]
 have hpw:(!pw == 0)=true:=by simp;omega
 by_cases h1:a<4096
 . obtain ⟨e1,e2,e3⟩:=P.zf3 (a:=a) hc' (by unfold P.inAr;exact qaj (by omega))
   rw [e1,e2,e3,qad h1];rfl
 have w4:U (a-4096)=a-4096:=U_id (by omega)
 rw [w4,qaj h1];by_cases h2:a-4096 >= np*pw
 . obtain ⟨e1,e2,e3⟩:=P.zf3 (a:=a) hc' (by unfold P.inAr;exact qaj (by omega))
   rw [e1,e2,e3,qad h2];rfl
 obtain ⟨e1,e2,e3⟩:=P.zl7 (a:=a) hc' (by unfold P.inAr;exact qad (by omega))
 have w5:W (a-4096)=a-4096:=W_id (by omega)
 have hd:=Int.ediv_le_self (a:=a-4096) pw (by omega)
 have hd0:=qbT (a:=a-4096) (b:=pw) (by omega) (by omega)
 rw [qaj h2,w5,hpw,e1,e2,e3,qbE (by omega),qcc (by omega),W_id (n:=(a-4096) / pw) (by omega)]
 rfl
end Go.VI
namespace Go.VI
open Go
theorem zc8(ws:List Int)(a:Int)(n:Nat)(hl:ws.length<=100000000)(hn:n<=100000000)(ha:0<=a/\a<18446744073709551616):F_arena_locate (ws,a,(n:Int),())=some (((if P.okA ws.length a n then a-4096 else 0),(if P.okA ws.length a n then 0 else 2),()),()):=by
 rw [zmo];dsimp only
 rw [qaj (show ¬(n:Int)<0 by omega),U_id (n:=(ws.length:Int)) (by omega),U_id (n:=(n:Int)) (by omega)]
 by_cases h1:a<4096
 . have:P.okA ws.length a n=false:=by rw [<-qbu,P.zav];omega
   rw [qad h1,this];rfl
 have u1:U (a-4096)=a-4096:=U_id (by omega)
 rw [qaj h1,u1];by_cases h2:a-4096 > (ws.length:Int)
 . have:P.okA ws.length a n=false:=by rw [<-qbu,P.zav];omega
   rw [qad h2,this];rfl
 have u2:U ((ws.length:Int)-(a-4096))=ws.length-(a-4096):=U_id (by omega)
 have w1:W (a-4096)=a-4096:=W_id (by omega)
 rw [qaj h2,u2,w1];by_cases h3:(n:Int) > (ws.length:Int)-(a-4096)
 . have:P.okA ws.length a n=false:=by rw [<-qbu,P.zav];omega
   rw [qad h3,this];rfl
 . have:P.okA ws.length a n=true:=by rw [P.zav];omega
   rw [qaj h3,this];rfl
theorem zqr(ws:List Int)(a:Int)(hl:ws.length<=100000000)(ha:0<=a/\a<18446744073709551616):F_arena_Index (ws,a,())=some ((P.zmw ws.length a,P.zmx ws.length a,()),()):=by
 rw [znV];dsimp only
 have h:F_arena_locate (ws,a,1,())=_:=zc8 ws a 1 hl (by omega) ha
 rw [h];rfl
theorem zkK(ws:List Int)(a:Int)(hl:ws.length<=100000000)(ha:0<=a/\a<18446744073709551616):F_arena_Load (ws,a,())=some ((P.zaq ws a,P.zgS ws a,()),()):=by
 rw [zpI];dsimp only
 rw [zqr ws a hl ha,qaa];dsimp only;unfold P.zmw P.zmx P.zaq P.zgS;cases h:P.okA ws.length a 1
 . rfl
 . have:=P.zav.1 h
   simp only [if_true];rw [zaf.2 ⟨by omega,by omega⟩];rfl
theorem zcC(k:Nat)(ws:List Int)(hk:k<ws.length):F_bits_Unpack_S1_c ((k:Int),ws,())=some ((ws.getD k 0,()),ws,()):=by
 rw [zhn];dsimp only
 rw [zaf.2 ⟨by omega,by omega⟩,qac];rfl
theorem zu6{ws:List Int}{k:Nat}(hk:k<ws.length):ws[k]?=some (ws.getD k 0):=by
 rw [qay,qas hk];rfl
theorem zwp(ws:List Int)(hl:ws.length<=100000000):Tot (fun r=>r.1.1=P.fitL 64 ws/\r.2.1=ws) (F_bits_fit_c_bits_Unpack_S1 ((ws.length:Int),ws,())):=by
 rw [zdv];dsimp only
 refine zad (P:=fun r=>match r with
  | .inl x=>(x.1.1=false/\P.fitL 64 ws=false)/\x.2.2.1.1=ws
  | .inr x=>P.fitL 64 ws=true/\x.2.2.1.1=ws) (zai (fun x=>∃ k:Nat,x.1.2.2.1=(k:Int)/\k<=ws.length/\x.2.2.1.1=ws/\0<=x.1.2.1/\x.1.2.1<=64/\P.fitL x.1.2.1 (ws.drop k)=P.fitL 64 ws) (fun x=>((ws.length:Int)-x.1.2.2.1).toNat) ⟨0,rfl,by omega,rfl,by dsimp only;omega,by dsimp only;omega,rfl⟩ ?_) fun r hr=>zaQ (fun x hx=>?_) fun x hx=>?_
 . rintro ⟨⟨(q:Bool),(lf:Int),(i:Int),_⟩,_,⟨(l:List Int),_⟩,_⟩ ⟨k,e,hk,el,h0,h64,hp⟩;dsimp only at e el h0 h64 hp ⊢
   rw [e,el];refine zac (fun h1=>?_) fun h1=>zab ?_
   . simp only [qab]at h1;have hk':k<ws.length:=by omega
     have hx:=zu6 hk';rw [zcC k ws hk',qaa];dsimp only;generalize ws.getD k 0=v at *
     refine zac (fun h2=>zab ⟨⟨rfl,?_⟩,rfl⟩) fun h2=>?_
     . rw [<-hp];exact P.zpZ hx (.inl (by simpa using h2))
     simp only [qag]at h2;rw [zcC k ws hk',qaa];have hv:ws.getD k 0=v:=by rw [qay,hx];rfl
     dsimp only;rw [hv];refine zac (fun h3=>zab ⟨⟨rfl,?_⟩,rfl⟩) fun h3=>?_
     . rw [<-hp];exact P.zpZ hx (.inr (by simpa using h3))
     simp only [qag]at h3;rw [zcC k ws hk',qaa];dsimp only;rw [hv,W_id (n:=lf-v) (by omega),W_id (n:=(k:Int)+1) (by omega)]
     refine zab ⟨⟨k+1,by dsimp only;omega,by omega,rfl,by dsimp only;omega,by dsimp only;omega,?_⟩,by dsimp only;omega⟩
     rw [<-hp];exact (P.zu9 hx h2 (by omega)).symm
   . simp only [qag]at h1;refine ⟨?_,rfl⟩;rw [<-hp];exact P.zvb (by omega)
 . subst hx;exact zab ⟨hr.1.1.trans hr.1.2.symm,hr.2⟩
 . subst hx;exact zab ⟨hr.1.symm,hr.2⟩
theorem zfj(n:Int):F_bits_Ones (n,())=some ((P.zf1 n,()),()):=by
 rw [zrv];dsimp only
 by_cases h:n<0
 . rw [qad h,P.zxp n h];rfl
 . rw [qaj h];have e:U (U (1*2 ^ min n.toNat IntKind.u64.bits)-1)=P.zf1 n:=by
    have hb:IntKind.u64.bits=64:=rfl
    rw [hb,qbk];unfold P.zf1;by_cases hc:n.toNat<64
    . rw [show min n.toNat 64=n.toNat from by omega]
      have h1:=P.zxO n.toNat hc;have h2:=P.zxN n.toNat;rw [U_id (n:=2 ^ n.toNat) (by omega),U_id (by omega)]
    . rw [show min n.toNat 64=64 from by omega];rfl
   rw [e];rfl
theorem zqI:∀ (ws:List Int) (x k:Nat) (a:Int),ws[k]?=some a->(P.zkQ x ws)[k]?=some (((x >>> P.sumW (ws.take k)) &&& P.zfE a:Nat):Int)
 | [],x,k,a,h=>by simp at h
 | b::r,x,0,a,h=>by
  simp only [qcm,Option.some.injEq]at h;subst h;simp [P.zkQ,P.sumW]
 | b::r,x,k+1,a,h=>by
  rw [qbr]at h;rw [P.zkQ,qbr,zqI r _ k a h,qcq,P.sumW,Nat.shiftRight_add]
theorem ziV(x:Nat)(hx:x<18446744073709551616)(ws:List Int)(hl:ws.length<=1000):Tot (fun r=>r.1.1=P.unpV x ws/\r.1.2.1=P.unpE x ws) (F_bits_Unpack ((x:Int),ws,())):=by
 rw [znR];dsimp only
 refine zad (zwp ws (by omega)) ?_
 rintro ⟨⟨(b:Bool),_⟩,(l:List Int),_⟩ ⟨hb,el⟩;dsimp only at hb el ⊢
 rw [hb,el];refine zac (fun h1=>zab ?_) fun h1=>?_
 . simp only [qao]at h1;unfold P.unpV P.unpE;rw [h1];exact ⟨rfl,rfl⟩
 simp only [qaw]at h1;refine zae (qad (by omega)) (zae (zak.2 (by omega)) ?_)
 refine zad (P:=fun r=>r.1.1=((x >>> P.sumW ws:Nat):Int)/\r.2.2.1=P.zkQ x ws) (zai (fun y=>∃ k:Nat,y.1.2.1=(k:Int)/\k<=ws.length/\y.1.1=((x >>> P.sumW (ws.take k):Nat):Int)/\y.2.2.1.length=ws.length/\∀ j,j<k->y.2.2.1[j]?=(P.zkQ x ws)[j]?) (fun y=>((ws.length:Int)-y.1.2.1).toNat) ⟨0,rfl,by omega,by simp [P.sumW],by simp,fun j hj=>by omega⟩ ?_) ?_
 . rintro ⟨⟨(v:Int),(i:Int),_⟩,_,(L:List Int),_⟩ ⟨k,e,hk,ev,hL,hj⟩;dsimp only at e ev hL hj ⊢
   rw [e,ev];refine zac (fun h2=>?_) fun h2=>zab ?_
   . simp only [qab]at h2;have hk':k<ws.length:=by omega
     have hx':=zu6 hk';have hm:=P.zp0 ws 64 (by omega) h1 _ (qba hx')
     rw [qac];generalize ws.getD k 0=a at *
     rw [zfj,qaa];dsimp only;have hin:inB (k:Int) ws.length=true:=zaf.2 ⟨by omega,by omega⟩
     refine zae hin (zae (zaf.2 ⟨by omega,by omega⟩) (zae hin (zae (by simp;omega) (zab ?_))))
     have hv:x >>> P.sumW (ws.take k)<18446744073709551616:=P.shr_lt x _ hx;have e1:zcg IntKind.u64 (fun (x1 x2:BitVec IntKind.u64.bits)=>x1 &&& x2) ((x >>> P.sumW (ws.take k):Nat):Int) (P.zf1 a)=(((x >>> P.sumW (ws.take k)) &&& P.zfE a:Nat):Int):=by
      rw [P.zos];exact zqd _ _ hv (P.zyS a)
     have e2:(((x >>> P.sumW (ws.take k):Nat):Int)).fdiv (2 ^ min a.toNat IntKind.u64.bits)=((x >>> P.sumW (ws.take (k+1)):Nat):Int):=by
      have hb:IntKind.u64.bits=64:=rfl
      rw [hb,show min a.toNat 64=a.toNat from by omega,<-P.zge,zdS _ _ (qce (by omega)),P.zwX hx',Nat.shiftRight_add,qbO (x >>> _)]
     refine ⟨⟨k+1,?_,by omega,e2,?_,?_⟩,?_⟩
     . dsimp only;exact W_id (by omega)
     . dsimp only;rw [List.length_set];exact hL
     . intro j hjk;dsimp only;rw [e1];by_cases hq:j=k
       . subst hq;rw [zqI ws x j a hx',List.getElem?_set_self (by omega)]
       . rw [qbX (by omega)]
         exact hj j (by omega)
     . dsimp only;rw [W_id (by omega)];omega
   . simp only [qag]at h2;obtain rfl:k=ws.length:=by omega
     refine ⟨by rw [List.take_length],?_⟩
     show L=_
     refine qbt fun j=>?_
     by_cases hq:j<ws.length
     . exact hj j hq
     . rw [qb1 (by omega),qb1 (by rw [P.zwO];omega)]
 . rintro ⟨⟨(v:Int),_⟩,_,(L:List Int),_⟩ ⟨hv,hL⟩;dsimp only at hv hL ⊢
   subst hv hL;unfold P.unpV P.unpE;rw [h1,if_pos rfl,if_pos rfl];refine zac (fun h2=>zab ?_) fun h2=>zab ?_
   . simp only [qaC,ne_eq]at h2;rw [if_neg (by omega),if_neg (by omega)];exact ⟨rfl,rfl⟩
   . simp only [qaA]at h2;rw [if_pos (by omega),if_pos (by omega)];exact ⟨rfl,rfl⟩
theorem zc7(k n m:Int)(hm:0<=m/\m<4294967296):F_header_Valid ((k,n,m,()),())=some ((P.zaz k n m,()),()):=by
 rw [zmm];dsimp only
 have key:∀ {o:Option A5},Tot (fun r=>r.1.1=P.zaz k n m) o->o=some ((P.zaz k n m,()),()):=fun h=>by
  obtain ⟨⟨⟨(b:Bool),_⟩,_⟩,rfl,e⟩:=h;have e:b=P.zaz k n m:=e
  rw [e]
 refine key (zac (fun h=>?_) fun h=>?_)
 . simp only [qax]at h;subst h;refine zac (fun h1=>zac (fun h2=>?_) fun h2=>zab ?_) fun h1=>zab ?_
   . simp only [qab,ge_iff_le]at h1 h2;rw [zfj,qaa];refine zab ?_;dsimp only;rw [U_id (n:=m) (by omega)]
     by_cases h3:m<=P.zf1 n
     . rw [qad h3,P.zhP ⟨by omega,by omega,h1,by omega,fun _=>⟨h2,(P.zuN h1 h2).1 h3⟩,fun c=>absurd rfl c⟩]
     . rw [qaj h3,P.map_no h1 h2 (by omega)]
   . simp only [qag]at h2;exact (P.zcn (fun c=>h2 (c.2.2.2.2.1 rfl).1)).symm
   . simp only [qag,ge_iff_le]at h1;exact (P.zcn (fun c=>h1 c.2.2.1)).symm
 . simp only [qaO,ne_eq]at h;refine zac (fun h1=>zab ?_) fun h1=>zab ?_
   . have hk:k=0\/k=2\/k=3:=by
      by_cases c0:k=0
      . exact .inl c0
      . by_cases c2:k=2
        . exact .inr (.inl c2)
        . rw [show (k == 0)=false from by simpa using c0,show (k == 2)=false from by simpa using c2]at h1
          simp only [qaf,qax]at h1;exact .inr (.inr h1)
     dsimp only;have e:((k == k)&&((n == n)&&((m == 0)&&true)))=(m == 0):=by simp
     rw [e];by_cases q1:0<=n
     . by_cases q2:n<=255
       . rw [qad (show n >= 0 from q1),qad q2]
         by_cases q3:m=0
         . rw [P.zsJ hk q1 q2 q3,q3];rfl
         . rw [P.zcn (fun c=>q3 (c.2.2.2.2.2 h))];simp [q3]
       . rw [qad (show n >= 0 from q1),qaj q2,P.zcn (fun c=>q2 c.2.2.2.1)];rfl
     . rw [qaj (show ¬n >= 0 from q1),P.zcn (fun c=>q1 c.2.2.1)];rfl
   . rw [P.zcn];rintro ⟨q1,q2,-⟩;have hk:k=0\/k=2\/k=3:=by omega
     rcases hk with e | e | e <;> subst e <;> simp at h1
theorem zdx(k n m:Int)(hm:0<=m/\m<4294967296):F_header_Size ((k,n,m,()),())=some ((P.zaP k n m,()),()):=by
 rw [znQ];dsimp only
 rw [zc7 k n m hm,qaa];dsimp only;cases h:P.zaz k n m
 . rw [P.zsP h];rfl
 . have:=P.zay h
   rw [P.zcq h,W_id (n:=n+1) (by omega)];rfl
theorem zne(x:Nat)(hx:x<18446744073709551616):F_header_Decode ((x:Int),())=some (((P.decK x,P.decN x,P.decM x,()),P.okD x,()),()):=by
 rw [zkZ];dsimp only
 obtain ⟨⟨⟨(l:List Int),(e:Int),_⟩,_⟩,he,h1,h2⟩:=ziV x hx [2,2,12,32] (by simp)
 rw [he,qaa];dsimp only at h1 h2 ⊢
 have hf:P.fitL 64 [2,2,12,32]=true:=by decide
 have hs:P.sumW [2,2,12,32]=48:=by decide
 unfold P.unpV at h1;unfold P.unpE at h2;rw [hf,if_pos rfl,hs]at h1 h2;by_cases hz:x >>> 48=0
 . have hz':x<281474976710656:=by
    rw [qbO]at hz;omega
   rw [if_pos hz]at h1 h2;have uv:P.zkQ x [2,2,12,32]=[((x % 4:Nat):Int),(P.dK x:Int),(P.dN x:Int),(P.dM x:Int)]:=by
    show [((x &&& P.zfE 2:Nat):Int),((x >>> 2 &&& P.zfE 2:Nat):Int),((x >>> 2 >>> 2 &&& P.zfE 12:Nat):Int),((x >>> 2 >>> 2 >>> 12 &&& P.zfE 32:Nat):Int)]=_
    rw [P.zlF,P.zlF,P.zlF,P.zlF,<-Nat.shiftRight_add,<-Nat.shiftRight_add,qbO,qbO,qbO]
    rfl
   rw [uv]at h1;subst h1 h2;have hmb:(0:Int)<=(P.dM x:Int)/\(P.dM x:Int)<4294967296:=by unfold P.dM;omega
   have w1:W (P.dK x:Int)=P.dK x:=W_id (by unfold P.dK;omega)
   have w2:W (P.dN x:Int)=P.dN x:=W_id (by unfold P.dN;omega)
   have w3:U32 (P.dM x:Int)=P.dM x:=by rw [U32,IntKind.wrap_u32];omega
   have i0:∀ a b c d:Int,inB 0 ([a,b,c,d]:List Int).length=true:=fun _ _ _ _=>rfl
   have i1:∀ a b c d:Int,inB 1 ([a,b,c,d]:List Int).length=true:=fun _ _ _ _=>rfl
   have i2:∀ a b c d:Int,inB 2 ([a,b,c,d]:List Int).length=true:=fun _ _ _ _=>rfl
   have i3:∀ a b c d:Int,inB 3 ([a,b,c,d]:List Int).length=true:=fun _ _ _ _=>rfl
   have g0:∀ a b c d:Int,([a,b,c,d]:List Int).getD (Int.toNat 0) 0=a:=fun _ _ _ _=>rfl
   have g1:∀ a b c d:Int,([a,b,c,d]:List Int).getD (Int.toNat 1) 0=b:=fun _ _ _ _=>rfl
   have g2:∀ a b c d:Int,([a,b,c,d]:List Int).getD (Int.toNat 2) 0=c:=fun _ _ _ _=>rfl
   have g3:∀ a b c d:Int,([a,b,c,d]:List Int).getD (Int.toNat 3) 0=d:=fun _ _ _ _=>rfl
   simp only [i0,i1,i2,i3,g0,g1,g2,g3,w1,w2,w3,zc7 _ _ _ hmb,qaa,bne_self_eq_false,qaf,qah];by_cases h4:x % 4=1
   . rw [h4];cases hv:P.zaz (P.dK x) (P.dN x) (P.dM x)
     . have hok:=P.zxq (x:=x) (.inr (.inr hv))
       obtain ⟨f1,f2,f3⟩:=P.zrZ hok;rw [hok,f1,f2,f3];rfl
     . have hok:=P.zzx h4 hz' hv;obtain ⟨f1,f2,f3⟩:=P.zrY hok;rw [hok,f1,f2,f3];rfl
   . have hok:=P.zxq (x:=x) (.inl h4)
     obtain ⟨f1,f2,f3⟩:=P.zrZ hok;have:((((x % 4:Nat):Int)) != 1)=true:=by simp;omega
     rw [this,hok,f1,f2,f3];rfl
 . have hz':¬x<281474976710656:=by
    intro c;apply hz
    rw [qbO];omega
   rw [if_neg hz]at h1 h2;subst h1 h2;have hok:=P.zxq (x:=x) (.inr (.inl hz'))
   obtain ⟨f1,f2,f3⟩:=P.zrZ hok;rw [hok,f1,f2,f3];rfl
theorem zqn(k s u p o n:Int)(ho:0<=o/\o<=100000000)(hn:0<=n/\n<=100000000):F_object_fits ((k,s,u,p,()),o,n,())=some (((if k=1 then decide (o+n<=u) else if k=2 then decide (o=0/\n=u) else false),()),()):=by
 rw [znP];dsimp only
 rw [W_id (n:=o+n) (by omega)]
 by_cases h1:k=1
 . subst h1;rfl
 . rw [if_neg h1,show (k == 1)=false from by simpa using h1]
   by_cases h2:k=2
   . subst h2;rw [if_pos rfl,Bool.decide_and];simp only [cand];rfl
   . rw [if_neg h2,show (k == 2)=false from by simpa using h2];rfl
end Go.VI
namespace Go.VI
open Go
theorem need_or{c e:Bool}(h:e=true):(bif c then true else e)=true:=by subst h;cases c <;> rfl
theorem znb(h:HpD):F_object_reader (h,())=some (((h,()),()),()):=by
 rw [zkX]
theorem zgW(h:HpD)(hw:HpW h)(a:Int)(ha:0<=a/\a<18446744073709551616):F_object_reader_S1_c (a,h,())=some ((P.zaq h.2.1 a,P.zgS h.2.1 a,()),h,()):=by
 rw [zf5];dsimp only
 rw [zkK _ _ hw.wl ha,qaa]
theorem zy8{h:HpD}(hw:HpW h)(hok:P.okH (toHp h)=true){a:Int}(hof:P.ofE (toHp h).pw (toHp h).np a=0):
 (0<=P.ofI (toHp h).pw (toHp h).np a/\P.ofI (toHp h).pw (toHp h).np a<h.2.2.1.length)/\(0<=P.ofK (toHp h).pw (toHp h).np a/\P.ofK (toHp h).pw (toHp h).np a<=64)/\P.zgS h.2.1 a=0/\P.zaq h.2.1 a=P.za1 (toHp h) a/\P.za1 (toHp h) a<18446744073709551616:=by
 obtain ⟨q1,⟨i,j,e1,e2,e3,e4,e5⟩,-⟩:=P.zxr hok hof;have hlm:(toHp h).pages.length=h.2.2.1.length:=qai ..
 have c:=P.zaj (P.zam hok).1;have hwb:P.WB (toHp h).words:=hw.wb;obtain ⟨w1,w2,w3⟩:=P.zwL hwb hok hof;rw [e1,e2];exact ⟨by omega,by omega,w2,w1,w3⟩
theorem zfi(h:HpD)(hw:HpW h)(a:Int)(ha:0<=a/\a<18446744073709551616):Tot (fun r=>r.1.2.1=P.atE (toHp h) a/\toHd r.1.1=P.atH (toHp h) a) (F_object_At (h,a,())):=by
 obtain ⟨⟨pw,np,_⟩,ws,ps,sp,bu,_⟩:=h;rw [zrs];dsimp only
 generalize hX:toHp ((pw,np,()),ws,ps,sp,bu,())=X
 have bad:∀ (c:Int),P.atE X a=c/\P.atH X a=P.Hd.zero->Tot (fun r:Au×Unit=>r.1.2.1=P.atE X a/\toHd r.1.1=P.atH X a) (some (((0,0,0,()),c,()),())):=fun c he=>zab ⟨he.1.symm,he.2.symm⟩
 refine zad (zcB _ hw) ?_;rintro ⟨⟨(b:Bool),_⟩,_⟩ hb;have hb:b=P.okH X:=hX ▸ hb
 subst hb;refine zac (fun h1=>bad 1 (P.ztU (by simpa using h1))) fun h1=>?_
 simp only [qaw]at h1;have xw:X.pw=pw:=hX ▸ rfl
 have xn:X.np=np:=hX ▸ rfl
 have hc:=(P.zam h1).1;rw [xw,xn]at hc;rw [ziT pw np a ha,qaa];dsimp only;refine zac (fun h2=>?_) fun h2=>?_
 . simp only [qaC,ne_eq]at h2;have e2:P.ofE pw np a=2:=by
    cases hq:P.inAr pw np a
    . exact (P.zf3 (a:=a) hc hq).2.2
    . exact absurd (P.zl7 hc hq).2.2 h2
   rw [e2];exact bad 2 (P.zjV h1 (by rw [xw,xn];exact h2))
 simp only [qaA]at h2;have hof:P.ofE X.pw X.np a=0:=by rw [xw,xn];exact h2
 have I:=zy8 hw (hX ▸ h1) (a:=a) (hX ▸ hof)
 rw [hX,xw,xn]at I;obtain ⟨hi,ho,l1,l2,hy⟩:=I;dsimp only at hi l1 l2
 rw [znb,qaa];dsimp only;rw [zgW _ hw a ha,qaa];dsimp only;rw [l1,l2];refine zac (fun c=>by simp at c) fun _=>?_
 have hpg:P.zb0 X a=toPg (ps.getD (P.ofI pw np a).toNat PG0):=by
  unfold P.zb0;rw [xw,xn];have:X.pages=ps.map toPg:=hX ▸ rfl
  rw [this,zaB]
 have hatB:P.atB X a=atBx (P.zb0 X a).kind (P.zb0 X a).used (P.ofK X.pw X.np a) (P.za1 X a):=rfl
 rw [hpg,xw,xn]at hatB;have hH:=P.zoS h1 hof;have hN:=P.zr8 h1 hof;rw [hatB]at hH hN;generalize P.za1 X a=y at *
 generalize P.ofK pw np a=o at *
 rw [zne y hy,qaa];dsimp only;refine zae (need_or (zaf.2 hi)) ?_;generalize ps.getD (P.ofI pw np a).toNat PG0=G at *
 obtain ⟨gk,gs,gu,gp,_⟩:=G;have hab:atBx (toPg (gk,gs,gu,gp,())).kind (toPg (gk,gs,gu,gp,())).used o y=atBx gk gu o y:=rfl
 rw [hab]at hH hN;unfold atBx at hH hN;refine zac (fun h3=>bad 19 (hN ?_)) fun h3=>?_
 . simp only [qao]at h3;rw [h3];simp
 simp only [qaw]at h3;obtain ⟨d1,d2,d3⟩:=P.zct h3;obtain ⟨f1,f2,f3⟩:=P.zrY h3;have hmb:(0:Int)<=(P.dM y:Int)/\(P.dM y:Int)<4294967296:=by unfold P.dM;omega
 have vp:=P.zay d3;rw [f1,f2,f3,zdx _ _ _ hmb,qaa,P.zcq d3];dsimp only;rw [zqn gk gs gu gp o _ (by omega) (by omega),qaa]
 dsimp only;refine zac (fun h4=>bad 19 (hN ?_)) fun h4=>zab ?_
 . by_cases k1:gk=1
   . subst k1;simp only [if_true,qao]at h4 ⊢;rw [h4];simp
   . rw [if_neg k1]at h4 ⊢
     by_cases k2:gk=2
     . subst k2;simp only [if_true,qao]at h4 ⊢;rw [h4];simp
     . rw [show decide (gk=1\/gk=2)=false from qaj (by omega)];rfl
 . have:(decide (gk=1\/gk=2)&&decide (o<gu)&&P.okD y&&if gk=1 then decide (o+((P.dN y:Int)+1)<=gu) else decide (o=0/\(P.dN y:Int)+1=gu))=true:=by
    by_cases k1:gk=1
    . subst k1;simp only [if_true,qaw,qab]at h4;rw [h3,qad (show o<gu by omega),if_pos rfl,qad h4];rfl
    . rw [if_neg k1]at h4;by_cases k2:gk=2
      . subst k2;simp only [if_true,qaw,qab]at h4;rw [h3,qad (show o<gu by omega),if_neg k1,qad h4];rfl
      . rw [if_neg k2]at h4;simp at h4
   obtain ⟨g1,g2⟩:=hH this;rw [g1,g2];exact ⟨rfl,rfl⟩
theorem zsn(h:HpD)(hw:HpW h)(a:Int)(ha:0<=a/\a<18446744073709551616):Tot (fun r=>r.1.2.1=P.getE (toHp h) a/\toHd r.1.1=P.getH (toHp h) a) (F_object_Get (h,a,())):=by
 rw [zpC];dsimp only
 try rw [zar]
 refine zad (zfi h hw a ha) ?_;rintro ⟨⟨⟨(k:Int),(n:Int),(m:Int),_⟩,(e:Int),_⟩,_⟩ hr;dsimp only at hr ⊢
 obtain ⟨r1,r2⟩:=hr;have r2:P.atH (toHp h) a=⟨k,n,m⟩:=r2.symm
 generalize toHp h=X at *
 have out:∀ (c:Int),¬c=0->P.getE X a=c->Tot (fun r:Au×Unit=>r.1.2.1=P.getE X a/\toHd r.1.1=P.getH X a) (some (((0,0,0,()),c,()),())):=fun c h0 he=>by
  refine zab ⟨he.symm,?_⟩;unfold P.getH;rw [if_neg (by rw [he];exact h0)];rfl
 simp only [cand];cases hok:P.okH X
 . have g:=P.zu7 (h:=X) (a:=a) hok
   have t:=P.ztU (h:=X) (a:=a) hok
   rw [t.1]at r1;rw [t.2]at r2;subst r1;simp only [P.Hd.zero,P.Hd.mk.injEq]at r2;obtain ⟨e1,e2,e3⟩:=r2;subst e1 e2 e3;exact out 1 (by decide) g.1
 by_cases h0:a=0
 . subst h0;have g:=P.zrM (h:=X) hok
   have c:=P.zaj (P.zam hok).1;have hno:¬P.ofE X.pw X.np 0=0:=by
    rw [(P.zf3 (a:=0) (P.zam hok).1 (by unfold P.inAr;exact qaj (by omega))).2.2];decide
   have t:=P.zjV (h:=X) (a:=0) hok hno
   rw [t.1]at r1;subst r1;exact out 5 (by decide) g.1
 have h0':(a == 0)=false:=by simpa using h0
 rw [h0',Bool.and_false];refine zac (fun c=>by simp at c) fun _=>zac (fun h3=>out 4 (by decide) ?_) fun h3=>zab ?_
 . simp only [qae,qax]at h3;exact (P.zrN hok h0 (by rw [<-r1];exact h3.1) (by rw [r2];exact h3.2)).1
 . obtain ⟨g1,g2⟩:=P.ztE (a:=a) hok h0 (by
    rintro ⟨q1,q2⟩;rw [r2]at q2;rw [<-r1]at q1;have q2:k=0:=q2
    rw [q1,q2]at h3;simp at h3)
   rw [g1,g2,r1,r2];exact ⟨rfl,rfl⟩
theorem zso(h:HpD):F_made_Light (h,())=some ((decide (h.2.1.length<=5000/\h.2.2.1.length<=100),()),()):=by
 rw [zpD];dsimp only
 rw [cand,Bool.decide_and];have e1:decide ((h.2.1.length:Int)<=5000)=decide (h.2.1.length<=5000):=qcf.2 (by omega)
 have e2:decide ((h.2.2.1.length:Int)<=100)=decide (h.2.2.1.length<=100):=qcf.2 (by omega)
 rw [e1,e2]
end Go.VI
namespace Go.VI
open Go
theorem zyr{x y:PgD}(h:toPg x=toPg y):x=y:=by
 obtain ⟨a,b,c,d,_⟩:=x;obtain ⟨a',b',c',d',_⟩:=y;simp only [toPg,P.Pg.mk.injEq]at h;obtain ⟨rfl,rfl,rfl,rfl⟩:=h
 rfl
theorem zys{x y:HpD}(h:toHp x=toHp y):x=y:=by
 obtain ⟨⟨a,b,_⟩,c,d,e,f,_⟩:=x;obtain ⟨⟨a',b',_⟩,c',d',e',f',_⟩:=y;simp only [toHp,P.Hp.mk.injEq]at h;obtain ⟨rfl,rfl,rfl,h4,rfl,rfl⟩:=h;have:d=d':=List.map_inj_right (fun _ _=>zyr) |>.1 h4
 rw [this]
theorem zwn(l:List Int)(hl:l.length<=100000000):Tot (fun r=>r.1.1=true) (F_r01_Same (l,l,())):=by
 rw [zmi];dsimp only
 refine zac (fun h=>by simp at h) fun _=>?_
 refine zad (P:=fun r=>match r with | .inl _=>False | .inr _=>True) (zai (fun x=>∃ k:Nat,x.1.2.1=(k:Int)/\k<=l.length) (fun x=>((l.length:Int)-x.1.2.1).toNat) ⟨0,rfl,by omega⟩ ?_) fun r hr=>zaQ (fun x hx=>?_) fun x hx=>zab rfl
 . rintro ⟨⟨(q:Bool),(i:Int),_⟩,_⟩ ⟨k,e,hk⟩;dsimp only at e ⊢
   subst e;refine zac (fun h1=>?_) fun h1=>zab trivial
   simp only [qab]at h1;have hin:inB (k:Int) l.length=true:=zaf.2 ⟨by omega,by omega⟩
   refine zae hin (zae hin (zac (fun h=>by simp at h) fun _=>zab ?_))
   rw [W_id (by omega)]
   exact ⟨⟨k+1,by dsimp only;omega,by omega⟩,by dsimp only;omega⟩
 . subst hx;exact hr.elim
theorem zm7(l:List PgD)(hl:l.length<=100000000):Tot (fun r=>r.1.1=true) (F_r04_SamePages (l,l,())):=by
 rw [zkW];dsimp only
 refine zac (fun h=>by simp at h) fun _=>?_
 refine zad (P:=fun r=>match r with | .inl _=>False | .inr _=>True) (zai (fun x=>∃ k:Nat,x.1.2.1=(k:Int)/\k<=l.length) (fun x=>((l.length:Int)-x.1.2.1).toNat) ⟨0,rfl,by omega⟩ ?_) fun r hr=>zaQ (fun x hx=>?_) fun x hx=>zab rfl
 . rintro ⟨⟨(q:Bool),(i:Int),_⟩,_⟩ ⟨k,e,hk⟩;dsimp only at e ⊢
   subst e;refine zac (fun h1=>?_) fun h1=>zab trivial
   simp only [qab]at h1;have hin:inB (k:Int) l.length=true:=zaf.2 ⟨by omega,by omega⟩
   refine zae hin (zae hin (zac (fun h=>by simp at h) fun _=>zab ?_))
   rw [W_id (by omega)]
   exact ⟨⟨k+1,by dsimp only;omega,by omega⟩,by dsimp only;omega⟩
 . subst hx;exact hr.elim
theorem zwm(h:HpD)(h1:h.2.1.length<=100000000)(h2:h.2.2.1.length<=100000000):Tot (fun r=>r.1.1=true) (F_r04_Same (h,h,())):=by
 obtain ⟨⟨pw,np,_⟩,l,ps,sp,bu,_⟩:=h;dsimp only at h1 h2
 rw [ztj];dsimp only
 refine zac (fun h=>by simp at h) fun _=>zac (fun h=>by simp at h) fun _=>zac (fun h=>by simp at h) fun _=>zad (zm7 ps h2) ?_
 rintro ⟨⟨(b:Bool),_⟩,_⟩ hb;have hb:b=true:=hb
 subst hb;refine zac (fun h=>by simp at h) fun _=>?_
 refine zad (P:=fun r=>match r with | .inl _=>False | .inr _=>True) (zai (fun x=>∃ k:Nat,x.1.2.1=(k:Int)/\k<=l.length) (fun x=>((l.length:Int)-x.1.2.1).toNat) ⟨0,rfl,by omega⟩ ?_) fun r hr=>zaQ (fun x hx=>?_) fun x hx=>zab rfl
 . rintro ⟨⟨(q:Bool),(i:Int),_⟩,_⟩ ⟨k,e,hk⟩;dsimp only at e ⊢
   subst e;refine zac (fun h1=>?_) fun h1=>zab trivial
   simp only [qab]at h1;have hin:inB (k:Int) l.length=true:=zaf.2 ⟨by omega,by omega⟩
   refine zae hin (zae hin (zac (fun h=>by simp at h) fun _=>zab ?_))
   rw [W_id (by omega)]
   exact ⟨⟨k+1,by dsimp only;omega,by omega⟩,by dsimp only;omega⟩
 . subst hx;exact hr.elim
theorem zeY(ws:List Int)(hl:ws.length<=100000000):F_arena_duplicate (ws,())=some ((ws,()),()):=by
 rw [zij];dsimp only
 rw [qad (show 0<=(ws.length:Int)/\(ws.length:Int)<=ws.length by omega),qac,zak.2 (by omega),qbb,List.take_length,qbe (by rw [qbb];exact qan _),qaX]
 rfl
theorem zqp(ws:List Int)(a:Int)(l:List Int)(hl:ws.length<=100000000)(hl2:l.length<=100000000)(ha:0<=a/\a<18446744073709551616):F_arena_Write (ws,a,l,())=some ((P.zaC ws a l,P.zdo ws a l,()),()):=by
 rw [znT];dsimp only
 rw [zc8 ws a l.length hl hl2 ha,qaa,zeY ws hl,qaa];dsimp only;unfold P.zaC P.zdo;cases h:P.okA ws.length a l.length
 . rfl
 . have:=P.zav.1 h
   simp only [if_true];obtain ⟨i,hi⟩:∃ i:Nat,a-4096=(i:Int):=⟨(a-4096).toNat,by omega⟩
   rw [hi,qac,show ((ws.length:Int)-(i:Int)).toNat=ws.length-i from by omega,qad (show 0<=(i:Int)/\(i:Int)<=ws.length/\(ws.length:Int)<=ws.length by omega),qa2 (l:=l) (by omega),show min l.length (ws.length-i)=l.length from by omega]
   have:Go.splice ws i l=ws.take i++(l++ws.drop (i+l.length)):=rfl
   rw [this];rfl
theorem zcA(ps:List PgD)(hl:ps.length<=100000000):F_slices_Clone_api_Page (ps,())=some ((ps,()),()):=by
 unfold F_slices_Clone_api_Page zfv;have:∀ b,b<=1000->zaA (0+ps.length) b=true:=fun b hb=>zak.2 (by
  rw [qaG];calc ps.length*b<=100000000*1000:=Nat.mul_le_mul hl hb
   _<=_:=by decide)
 show cond (zaA (0+ps.length) _) _ _=_
 rw [this _ (by decide)];rfl
end Go.VI
namespace Go.VI
open Go
abbrev FiD:=Int×Int×Unit
def toFi(f:Int×Nat):FiD:=(f.1,(f.2:Int),())
theorem bits_or(a b:Nat)(ha:a<18446744073709551616)(hb:b<18446744073709551616):zcg IntKind.u64 (fun (x1 x2:BitVec IntKind.u64.bits)=>x1 ||| x2) (a:Int) (b:Int)=((a ||| b:Nat):Int):=by
 have hx:a ||| b<2 ^ 64:=Nat.or_lt_two_pow (by omega) (by omega)
 show IntKind.u64.wrap ((BitVec.ofInt 64 (a:Int) ||| BitVec.ofInt 64 (b:Int)).toNat:Int)=_
 have e:∀ c:Nat,c<18446744073709551616->(BitVec.ofInt 64 (c:Int)).toNat=c:=fun c hc=>by
  rw [BitVec.toNat_ofInt];omega
 rw [BitVec.toNat_or,e a ha,e b hb,IntKind.wrap_u64];omega
theorem fi_at(fs:B4){k:Nat}(hk:k<fs.length):∃ x,fs[k]?=some x/\(fs.map toFi).getD k (0,0,())=toFi x:=by
 refine ⟨fs[k],qas hk,?_⟩;rw [qay,qbd,qas hk];rfl
theorem zdl(fs:B4)(k:Nat)(x:Int×Nat)(hx:fs[k]?=some x):F_bits_Pack_S1_c ((k:Int),fs.map toFi,())=some ((x.1,()),fs.map toFi,()):=by
 obtain ⟨hk,-⟩:=qar.1 hx;obtain ⟨y,hy,e⟩:=fi_at fs hk;obtain rfl:x=y:=by rw [hx]at hy;exact Option.some.inj hy
 rw [zjF];dsimp only
 rw [zaf.2 ⟨by omega,by rw [qai];omega⟩,qac,e];rfl
theorem zni(fs:B4)(hl:fs.length<=100000000):Tot (fun r=>r.1.1=P.fitL 64 (fs.map (·.1))/\r.2.1=fs.map toFi) (F_bits_fit_c_bits_Pack_S1 (((fs.map toFi).length:Int),fs.map toFi,())):=by
 rw [zdZ];dsimp only
 rw [qai];have hlm:(fs.map (·.1)).length=fs.length:=qai ..
 refine zad (P:=fun r=>match r with
  | .inl x=>(x.1.1=false/\P.fitL 64 (fs.map (·.1))=false)/\x.2.2.1.1=fs.map toFi
  | .inr x=>P.fitL 64 (fs.map (·.1))=true/\x.2.2.1.1=fs.map toFi) (zai (fun x=>∃ k:Nat,x.1.2.2.1=(k:Int)/\k<=fs.length/\x.2.2.1.1=fs.map toFi/\0<=x.1.2.1/\x.1.2.1<=64/\P.fitL x.1.2.1 ((fs.map (·.1)).drop k)=P.fitL 64 (fs.map (·.1))) (fun x=>((fs.length:Int)-x.1.2.2.1).toNat) ⟨0,rfl,by omega,rfl,by dsimp only;omega,by dsimp only;omega,rfl⟩ ?_) fun r hr=>zaQ (fun x hx=>?_) fun x hx=>?_
 . rintro ⟨⟨(q:Bool),(lf:Int),(i:Int),_⟩,_,⟨(l:List FiD),_⟩,_⟩ ⟨k,e,hk,el,h0,h64,hp⟩;dsimp only at e el h0 h64 hp ⊢
   rw [e,el];refine zac (fun h1=>?_) fun h1=>zab ?_
   . simp only [qab]at h1;have hk':k<fs.length:=by omega
     obtain ⟨x,hx,-⟩:=fi_at fs hk';have hx':(fs.map (·.1))[k]?=some x.1:=by rw [qbd,hx];rfl
     rw [zdl fs k x hx,qaa];dsimp only;refine zac (fun h2=>zab ⟨⟨rfl,?_⟩,rfl⟩) fun h2=>?_
     . rw [<-hp];exact P.zpZ hx' (.inl (by simpa using h2))
     simp only [qag]at h2;rw [zdl fs k x hx,qaa];dsimp only;refine zac (fun h3=>zab ⟨⟨rfl,?_⟩,rfl⟩) fun h3=>?_
     . rw [<-hp];exact P.zpZ hx' (.inr (by simpa using h3))
     simp only [qag]at h3;rw [zdl fs k x hx,qaa];dsimp only;rw [W_id (n:=lf-x.1) (by omega),W_id (n:=(k:Int)+1) (by omega)]
     refine zab ⟨⟨k+1,by dsimp only;omega,by omega,rfl,by dsimp only;omega,by dsimp only;omega,?_⟩,by dsimp only;omega⟩
     rw [<-hp];exact (P.zu9 hx' h2 (by omega)).symm
   . simp only [qag]at h1;refine ⟨?_,rfl⟩;rw [<-hp];exact P.zvb (by omega)
 . subst hx;exact zab ⟨hr.1.1.trans hr.1.2.symm,hr.2⟩
 . subst hx;exact zab ⟨hr.1.symm,hr.2⟩
theorem zuc(fs:B4)(hl:fs.length<=1000)(hv:∀ f∈fs,f.2<18446744073709551616):Tot (fun r=>r.1.1=(P.zq2 fs).1/\r.1.2.1=(P.zq2 fs).2) (F_bits_Pack (fs.map toFi,())):=by
 rw [zru];dsimp only
 refine zad (zni fs (by omega)) ?_
 rintro ⟨⟨(b:Bool),_⟩,(l:List FiD),_⟩ ⟨hb,el⟩;dsimp only at hb el ⊢
 rw [hb,el,qai];refine zac (fun h1=>zab ?_) fun h1=>?_
 . simp only [qao]at h1;rw [P.zyK (by rw [h1];decide)];exact ⟨rfl,rfl⟩
 simp only [qaw]at h1;rw [W_id (n:=(fs.length:Int)-1) (by omega)]
 refine zad (P:=fun r=>match r with
  | .inl x=>P.okF fs=false/\x.1.1=0/\x.1.2.1=2
  | .inr y=>P.okF fs=true/\y.1.2.2.1=((P.zkT fs:Nat):Int)) (zai (fun y=>∃ j:Nat,y.1.2.2.2.1=(j:Int)/\j<=fs.length/\P.okF (fs.drop (fs.length-j))=true/\y.1.2.2.1=((P.zkT (fs.drop (fs.length-j)):Nat):Int)) (fun y=>((fs.length:Int)-y.1.2.2.2.1).toNat) ⟨0,rfl,by omega,by rw [qbe (by omega)];rfl,by rw [qbe (by omega)];rfl⟩ ?_) ?_
 . rintro ⟨⟨(y1:Int),(y2:Int),(v:Int),(i:Int),_⟩,_⟩ ⟨j,e,hj,ho,ev⟩;dsimp only at e ev ⊢
   rw [e];refine zac (fun h2=>?_) fun h2=>zab ?_
   . simp only [qab]at h2;obtain ⟨k,hk⟩:∃ k:Nat,k+1+j=fs.length:=⟨fs.length-1-j,by omega⟩
     have w1:W ((fs.length:Int)-1-j)=(k:Nat):=by rw [W_id (by omega)];omega
     have hk':k<fs.length:=by omega
     obtain ⟨x,hx,hg⟩:=fi_at fs hk';rw [w1,qac,hg];rw [show fs.length-j=k+1 from by omega]at ho ev
     have hin:inB (k:Int) fs.length=true:=zaf.2 ⟨by omega,by omega⟩
     refine zae hin ?_;have hx1:(toFi x).1=x.1:=rfl
     have hx2:(toFi x).2.1=(x.2:Int):=rfl
     rw [hx1,hx2,zfj,qaa];dsimp only;refine zac (fun h3=>zab ⟨?_,rfl,rfl⟩) fun h3=>?_
     . simp only [qab]at h3;exact P.zyJ hx (by omega)
     simp only [qag]at h3;obtain ⟨fa1,fa2⟩:=P.zu8 h1 k;rw [zlE hx]at fa1 fa2;have hxb:=fa1 x.1 (by simp)
     refine zae (by simp;omega) (zab ?_)
     have hlt:=P.zuL (fs.drop (k+1)) ho (fun z hz=>(P.zu8 h1 (k+1)).1 z hz)
     simp only [qaW,P.sumW]at fa2;generalize hR:P.zkT (fs.drop (k+1))=R at *
     generalize hS:P.sumW ((fs.drop (k+1)).map (·.1))=S at *
     have hpow:R*2 ^ x.1.toNat<18446744073709551616:=by
      calc R*2 ^ x.1.toNat<2 ^ S*2 ^ x.1.toNat:=Nat.mul_lt_mul_of_pos_right hlt (qce (by omega))
       _=2 ^ (S+x.1.toNat):=(Nat.pow_add ..).symm
       _<=2 ^ 64:=qb5 (by omega) (by omega)
       _=_:=by decide
     have hu:U (v*2 ^ min x.1.toNat IntKind.u64.bits)=((R <<< x.1.toNat:Nat):Int):=by
      have hb:IntKind.u64.bits=64:=rfl
      rw [hb,show min x.1.toNat 64=x.1.toNat from by omega,ev,<-P.zge,<-qcp,Nat.shiftLeft_eq]
      exact U_id (by omega)
     have hp:P.zkT (fs.drop k)=R <<< x.1.toNat ||| x.2:=by rw [zlE hx,P.zkT,hR]
     have hx3:=hv x (qba hx);rw [hu,bits_or _ _ (by rw [Nat.shiftLeft_eq];exact hpow) hx3]
     rw [W_id (n:=(j:Int)+1) (by omega)]
     refine ⟨⟨j+1,by dsimp only;omega,by omega,?_,?_⟩,by dsimp only;omega⟩
     . rw [show fs.length-(j+1)=k from by omega,zlE hx]
       unfold P.okF at ho ⊢
       rw [qb2,ho,Bool.and_true];exact qad (by omega)
     . rw [show fs.length-(j+1)=k from by omega,hp]
   . simp only [qag]at h2;obtain rfl:j=fs.length:=by omega
     rw [qbQ,qbV]at ho ev;exact ⟨ho,ev⟩
 . intro r hr;refine zaQ (fun x hx=>?_) fun x hx=>?_
   . subst hx;obtain ⟨h2,h3,h4⟩:=hr;rw [P.zxi h1 h2];exact zab ⟨h3,h4⟩
   . subst hx;obtain ⟨h2,h3⟩:=hr;rw [P.zuM h1 h2];exact zab ⟨h3,rfl⟩
end Go.VI
namespace Go.VI
open Go
theorem zxK{o:Option A5}(h:Tot (fun r=>r.1.1=true) o):o=some ((true,()),()):=by
 obtain ⟨⟨⟨(b:Bool),_⟩,_⟩,rfl,e⟩:=h;have e:b=true:=e
 rw [e]
abbrev LX:=AS×Unit×Unit
abbrev LY:=AO×Unit×Unit⊕AO×Unit×Unit
theorem zuB{n:Nat}{q0:Bool}{g:LX->Option (LX⊕LY)}(hn:n<=1000000000)(h:∀ (q:Bool) (k:Nat),k<n->Tot (fun r=>∃ q',r = .inl ((q',(k:Int)+1,()),(),())) (g ((q,(k:Int),()),(),()))):
 Tot (fun (r:LY)=>∃ y,r = .inr y) (rl LX LY (fun x=>bif decide (x.1.2.1<(n:Int)) then bif inB x.1.2.1 n then g x else none else some (Sum.inr (Sum.inr ((x.1.1,()),(),())))) ((q0,0,()),(),())):=by
 refine zai (fun x=>∃ k:Nat,x.1.2.1=(k:Int)/\k<=n) (fun x=>((n:Int)-x.1.2.1).toNat) ⟨0,rfl,by omega⟩ ?_
 rintro ⟨⟨(q:Bool),(i:Int),_⟩,_⟩ ⟨k,e,hk⟩;dsimp only at e ⊢
 subst e;refine zac (fun h1=>?_) fun h1=>zab ⟨_,rfl⟩
 simp only [qab]at h1;refine zae (zaf.2 ⟨by omega,by omega⟩) ((h q k (by omega)).mono ?_)
 rintro _ ⟨q',rfl⟩;exact ⟨⟨k+1,by dsimp only;omega,by omega⟩,by dsimp only;omega⟩
end Go.VI
namespace Go.VI
open Go
theorem wf_u{n:Int}(h:(Lit.int .u64 n).wf=true):0<=n/\n<18446744073709551616:=by
 simp only [Lit.wf,qae,qab]at h;have e1:IntKind.u64.min=0:=rfl
 have e2:IntKind.u64.max=18446744073709551615:=rfl
 omega
end Go.VI
namespace Go.VI.P
open Go
open Go.RowKit
structure Good (h:Hp):Prop where
 ok:okH h=true
 sp:∀ (k:Nat) (g:Pg),h.pages[k]?=some g->g.kind=0\/g.space=h.space
 pg:∀ k:Nat,k<h.pages.length->zbp h k=0
 cls:∀ (k:Nat) (g:Pg),h.pages[k]?=some g->∀ x∈zaK h k,(g.kind=1->zaP (atH h x).k (atH h x).n (atH h x).m<=zev h.pw h.np)/\(g.kind=2->¬(atH h x).k=0)
 zero:∀ p:Int,4096<=p->p<4096+h.np*h.pw->(∃ x∈zaW h,x<=p/\p<x+zd9 h x)\/zaq h.words p=0
 ptr:∀ a∈zag h,∀ i:Int,ptrB (atH h a).k (atH h a).n (atH h a).m i=true->zaq h.words (a+1+i)=0\/zaq h.words (a+1+i)∈zag h
 crowd:(zaZ h.pages:Int)<=h.np / 4
theorem zdM{h:Hp}{k:Nat}{g:Pg}(e:h.pages[k]?=some g):pgAt h k=g:=by
 unfold pgAt;rw [qac];exact zao e
theorem zoK{P:Int->Bool}:∀ {l:List Int},(∀ x∈l,¬x=0)->(zmD P l=0↔∀ x∈l,P x=false)
 | [],_=>by simp [zmD]
 | a::l,h=>by
  rw [zmD];cases hp:P a
  . simp only [qbl,qbf];rw [zoK fun x hx=>h x (qaD _ hx)]
    constructor
    . intro h2 x hx;rcases qap.1 hx with e | e
      . rw [e];exact hp
      . exact h2 x e
    . intro h2 x hx;exact h2 x (qaD _ hx)
  . simp only [if_true];constructor
    . intro e;exact absurd e (h a (qbi ..))
    . intro h2;have:=h2 a (qbi ..);rw [hp]at this;cases this
theorem zhx(h:Hp)(i:Nat)(hb:0<=h.pw):∀ (l:List Bool) (k:Nat),zdf h i k l=0↔∀ t b,l[t]?=some b->b=true\/zkS h i ((k+t:Nat):Int)=0
 | [],k=>by simp [zdf]
 | c::l,k=>by
  rw [zdf];have hpos:0<=(i:Int)*h.pw:=qbj (by omega) hb
  by_cases hc:c=false/\¬zkS h i k=0
  . rw [if_pos hc];constructor
    . intro e;omega
    . intro h2;have:=h2 0 c rfl
      rw [hc.1]at this;rcases this with e | e
      . cases e
      . exact absurd e hc.2
  . rw [if_neg hc,zhx h i hb l (k+1)];constructor
    . intro h2 t b ht;cases t with
      | zero=>
       simp only [qcm,Option.some.injEq]at ht;subst ht;by_cases q:zkS h i k=0
       . right;exact q
       . left
         cases c
         . exact absurd ⟨rfl,q⟩ hc
         . rfl
      | succ t=>
       rw [qbr]at ht;have:=h2 t b ht
       rwa [show k+1+t=k+(t+1) from by omega]at this
    . intro h2 t b ht;have:=h2 (t+1) b (by rw [qbr];exact ht)
      rwa [show k+(t+1)=k+1+t from by omega]at this
theorem zec(h:Hp):∀ (n i:Nat),(zaD h i n).fault=0↔∀ k,i<=k->k<i+n->(zed h k).fault=0
 | 0,i=>by
  constructor
  . intro _ k h1 h2;omega
  . intro _;rfl
 | n+1,i=>by
  rw [zaD];by_cases e:(zed h i).fault=0
  . rw [if_neg (by simpa using e),zec h n (i+1)]
    constructor
    . intro h2 k h3 h4;by_cases hk:k=i
      . rw [hk];exact e
      . exact h2 k (by omega) (by omega)
    . intro h2 k h3 h4;exact h2 k (by omega) (by omega)
  . rw [if_pos e];constructor
    . intro h2;exact absurd h2 e
    . intro h2;exact h2 i (qan _) (by omega)
theorem zgl(all:List Int)(x:Hd):∀ (l:List Int) (k:Nat),za0 all x k l=none↔∀ t f,l[t]?=some f->ptrB x.k x.n x.m ((k+t:Nat):Int)=true->f=0\/f∈all
 | [],k=>by simp [za0]
 | c::l,k=>by
  rw [za0];by_cases hc:ptrB x.k x.n x.m k=true/\¬c=0/\¬c∈all
  . rw [if_pos hc];constructor
    . intro e;cases e
    . intro h2;rcases h2 0 c rfl hc.1 with e | e
      . exact absurd e hc.2.1
      . exact absurd e hc.2.2
  . rw [if_neg hc,zgl all x l (k+1)];constructor
    . intro h2 t f ht hp;cases t with
      | zero=>
       simp only [qcm,Option.some.injEq]at ht;subst ht;by_cases q:c=0
       . left;exact q
       . by_cases q2:c∈all
         . right;exact q2
         . exact absurd ⟨hp,q,q2⟩ hc
      | succ t=>
       rw [qbr]at ht;exact h2 t f ht (by rwa [show k+1+t=k+(t+1) from by omega])
    . intro h2 t f ht hp;exact h2 (t+1) f (by rw [qbr];exact ht) (by rwa [show k+(t+1)=k+1+t from by omega])
theorem zlZ(h:Hp)(all:List Int):∀ l:List Int,(zbZ h all l).fault=0↔∀ x∈l,za0 all (getH h x) 0 (zbB h x)=none
 | []=>by simp [zbZ,Fd.none]
 | c::l=>by
  rw [zbZ];cases hc:za0 all (getH h c) 0 (zbB h c) with
  | some k=>
   constructor
   . intro e;cases e
   . intro h2;have:=h2 c (qbi ..);rw [hc]at this;cases this
  | none=>
   simp only
   rw [zlZ h all l];constructor
   . intro h2 x hx;rcases qap.1 hx with e | e
     . rw [e];exact hc
     . exact h2 x e
   . intro h2 x hx;exact h2 x (qaD _ hx)
theorem zpp{h:Hp}{a:Int}(ha:a∈zag h):getE h a=0/\getH h a=atH h a:=by
 obtain ⟨e1,e2⟩:=zce ha;obtain ⟨h1,-⟩:=zjU e1;have hb:=ztT e1;obtain ⟨g1,g2⟩:=ztE (a:=a) h1 (by omega) (fun c=>e2 c.2)
 exact ⟨by rw [g1];exact e1,g2⟩
theorem zl8{h:Hp}{a:Int}(ha:a∈zag h){t:Nat}(ht:(t:Int)<(atH h a).n):(zbB h a)[t]?=some (zaq h.words (a+1+t)):=by
 obtain ⟨g1,g2⟩:=zpp ha;obtain ⟨i,j,G,b⟩:=zas ha;have hwl:=b.wl;have hp:=b.pos;unfold osz at hwl;unfold zbB;rw [if_pos g1,g2];obtain ⟨n,hn⟩:=qaM (show 0<=(atH h a).n by omega)
 rw [hn]at ht hwl ⊢
 obtain ⟨s,hs⟩:∃ s:Nat,a+1=4096+(s:Int):=⟨(a+1-4096).toNat,by omega⟩
 have hok:okA h.words.length (4096+(s:Int)) n=true:=zav.2 (by omega)
 rw [hs,(read_ok hok).1,qa8,if_pos (by omega),qbm]
 have hlt:s+t<h.words.length:=by omega
 have ho:okA h.words.length (4096+((s+t:Nat):Int)) 1=true:=zav.2 (by omega)
 rw [show 4096+(s:Int)+t=4096+((s+t:Nat):Int) from by omega,(zuX ho (qas hlt)).1,qas hlt]
theorem zoL{h:Hp}{a:Int}(ha:a∈zag h):((zbB h a).length:Int)=(atH h a).n:=by
 obtain ⟨g1,g2⟩:=zpp ha;obtain ⟨i,j,G,b⟩:=zas ha;have hwl:=b.wl;have hp:=b.pos;unfold osz at hwl hp;unfold zbB;rw [if_pos g1,g2];obtain ⟨n,hn⟩:=qaM (show 0<=(atH h a).n by omega)
 rw [hn]at hwl ⊢
 obtain ⟨s,hs⟩:∃ s:Nat,a+1=4096+(s:Int):=⟨(a+1-4096).toNat,by omega⟩
 have hok:okA h.words.length (4096+(s:Int)) n=true:=zav.2 (by omega)
 rw [hs,(read_ok hok).1,qau,qaI];omega
theorem ziu{ps:List Pg}{k:Nat}(h0:¬(ps.getD k Pg.zero).kind=3):∀ (d:Nat),(∀ t,k<t->t<=k+d->(ps.getD t Pg.zero).kind=3)->zbJ ps (k+d)=k
 | 0,_=>by
  cases k with
  | zero=>rfl
  | succ j=>rw [qa7,zbJ,if_neg h0]
 | d+1,hd=>by
  rw [show k+(d+1)=(k+d)+1 from rfl,zbJ,if_pos (hd (k+d+1) (by omega) (by omega))]
  exact ziu h0 d fun t h1 h2=>hd t h1 (by omega)
theorem zcO{h:Hp}(h1:okH h=true)(h2:∀ k:Nat,k<h.pages.length->zbp h k=0){x:Int}:x∈zaW h↔∃ k:Nat,k<h.pages.length/\x∈zaK h k:=by
 rw [(zfO h1 h2).2];unfold zby;rw [List.mem_flatMap];constructor
 . rintro ⟨k,hk,hx⟩;exact ⟨k,qbG.1 hk,hx⟩
 . rintro ⟨k,hk,hx⟩;exact ⟨k,qbG.2 hk,hx⟩
theorem zeP{h:Hp}{i:Nat}{t:Nat}(hc:confB h.pw h.np=true)(hi:(i:Int)<h.np)(ht:(t:Int)<h.pw):zkS h i (t:Int)=zaq h.words (4096+(i:Int)*h.pw+t):=by
 unfold zkS;rw [(zhz hc (by unfold inPg;exact qad ⟨by omega,hi,by omega,ht⟩)).1]
theorem zop{pw np p:Int}(hc:confB pw np=true)(h0:4096<=p)(h1:p<4096+np*pw):∃ (i t:Nat),p=4096+(i:Int)*pw+t/\(i:Int)<np/\(t:Int)<pw:=by
 have c:=zaj hc;have e1:=Int.mul_ediv_add_emod (p-4096) pw;have e2:=Int.emod_nonneg (p-4096) (b:=pw) (by omega)
 have e3:=Int.emod_lt_of_pos (p-4096) (b:=pw) (by omega)
 have e4:=qbT (a:=p-4096) (b:=pw) (by omega) (by omega)
 have e5:(p-4096) / pw<np:=qcl (by omega) (by omega)
 rw [Int.mul_comm]at e1;generalize (p-4096) / pw=I at *
 refine ⟨I.toNat,((p-4096) % pw).toNat,?_,by omega,by omega⟩
 rw [qcD e4,qcD e2];omega
theorem zfL(h:Hp)(i:Nat)(l:List Int){t:Nat}(ht:(t:Int)<h.pw):(zhb h i l)[t]?=some (zo3 h i l t):=by
 unfold zhb;rw [qbd,List.getElem?_range (by omega)];rfl
theorem zhQ{h:Hp}{i t:Nat}{l:List Int}:zo3 h i l t=true↔∃ x∈l,x<=4096+(i:Int)*h.pw+t/\4096+(i:Int)*h.pw+t<x+zd9 h x:=by
 unfold zo3;rw [qcb];constructor
 . rintro ⟨x,hx,h1⟩;exact ⟨x,hx,by simp only [qab]at h1;omega⟩
 . rintro ⟨x,hx,h1⟩;exact ⟨x,hx,qad (by omega)⟩
theorem zxg{h:Hp}(h1:okH h=true):(h.pages.length:Int)=h.np:=(zam h1).2.2.1
theorem zdN{h:Hp}(h1:okH h=true){k:Nat}(hk:k<h.pages.length){x:Int}(hx:x∈zaK h k):∃ j g,Begins h x k j g:=by
 obtain ⟨j,g,b⟩:=(zkp h1 k hk).2 x hx;exact ⟨j,g,b⟩
theorem zqJ{h:Hp}{x:Int}(e:atE h x=0):zd9 h x<=osz h x:=by
 obtain ⟨h1,h2,h3,h4,h5,h6⟩:=zjU e;unfold zd9 osz;split
 . omega
 . rw [zcq h2];omega
theorem zu5(h:Hp):zgT h=true↔Good h:=by
 unfold zgT;rw [qab];by_cases hok:okH h=true
 . have hc:=(zam hok).1;have c:=zaj hc;have hlen:=zxg hok;have hpage:∀ k:Nat,k<h.pages.length->((zed h k).fault=0↔((pgAt h k).kind=0\/(pgAt h k).space=h.space)/\zbp h k=0/\clsV h k (zaK h k)=0/\zhw h k=0):=fun k hk=>by
    unfold zed;by_cases q1:¬(pgAt h k).kind=0/\¬(pgAt h k).space=h.space
    . rw [if_pos q1];constructor
      . intro e;cases e
      . rintro ⟨e,-⟩;rcases e with e | e
        . exact absurd e q1.1
        . exact absurd e q1.2
    rw [if_neg q1];have q1':(pgAt h k).kind=0\/(pgAt h k).space=h.space:=by
     by_cases e:(pgAt h k).kind=0
     . exact .inl e
     . by_cases e2:(pgAt h k).space=h.space
       . exact .inr e2
       . exact absurd ⟨e,e2⟩ q1
    by_cases q2:¬zbp h k=0
    . rw [if_pos q2];constructor
      . intro e;cases e
      . rintro ⟨-,e,-⟩;exact absurd e q2
    rw [if_neg q2];by_cases q3:¬clsV h k (zaK h k)=0
    . rw [if_pos q3];constructor
      . intro e;cases e
      . rintro ⟨-,-,e,-⟩;exact absurd e q3
    rw [if_neg q3];by_cases q4:¬zhw h k=0
    . rw [if_pos q4];constructor
      . intro e;cases e
      . rintro ⟨-,-,-,e⟩;exact absurd e q4
    rw [if_neg q4];constructor
    . intro _;exact ⟨q1',Decidable.not_not.1 q2,Decidable.not_not.1 q3,Decidable.not_not.1 q4⟩
    . intro _;rfl
   have hcls:∀ k:Nat,k<h.pages.length->(clsV h k (zaK h k)=0↔∀ x∈zaK h k,((pgAt h k).kind=1->zaP (atH h x).k (atH h x).n (atH h x).m<=zev h.pw h.np)/\((pgAt h k).kind=2->¬(atH h x).k=0)):=fun k hk=>by
    unfold clsV;rw [zoK fun x hx e=>by have:=ztT (ze9 hx);omega]
    refine forall_congr' fun x=>forall_congr' fun hx=>?_
    unfold clsB;by_cases a1:(pgAt h k).kind=1 <;> by_cases a2:(pgAt h k).kind=2 <;> by_cases a3:zaP (atH h x).k (atH h x).n (atH h x).m<=zev h.pw h.np <;> by_cases a4:(atH h x).k=0 <;> simp [a1,a2,a3,a4]
   have hdirt:∀ k:Nat,k<h.pages.length->(zhw h k=0↔∀ t:Nat,(t:Int)<h.pw->(∃ x∈zaK h (zbJ h.pages k),x<=4096+(k:Int)*h.pw+t/\4096+(k:Int)*h.pw+t<x+zd9 h x)\/zaq h.words (4096+(k:Int)*h.pw+t)=0):=fun k hk=>by
    unfold zhw;rw [zhx h k (by omega)]
    constructor
    . intro h2 t ht;rcases h2 t _ (zfL h k _ ht) with e | e
      . exact .inl (zhQ.1 e)
      . right
        rw [qaG,zeP hc (by omega) ht]at e
        exact e
    . intro h2 t b hb;have ht:(t:Int)<h.pw:=by
       have:=(qar.1 hb).1
       rw [zlI]at this;omega
      rw [zfL h k _ ht]at hb;injection hb with hb
      subst hb;rcases h2 t ht with e | e
      . exact .inl (zhQ.2 e)
      . right
        rw [qaG,zeP hc (by omega) ht]
        exact e
   have hptr:(zbu h).fault=0↔∀ a∈zag h,∀ i:Int,ptrB (atH h a).k (atH h a).n (atH h a).m i=true->zaq h.words (a+1+i)=0\/zaq h.words (a+1+i)∈zag h:=by
    unfold zbu;rw [zlZ];refine forall_congr' fun a=>forall_congr' fun ha=>?_
    rw [zgl,(zpp ha).2];constructor
    . intro h2 i hi;have hb:=ptr_bd hi;have hn:i<(atH h a).n:=by
       unfold ptrB at hi;simp only [qae,qab]at hi;exact hi.1.2
      obtain ⟨t,rfl⟩:=qaM hb.1;exact h2 t _ (zl8 ha hn) (by rw [qaG];exact hi)
    . intro h2 t f ht hp;rw [qaG]at hp;have hlt:=(qar.1 ht).1;have:=zoL ha
      rw [zl8 ha (by omega)]at ht
      injection ht with ht
      subst ht;exact h2 t hp
   unfold zeT;rw [if_pos hok];constructor
   . intro hf;have f1:(zaD h 0 h.pages.length).fault=0:=qbU fun c=>by rw [if_pos c]at hf;exact c hf
     rw [if_neg (by simpa using f1)]at hf
     have f2:(zbu h).fault=0:=qbU fun c=>by rw [if_pos c]at hf;exact c hf
     rw [if_neg (by simpa using f2)]at hf
     have f3:¬h.np / 4<(zaZ h.pages:Int):=fun c=>by rw [if_pos c]at hf;cases hf
     have fp:=fun k hk=>(hpage k hk).1 ((zec h _ 0).1 f1 k (by omega) (by omega))
     have fe:∀ k:Nat,k<h.pages.length->zbp h k=0:=fun k hk=>(fp k hk).2.1
     refine ⟨hok,fun k g hg=>?_,fe,fun k g hg=>?_,fun p p0 p1=>?_,hptr.1 f2,by omega⟩
     . have hk:=(qar.1 hg).1;have:=(fp k hk).1
       rw [zdM hg]at this;exact this
     . have hk:=(qar.1 hg).1;have:=(hcls k hk).1 (fp k hk).2.2.1
       rw [zdM hg]at this;exact this
     . obtain ⟨i,t,e,hi,ht⟩:=zop hc p0 p1;have hk:i<h.pages.length:=by omega
       rcases (hdirt i hk).1 (fp i hk).2.2.2 t ht with ⟨x,hx,h2⟩ | e2
       . left
         refine ⟨x,(zcO hok fe).2 ⟨zbJ h.pages i,Nat.lt_of_le_of_lt (zrK _ _) hk,hx⟩,?_⟩;rw [e];exact h2
       . right;rw [e];exact e2
   . intro G;have fe:=G.pg;have f1:(zaD h 0 h.pages.length).fault=0:=by
      rw [zec];intro k _ hk;have hk:k<h.pages.length:=by omega
      have hg:h.pages[k]?=some h.pages[k]:=qas hk
      refine (hpage k hk).2 ⟨?_,fe k hk,(hcls k hk).2 ?_,(hdirt k hk).2 fun t ht=>?_⟩
      . rw [zdM hg];exact G.sp k _ hg
      . rw [zdM hg];exact G.cls k _ hg
      . have hpp:=zaR (p:=(k:Int)) hc (by omega) (by omega)
        rcases G.zero (4096+(k:Int)*h.pw+t) (by omega) (by omega) with ⟨x,hx,h2,h3⟩ | e
        . left
          obtain ⟨k2,hk2,hx2⟩:=(zcO hok fe).1 hx;obtain ⟨j,g,b⟩:=zdN hok hk2 hx2;have hz:=zqJ (ze9 hx2);obtain ⟨u1,u2,u3,u4⟩:=b.upto;have hhd:zbJ h.pages k=k2:=by
           have hlo:k2<=k:=by
            refine qbU fun c=>?_
            have:((k:Int)+1)*h.pw<=(k2:Int)*h.pw:=qaV (by omega) (by omega)
            rw [qbg,qbk]at this;omega
           have hhi:(k:Int)<k2+zjo h g:=by
            refine qbU fun c=>?_
            have:((k2:Int)+zjo h g)*h.pw<=(k:Int)*h.pw:=qaV (by omega) (by omega)
            omega
           obtain ⟨d,rfl⟩:∃ d,k=k2+d:=⟨k-k2,by omega⟩
           refine ziu ?_ d fun t2 q1 q2=>?_
           . rw [zao b.pg];rcases b.kd with ⟨e,-⟩ | ⟨e,-⟩ <;> omega
           . obtain ⟨y,y1,y2⟩:=u4 t2 q1 (by omega)
             rw [zao y1];exact y2
          exact ⟨x,by rw [hhd];exact hx2,h2,h3⟩
        . exact .inr e
     rw [if_neg (by simpa using f1),if_neg (by simpa using hptr.2 G.ptr),if_neg (by have:=G.crowd;omega)]
     rfl
 . constructor
   . intro e;unfold zeT at e;rw [if_neg hok]at e;cases e
   . intro G;exact absurd G.ok hok
end Go.VI.P
namespace Go.VI.P
open Go
open Go.RowKit
def Tile(sz:Int->Int):Int->Int->List Int->Prop
 | a,b,[]=>a=b
 | a,b,q::r=>q=a/\1<=sz q/\Tile sz (a+sz q) b r
theorem zxv{h:Hp}(hok:okH h=true){k:Nat}{g:Pg}(hg:h.pages[k]?=some g)(h1:g.kind=0\/g.kind=3):zbp h k=0/\zaK h k=[]:=by
 have hkl:=(qar.1 hg).1;exact zfX hok (by omega) (by rw [zdM hg];exact h1)
end Go.VI.P
namespace Go.VI.P
open Go
open Go.RowKit
theorem zxa{k n m i:Int}(h:ptrB k n m i=true):zaz k n m=true/\0<=i/\i<n:=by
 unfold ptrB at h;simp only [qae,qab]at h;exact ⟨h.1.1.1,h.1.1.2,h.1.2⟩
end Go.VI.P
namespace Go.VI.P
open Go
open Go.RowKit
def bs(h:Hp)(k:Nat):Int:=4096+(k:Int)*h.pw
def Fw(os qs:List Int)(v w:Int):Prop:=(v=0/\w=0)\/∃ t:Nat,os[t]?=some v/\qs[t]?=some w
structure CI (h:Hp) (x:Wk) (os:List Int) (D:Nat->Int->Prop):Prop where
 inv:Inv h x
 len:os.length=x.queue.length
 dl:∀ i j,D i j->i<os.length
 oin:∀ o∈os,o∈zag h
 qnd:x.queue.Nodup
 seen:∀ a∈zag h,a∈os↔(a∈x.queue\/okT (evWd x a).toNat=true)
 plc:∀ (i:Nat) (o q:Int),os[i]?=some o->x.queue[i]?=some q->q=o\/(okT (evWd x o).toNat=true/\tgtV (evWd x o).toNat=q/\zb7 x q/\∀ i' j' g',Begins h o i' j' g'->g'.kind=1)
 hd:∀ (i:Nat) (o q:Int),os[i]?=some o->x.queue[i]?=some q->evWd x q=zaq h.words o
 fl:∀ (i:Nat) (o q:Int),os[i]?=some o->x.queue[i]?=some q->∀ j,0<=j->j<(atH h o).n->(D i j->ptrB (atH h o).k (atH h o).n (atH h o).m j=true->Fw os x.queue (zaq h.words (o+1+j)) (zaq x.h.words (q+1+j)))/\((D i j->ptrB (atH h o).k (atH h o).n (atH h o).m j=false)->zaq x.h.words (q+1+j)=zaq h.words (o+1+j))
 un:∀ a∈zag h,¬a∈os->∀ j,0<=j->j<osz h a->zaq x.h.words (a+j)=zaq h.words (a+j)
 ot:∀ p,(∀ a∈zag h,p<a\/a+osz h a<=p)->(∀ (k:Nat) (g0:Pg),h.pages[k]?=some g0->g0.kind=0->p<bs h k\/bs h k+h.pw<=p)->zaq x.h.words p=zaq h.words p
 fr:∀ (k:Nat) (g0:Pg) (p:Int),h.pages[k]?=some g0->g0.kind=0->bs h k<=p->p<bs h k+h.pw->(¬(k:Int)∈x.taken\/∃ g,x.h.pages[k]?=some g/\bs h k+g.used<=p)->zaq x.h.words p=0
 tile:∀ k:Nat,(k:Int)∈x.taken->∃ u l,x.h.pages[k]?=some ⟨1,1-h.space,u,0⟩/\Tile (evN x) (bs h k) (bs h k+u) l/\∀ q,q∈l↔q∈x.queue/\bs h k<=q/\q<bs h k+h.pw
 ppg:∀ (k:Nat) (g0:Pg),h.pages[k]?=some g0->¬(k:Int)∈x.taken->∃ s,x.h.pages[k]?=some ⟨g0.kind,s,g0.used,g0.pins⟩/\(g0.kind=0->s=g0.space)/\(g0.kind=1->s=if 0<g0.pins then 1-h.space else h.space) /\
  (g0.kind=2->s=if bs h k∈x.queue then 1-h.space else h.space)/\(g0.kind=3->s=if bs h (zbJ h.pages k)∈x.queue then 1-h.space else h.space)
 kp:∀ q∈x.queue,q∈zag h->∀ i j g,Begins h q i j g->g.kind=2\/(g.kind=1/\0<g.pins)
 wb:WB x.h.words
theorem CI.begin{h:Hp}(G:Good h)(hwb:WB h.words):CI h (zbx h) [] (fun _ _=>False):=by
 have I:=zgk G.ok;have hpw:=I.conf;have hw:(zbx h).h.words=h.words:=rfl
 have hev:∀ a,evWd (zbx h) a=zaq h.words a:=fun a=>rfl
 refine ⟨I,rfl,(fun i j c=>c.elim),(fun o ho=>nomatch ho),qcj,fun a ha=>?_,(fun i o q h1=>by simp at h1),(fun i o q h1=>by simp at h1),(fun i o q h1=>by simp at h1),fun a ha _ j _ _=>rfl,fun p _ _=>rfl,fun k g0 p hg hk h1 h2 _=>?_,(fun k hk=>nomatch hk),fun k g0 hg _=>?_,(fun q hq=>nomatch hq),hwb⟩
 . have:=zl6 (x:=zbx h) ha rfl
   constructor
   . intro c;cases c
   . rintro (c | c)
     . cases c
     . rw [this.2.2.2]at c;cases c
 . show zaq h.words p=0
   have hkl:=(qar.1 hg).1;have hpp:=zaR (p:=(k:Int)) (zam G.ok).1 (by omega) (by omega)
   unfold bs at h1 h2;rcases G.zero p (by omega) (by omega) with ⟨x,hx,q1,q2⟩ | e
   . exfalso
     obtain ⟨i,j,g,b⟩:=zmS (zeu hx);have hz:=zqJ (zeu hx);have:=zbP b hg hk
     have hb:=b.pos;omega
   . exact e
 . have hsp:=G.sp k g0 hg;have e:(zbx h).h.pages[k]?=some (if g0.kind=1/\0<g0.pins then ⟨g0.kind,1-h.space,g0.used,g0.pins⟩ else g0):=by
    show (h.pages.map _)[k]?=_
    rw [qbd,hg];rfl
   by_cases c:g0.kind=1/\0<g0.pins
   . rw [if_pos c]at e;exact ⟨_,e,fun q=>by omega,fun _=>by rw [if_pos c.2],fun q=>by omega,fun q=>by omega⟩
   . rw [if_neg c]at e;refine ⟨g0.space,e,fun _=>rfl,fun q=>?_,fun q=>?_,fun q=>?_⟩
     . rw [if_neg (fun q2=>c ⟨q,q2⟩)];omega
     . show g0.space=if bs h k∈([]:List Int) then _ else _
       rw [if_neg (by simp)];omega
     . show g0.space=if bs h (zbJ h.pages k)∈([]:List Int) then _ else _
       rw [if_neg (by simp)];omega
end Go.VI.P
namespace Go.VI.P
open Go
open Go.RowKit
theorem zv3{h:Hp}{x:Wk}{os:List Int}{D:Nat->Int->Prop}(C:CI h x os D){a:Int}(ha:a∈zag h)(ht:okT (evWd x a).toNat=false)(hbig:zgf x a=false)(hpl:plB x (evN x a)=true):
 ∃ (J:Nat) (u:Int) (g0:Pg),plA x (evN x a)=bs h J+u/\evN x a=osz h a/\0<=u/\u+osz h a<=h.pw/\(J:Int)<h.np/\h.pages[J]?=some g0/\g0.kind=0 /\
  (∀ k:Nat,k≠J->(zbq x a).h.pages[k]?=x.h.pages[k]?)/\(zbq x a).h.pages[J]?=some ⟨1,1-h.space,u+osz h a,0⟩/\(∀ t,t∈(zbq x a).taken↔t∈x.taken\/t=J) /\
  ((J:Int)∈x.taken->x.h.pages[J]?=some ⟨1,1-h.space,u,0⟩)/\(¬(J:Int)∈x.taken->u=0)/\(zbq x a).queue=x.queue++[bs h J+u] /\
  (∀ p,p≠a->(p<bs h J+u\/bs h J+u+osz h a<=p)->zaq (zbq x a).h.words p=zaq x.h.words p) /\
  (∀ j,0<=j->j<osz h a->zaq (zbq x a).h.words (bs h J+u+j)=zaq x.h.words (a+j))/\zaq (zbq x a).h.words a=fwdV (bs h J+u)/\(a+osz h a<=bs h J\/bs h J+h.pw<=a)/\∀ i' j' g',Begins h a i' j' g'->g'.kind=1:=by
 have I:=C.inv;obtain ⟨c1,c2,c3,c4,c5,c6,c7,c8,c9⟩:=I.conf;obtain ⟨i,j,g,b⟩:=zas ha;have hbp:=b.pos;have hbw:=b.wl;have hwl:=I.wl;have e0:evWd x a=zaq h.words a:=(I.un a ha).elim id (fun c=>by rw [ht]at c;exact absurd c.1 (by decide))
 obtain ⟨e1,e2,e3,-⟩:=zl6 ha e0;have hoi:evI x a=i:=by unfold evI;rw [I.pw,I.np];exact b.oi
 obtain ⟨y,f1,f2,f3⟩:=I.pg i g b.pg (I.begun b);have hk1:g.kind=1:=by
  rcases b.kd with ⟨k,-⟩ | ⟨k,-⟩
  . exact k
  . unfold zgf at hbig;rw [hoi,qac,zao f1]at hbig;have:=qa3 hbig
    omega
 have hn:osz h a<=h.pw:=by
  rcases b.kd with ⟨k,l,m⟩ | ⟨k,-⟩ <;> omega
 rw [e2]at hpl ⊢
 obtain ⟨J,y0,p1,p2,p3,p4,p5,p6,p7⟩:=zeD I.plok hpl;have hplen:=I.pl;rw [I.pw]at p6 p7;have eP:(zbq x a).h.pages=(plPs x (osz h a)).set J ⟨y0.kind,y0.space,y0.used+osz h a,y0.pins⟩:=by
  show (plW x (evN x a)).h.pages=_
  rw [e2];show zgK (plPs x (osz h a)) (plJ x (osz h a)).toNat (osz h a)=_
  unfold zgK;rw [p1,qac,zao p4]
 have eT:(zbq x a).taken=plT x (osz h a):=by show (plW x (evN x a)).taken=_;rw [e2];rfl
 have eA:plA x (osz h a)=bs h J+y0.used:=by
  unfold plA bs;rw [p1,qac,zao p4,I.pw]
 have eQ:(zbq x a).queue=x.queue++[bs h J+y0.used]:=by show x.queue++[plA x (evN x a)]=_;rw [e2,eA]
 have hJlt:(J:Int)<h.np:=by omega
 obtain ⟨g0,hg0,hk0,hsame,hJpage,htk,hin,hout⟩:∃ g0,h.pages[J]?=some g0/\g0.kind=0/\(∀ k:Nat,k≠J->(plPs x (osz h a))[k]?=x.h.pages[k]?)/\(y0.kind=1/\y0.space=1-h.space/\y0.pins=0)/\(∀ t,t∈plT x (osz h a)↔t∈x.taken\/t=J) /\
  ((J:Int)∈x.taken->x.h.pages[J]?=some ⟨1,1-h.space,y0.used,0⟩)/\(¬(J:Int)∈x.taken->y0.used=0)/\y0.used+osz h a<=h.pw:=by
  rcases p7 with ⟨r1,r2,r3,r4⟩ | ⟨r1,r2,r3,r4,z,r5,r6⟩
  . have hm:(J:Int)∈x.taken:=List.mem_of_getLast? r3;obtain ⟨k2,g0,g',f0,f1',f2',-⟩:=I.tk _ hm;obtain rfl:J=k2:=by omega
    obtain ⟨u,l,t1,-⟩:=C.tile _ hm;rw [r2]at p4;rw [t1]at p4;injection p4 with p4
    subst p4;refine ⟨g0,f1',f2',fun k _=>by rw [r2],⟨rfl,rfl,rfl⟩,fun t=>?_,fun _=>t1,fun c=>absurd hm c,r4⟩
    unfold plT;rw [if_pos r1]
    constructor
    . exact .inl
    . rintro (q | q)
      . exact q
      . rw [q];exact hm
  . have hnt:¬(J:Int)∈x.taken:=fun hm=>by
     obtain ⟨u,l,t1,-⟩:=C.tile _ hm;rw [r5]at t1;injection t1 with t1;subst t1;cases r6
    have hlt:J<h.pages.length:=by omega
    have hh:h.pages[J]?=some h.pages[J]:=qas hlt
    obtain ⟨g',q1,q2,q3⟩:=I.pg J _ hh hnt;rw [r5]at q1;injection q1 with q1;subst q1
    subst r4;refine ⟨_,hh,by omega,fun k hk=>by rw [r3,qbX (by omega)],⟨rfl,by rw [<-I.sp],rfl⟩,fun t=>?_,fun hm=>absurd hm hnt,fun _=>rfl,by show 0+osz h a<=h.pw;omega⟩
    unfold plT;rw [r1,r2]
    simp
 obtain ⟨hout,hfit⟩:=hout;have hpp:=zaR (p:=(J:Int)) (zam I.ok).1 (by omega) hJlt
 have hfree:=zbP b hg0 hk0;have hbsJ:bs h J=4096+(J:Int)*h.pw:=rfl
 have ka:okA x.h.words.length (bs h J+y0.used) (osz h a).toNat=true:=zav.2 (by omega)
 have kb:okA x.h.words.length a (osz h a).toNat=true:=zav.2 (by omega)
 have kc:okA (zdw x.h.words (bs h J+y0.used) a (osz h a)).length a [fwdV (bs h J+y0.used)].length=true:=by rw [zlv (by omega) ka kb];exact zav.2 (by simp only [qbL];omega)
 have hW:(zbq x a).h.words=zaC (zdw x.h.words (bs h J+y0.used) a (osz h a)) a [fwdV (bs h J+y0.used)]:=by
  show zkB x a=_
  unfold zkB;rw [e2,eA]
 refine ⟨J,y0.used,g0,eA,rfl,p5,hfit,hJlt,hg0,hk0,fun k hk=>?_,?_,fun t=>by rw [eT];exact htk t,hin,hout,eQ,fun p q1 q2=>?_,fun t t0 t1=>?_,?_,by rw [hbsJ];exact hfree,fun i' j' g' b'=>?_⟩
 . rw [eP,qbX (by omega)];exact hsame k hk
 . rw [eP,List.getElem?_set_self (by omega),hJpage.1,hJpage.2.1,hJpage.2.2]
 . rw [hW,zbI kc (by simp only [qbL];omega)]
   exact zin (by omega) ka kb (by omega)
 . rw [hW,zbI kc (by simp only [qbL];omega)]
   exact zkt (by omega) ka kb t0 t1
 . rw [hW];exact zim kc
 . have e1:i'=i:=by have h1:=b.oi;have h2:=b'.oi;omega
   subst e1;have h1:=b.pg;have h2:=b'.pg;rw [h1]at h2;injection h2 with h2
   rw [<-h2];exact hk1
end Go.VI.P
