import Derived.Test.YtfjkjbffdhoejaaGreatV03
import Derived.Test.YtfjkjbffdhoejaaGreatV04
import Derived.Test.YtfjkjbffdhoejaaGreatV08
import Derived.Test.YtfjkjbffdhoejaaGreatV10
import Derived.Test.YtfjkjbffdhoejaaGreatV11
set_option linter.unusedSimpArgs false
set_option linter.unusedVariables false
set_option maxRecDepth 100000
set_option maxHeartbeats 4000000
namespace Go.VI
open Go
theorem zaV(a b c:Int):F_page_within (a,b,c,())=some ((decide (b<=a/\a<=c),()),()):=by
 rw [znK];dsimp only
 rw [cand,Bool.decide_and]
theorem zbJ(pw np:Int):F_page_ValidConf ((pw,np,()),())=some ((confB pw np,()),()):=by
 rw [zjy];dsimp only
 rw [zaV,zaV,qaa,qaa];dsimp only;have e:confB pw np=(decide (16<=pw/\pw<=64)&&(pw.tmod 4 == 0)&&decide (8<=np/\np<=64)):=by
  rw [qa8,zaT];simp only [qae,qab,qaz];omega
 rw [e];cases decide (16<=pw/\pw<=64) <;> cases (pw.tmod 4 == 0) <;> rfl
theorem zm8(pw np:Int):F_page_size ((pw,np,()),())=some ((W (pw*np),()),()):=by
 rw [zrv]
theorem zc9(n:Int):F_page_isSpace (n,())=some ((P.zb8 n,()),()):=by
 rw [zmm];dsimp only
 rw [cor];unfold P.zb8
 rw [Bool.decide_or];rfl
theorem ziW(n:Int):F_page_isPins (n,())=some ((P.zf1 n,()),()):=by
 rw [znL];dsimp only
 rw [zaV,qaa]
 rfl
theorem ze0(pw np:Int):F_page_SmallWords ((pw,np,()),())=some ((P.zeA pw np,()),()):=by
 rw [zib];dsimp only
 rw [zbJ,qaa];dsimp only;cases hc:confB pw np
 . rw [P.zyB (by rw [zaD];exact hc)];rfl
 . have c:=zaT.1 hc;rw [P.zpd (by rw [zaD];exact hc)]
   have hq:W (pw.tdiv 4)=pw / 4:=by rw [qbB (by omega)];exact W_id (by omega)
   rw [hq];rfl
theorem zhK(pw np n:Int):F_page_Need ((pw,np,()),n,())=some ((P.zat pw np n,()),()):=by
 rw [zrw];dsimp only
 rw [zbJ,zaV,ze0,qaa,qaa,qaa];dsimp only;cases hc:confB pw np
 . rw [P.zhw (.inl (by rw [zaD];exact hc))];rfl
 have c:=zaT.1 hc;have hc':P.confB pw np=true:=by rw [zaD];exact hc
 have w4:W (4*pw)=4*pw:=W_id (by omega)
 rw [w4,P.zpd hc'];by_cases h1:1<=n/\n<=4*pw
 . rw [qad h1,P.zhv hc' h1.1];by_cases h2:n<=pw / 4
   . rw [qad h2,P.ztz h2];rfl
   . rw [qai h2,P.zxF (by omega) (by omega) (by omega) (by omega)]
     have w1:W (n+pw)=n+pw:=W_id (by omega)
     have w2:W (n+pw-1)=n+pw-1:=W_id (by omega)
     rw [w1,w2,qbB (by omega)]
     have hd:=Int.ediv_le_self (a:=n+pw-1) pw (by omega)
     have hd0:=qbU (a:=n+pw-1) (b:=pw) (by omega) (by omega)
     rw [W_id (by omega)]
     have hpw:(!pw == 0)=true:=by simp;omega
     rw [hpw];rfl
 . rw [qai h1];have:P.zat pw np n = -1:=by
    by_cases h2:n<1
    . exact P.zhw (.inr h2)
    . rw [P.zhv hc' (by omega)]
      exact P.zvT (by omega) (by omega) (by omega)
   rw [this];rfl
theorem zj3(pw np:Int)(ps:List PgD)(k:Nat)(hk:k<ps.length)(h0:(ps.getD k PG0).1=0):F_page_table_free (((pw,np,()),ps,()),(k:Int),())=some ((P.zrX (toPg (ps.getD k PG0)),()),()):=by
 rw [zia];dsimp only
 rw [zag.2 ⟨by omega,by omega⟩,qac,h0]
 generalize ps.getD k PG0=X
 obtain ⟨a,b,c,d,_⟩:=X;have:P.zrX (toPg (a,b,c,d,()))=((b == 0)&&((c == 0)&&((d == 0)&&true))):=by
  show decide (b=0/\c=0/\d=0)=_
  rw [qa8,qab];simp
 rw [this];rfl
theorem ziT(pw np:Int)(ps:List PgD)(k:Nat)(hk:k<ps.length):F_page_table_small (((pw,np,()),ps,()),(k:Int),())=some ((P.zdj pw (toPg (ps.getD k PG0)),()),()):=by
 rw [zhp];dsimp only
 rw [zag.2 ⟨by omega,by omega⟩,qac]
 generalize ps.getD k PG0=X
 obtain ⟨a,b,c,d,_⟩:=X;dsimp only;rw [zc9,zaV,ziW,qaa,qaa,qaa];dsimp only;have:P.zdj pw (toPg (a,b,c,d,()))=(P.zb8 b&&decide (0<=c/\c<=pw)&&P.zf1 d):=rfl
 rw [this];cases P.zb8 b <;> cases decide (0<=c/\c<=pw) <;> rfl
theorem zlF{α:Type}{l:List α}{k:Nat}{x:α}(h:l[k]?=some x):l.drop k=x::l.drop (k+1):=by
 obtain ⟨hk,e⟩:=qap.1 h;rw [qaU hk,e]
theorem zwX{ps:List PgD}{k:Nat}(hk:k<ps.length):(ps.map toPg)[k]?=some (toPg (ps.getD k PG0)):=by
 rw [<-zaB,qax,qaq (by rw [qaj];exact hk)];rfl
theorem zvy(sp:Int)(l:List PgD)(hl:l.length<=100000000):Tot (fun (r:A8)=>(match r with | .inl x=>x.1.1=false/\P.zbO sp (l.map toPg)=false | .inr _=>P.zbO sp (l.map toPg)=true)) (rl Af A8 (fun (x:Af)=>
 bif decide (x.1.2.1<(l.length:Int)) then
 bif inB x.1.2.1 l.length then
 bif bif (l.getD x.1.2.1.toNat PG0).1 != 3 then true
 else (l.getD x.1.2.1.toNat PG0).2.1 != sp then some (Sum.inr (Sum.inl ((false,()),(),())))
 else some (Sum.inl ((x.1.1,W (x.1.2.1+1),()),(),()))
 else none
 else some (Sum.inr (Sum.inr ((x.1.1,()),(),())))) ((false,0,()),(),())):=by
  refine zai (fun x=>∃ k:Nat,x.1.2.1=(k:Int)/\k<=l.length/\P.zbO sp ((l.map toPg).drop k)=P.zbO sp (l.map toPg)) (fun x=>((l.length:Int)-x.1.2.1).toNat) ⟨0,rfl,by omega,rfl⟩ ?_
  rintro ⟨⟨(b:Bool),(i:Int),_⟩,_⟩ ⟨k,e,hk,hp⟩;dsimp only at e ⊢
  subst e;refine zac (fun h1=>?_) fun h1=>zab ?_
  . simp only [qab]at h1;have hk':k<l.length:=by omega
    rw [zlF (zwX hk')]at hp;unfold P.zbO at hp ⊢
    rw [qb0]at hp;rw [W_id (by omega),qac]
    generalize hX:l.getD k PG0=X at *
    obtain ⟨xk,xs,xu,xp,_⟩:=X;refine zae (zag.2 ⟨by omega,by omega⟩) (zac (fun h2=>zab ?_) fun h2=>zab ?_)
    . refine ⟨rfl,?_⟩;rw [<-hp,qbC];left
      refine qai ?_;simp only [cor,qaZ,qaC,ne_eq]at h2;rintro ⟨q1,q2⟩;rcases h2 with h2 | h2
      . exact h2 q1
      . exact h2 q2
    . simp only [qam];refine ⟨⟨k+1,by omega,by omega,?_⟩,by omega⟩
      rw [<-hp];simp only [cor,qaQ,qaB]at h2;have:decide ((toPg (xk,xs,xu,xp,())).kind=3/\(toPg (xk,xs,xu,xp,())).space=sp)=true:=qad h2
      rw [this,qaY]
  . simp only [qag]at h1;simp only [qal];rw [<-hp,qbx (by rw [qaj];omega)];rfl
theorem ziV(pw np:Int)(ps:List PgD)(k:Nat)(hk:k<ps.length)(hl:ps.length<=100000000):Tot (fun r=>r.1.1=P.zcz pw np (ps.map toPg) k (toPg (ps.getD k PG0))) (F_page_table_large (((pw,np,()),ps,()),(k:Int),())):=by
 rw [zhr];dsimp only
 refine zae (zag.2 ⟨by omega,by omega⟩) ?_
 rw [qac];generalize hX:ps.getD k PG0=X
 obtain ⟨a,b,c,d,_⟩:=X;dsimp only;rw [zhK,qaa,zc9,qaa,ziW,qaa];dsimp only;have hlm:(ps.map toPg).length=ps.length:=qaj ..
 have e:P.zcz pw np (ps.map toPg) k (toPg (a,b,c,d,()))=(P.zb8 b&&decide (1<=P.zat pw np c)&&P.zf1 d&&decide ((k:Int)+P.zat pw np c<=ps.length)&&P.zbO b (((ps.map toPg).drop (k+1)).take ((P.zat pw np c).toNat-1))):=by rw [<-hlm];rfl
 rw [e];have b1:=P.zgf pw np c;have b0:=P.zpQ pw np c;generalize P.zat pw np c=N at *
 refine zac (fun h1=>zab ?_) fun h1=>?_
 . simp only [qar]at h1;rw [h1];rfl
 simp only [qaw]at h1;rw [h1,qaY];refine zac (fun h2=>zab ?_) fun h2=>?_
 . simp only [qab]at h2;rw [qai (show ¬1<=N by omega)];rfl
 simp only [qag]at h2;rw [qad (show 1<=N by omega),qaY]
 have w1:W ((k:Int)+N)=k+N:=W_id (by omega)
 have w2:W ((k:Int)+1)=k+1:=W_id (by omega)
 rw [w1,w2,cor];refine zac (fun h3=>zab ?_) fun h3=>?_
 . simp only [qaZ,qar,qab]at h3;rcases h3 with h3 | h3
   . rw [h3];rfl
   . rw [qai (show ¬(k:Int)+N<=ps.length by omega)];simp
 simp only [qaQ,qaw,qag]at h3;rw [h3.1,qad (show (k:Int)+N<=ps.length by omega)]
 simp only [qaY];refine zae (qad (by omega)) ?_
 have ed:List.drop ((k:Int)+1).toNat (List.take ((k:Int)+N).toNat ps)=(ps.drop (k+1)).take (N.toNat-1):=by
  rw [qbK];congr 1
  omega
 rw [ed];have el:((ps.map toPg).drop (k+1)).take (N.toNat-1)=((ps.drop (k+1)).take (N.toNat-1)).map toPg:=by
  rw [List.map_take,List.map_drop]
 rw [el];refine zad (zvy b ((ps.drop (k+1)).take (N.toNat-1)) (by rw [qau,qaK];omega)) fun r hr=>zaR (fun x hx=>?_) fun x hx=>?_
 . subst hx;exact zab (hr.1.trans hr.2.symm)
 . subst hx;exact zab hr.symm
theorem ziU(pw np:Int)(ps:List PgD)(k:Nat)(hk:k<ps.length)(hl:ps.length<=100000000):Tot (fun r=>r.1.1=P.zf6 pw np (ps.map toPg) k) (F_page_table_owned (((pw,np,()),ps,()),(k:Int),())):=by
 rw [zhq];dsimp only
 unfold P.zf6;refine zad (P:=fun r=>match r with
  | .inl x=>x.1.1=P.zcl pw np (ps.map toPg) k 1
  | .inr _=>P.zcl pw np (ps.map toPg) k 1=false) (zai (fun x=>∃ m b:Nat,x.1.2.1=(b:Int)/\m+b=k+1/\1<=b/\P.zcl pw np (ps.map toPg) m b=P.zcl pw np (ps.map toPg) k 1) (fun x=>((k:Int)+1-x.1.2.1).toNat) ⟨k,1,rfl,rfl,by omega,rfl⟩ ?_) fun r hr=>zaR (fun x hx=>?_) fun x hx=>?_
 . rintro ⟨⟨(q:Bool),(i:Int),_⟩,_⟩ ⟨m,b,e,hm,hb,hp⟩;dsimp only at e ⊢
   subst e;refine zac (fun h1=>?_) fun h1=>zab ?_
   . simp only [qab]at h1;obtain ⟨m,rfl⟩:∃ n,m=n+1:=⟨m-1,by omega⟩
     have w1:W ((k:Int)-b)=(m:Nat):=by rw [W_id (by omega)];omega
     rw [w1,W_id (n:=(b:Int)+1) (by omega),qac]
     rw [P.zcl,zaB]at hp;generalize hX:ps.getD m PG0=X at *
     obtain ⟨xk,xs,xu,xp,_⟩:=X;have hp:(if xk=2 then decide ((b:Int)<P.zat pw np xu) else P.zcl pw np (ps.map toPg) m ((b:Int)+1))=P.zcl pw np (ps.map toPg) k 1:=hp
     refine zae (zag.2 ⟨by omega,by omega⟩) (zac (fun h2=>?_) fun h2=>zab ?_)
     . rw [zhK,qaa];simp only [qaz]at h2;rw [if_pos h2]at hp;exact zab hp
     . simp only [qaI,ne_eq]at h2;rw [if_neg h2]at hp;simp only [qam];exact ⟨⟨m,b+1,by omega,by omega,by omega,by rw [<-hp];rfl⟩,by omega⟩
   . simp only [qag]at h1;obtain rfl:m=0:=by omega
     simp only [qal];rw [<-hp];rfl
 . subst hx;exact zab hr
 . subst hx;exact zab hr.symm
theorem zj2(pw np:Int)(ps:List PgD)(k:Nat)(hk:k<ps.length)(hl:ps.length<=100000000):Tot (fun r=>r.1.1=P.zd6 pw np (ps.map toPg) k (toPg (ps.getD k PG0))) (F_page_table_tail (((pw,np,()),ps,()),(k:Int),())):=by
 rw [zh9];dsimp only
 refine zae (zag.2 ⟨by omega,by omega⟩) ?_
 rw [qac];generalize hX:ps.getD k PG0=X
 obtain ⟨a,b,c,d,_⟩:=X;have e:P.zd6 pw np (ps.map toPg) k (toPg (a,b,c,d,()))=((c == 0)&&(d == 0)&&P.zf6 pw np (ps.map toPg) k):=by
  unfold P.zd6;rw [Bool.decide_and];rfl
 rw [e];dsimp only;refine zac (fun h1=>zac (fun h2=>zad (ziU pw np ps k hk hl) fun r hr=>zab ?_) fun h2=>zab ?_) fun h1=>zab ?_
 . rw [h1,h2];exact hr
 . rw [h1,h2];rfl
 . rw [h1];rfl
theorem zhJ(pw np:Int)(ps:List PgD)(hl:ps.length<=100000000):Tot (fun r=>r.1.1=P.zbt pw np (ps.map toPg)) (F_page_table_proper (((pw,np,()),ps,()),())):=by
 rw [zgV];dsimp only
 unfold P.zbt;have hlm:(ps.map toPg).length=ps.length:=qaj ..
 refine zad (P:=fun r=>match r with
  | .inl x=>x.1.1=false/\P.zaE pw np (ps.map toPg) 0 (ps.map toPg)=false
  | .inr _=>P.zaE pw np (ps.map toPg) 0 (ps.map toPg)=true) (zai (fun x=>∃ k:Nat,x.1.2.1=(k:Int)/\k<=ps.length/\P.zaE pw np (ps.map toPg) k ((ps.map toPg).drop k)=P.zaE pw np (ps.map toPg) 0 (ps.map toPg)) (fun x=>((ps.length:Int)-x.1.2.1).toNat) ⟨0,rfl,by omega,rfl⟩ ?_) fun r hr=>zaR (fun x hx=>?_) fun x hx=>?_
 . rintro ⟨⟨(q:Bool),(i:Int),_⟩,_⟩ ⟨k,e,hk,hp⟩;dsimp only at e ⊢
   subst e;refine zac (fun h1=>?_) fun h1=>zab ?_
   . simp only [qab]at h1;have hk':k<ps.length:=by omega
     rw [P.zvA (zwX hk')]at hp;rw [zaV,qaa,W_id (n:=(k:Int)+1) (by omega),qac]
     have hfree:=zj3 pw np ps k hk';have hsmall:=ziT pw np ps k hk';have hlarge:=ziV pw np ps k hk' hl;have htail:=zj2 pw np ps k hk' hl;generalize hX:ps.getD k PG0=X at *
     obtain ⟨xk,xs,xu,xp,_⟩:=X;dsimp only at hfree ⊢
     have bad:P.zbn pw np (ps.map toPg) k (toPg (xk,xs,xu,xp,()))=false->Tot (Sum.elim (fun x':AW×Unit×Unit=>(∃ k:Nat,x'.1.2.1=(k:Int)/\k<=ps.length/\P.zaE pw np (ps.map toPg) k ((ps.map toPg).drop k)=P.zaE pw np (ps.map toPg) 0 (ps.map toPg))/\((ps.length:Int)-x'.1.2.1).toNat<((ps.length:Int)-(k:Int)).toNat) fun (r:A8)=>match r with
      | .inl x=>x.1.1=false/\P.zaE pw np (ps.map toPg) 0 (ps.map toPg)=false
      | .inr _=>P.zaE pw np (ps.map toPg) 0 (ps.map toPg)=true) (some (Sum.inr (Sum.inl ((false,()),(),())))):=fun hs=>by
      rw [hs]at hp;exact zab ⟨rfl,hp.symm⟩
     have good:P.zbn pw np (ps.map toPg) k (toPg (xk,xs,xu,xp,()))=true->Tot (Sum.elim (fun x':AW×Unit×Unit=>(∃ k:Nat,x'.1.2.1=(k:Int)/\k<=ps.length/\P.zaE pw np (ps.map toPg) k ((ps.map toPg).drop k)=P.zaE pw np (ps.map toPg) 0 (ps.map toPg))/\((ps.length:Int)-x'.1.2.1).toNat<((ps.length:Int)-(k:Int)).toNat) fun (r:A8)=>match r with
      | .inl x=>x.1.1=false/\P.zaE pw np (ps.map toPg) 0 (ps.map toPg)=false
      | .inr _=>P.zaE pw np (ps.map toPg) 0 (ps.map toPg)=true) (some (Sum.inl ((q,(k:Int)+1,()),(),()))):=fun hs=>by
      rw [hs,qaY]at hp;refine zab ?_;simp only [qam];exact ⟨⟨k+1,by omega,by omega,hp⟩,by omega⟩
     have st:P.zbn pw np (ps.map toPg) k (toPg (xk,xs,xu,xp,()))=if xk=0 then P.zrX (toPg (xk,xs,xu,xp,())) else if xk=1 then P.zdj pw (toPg (xk,xs,xu,xp,())) else if xk=2 then P.zcz pw np (ps.map toPg) k (toPg (xk,xs,xu,xp,())) else if xk=3 then P.zd6 pw np (ps.map toPg) k (toPg (xk,xs,xu,xp,())) else false:=rfl
     rw [st]at bad good;refine zae (zag.2 ⟨by omega,by omega⟩) (zac (fun h2=>bad ?_) fun h2=>?_)
     . simp only [qar,qag]at h2;rw [if_neg (by omega),if_neg (by omega),if_neg (by omega),if_neg (by omega)]
     simp only [qaw,qab]at h2;refine zac (fun c0=>?_) fun c0=>?_
     . have c0:=qat c0;rw [if_pos c0]at bad good;rw [hfree c0,qaa];exact zac (fun h3=>bad (by simpa using h3)) fun h3=>good (by simpa using h3)
     have c0:=qa4 c0;rw [if_neg c0]at bad good;refine zac (fun c1=>?_) fun c1=>?_
     . have c1:=qat c1;rw [if_pos c1]at bad good;rw [hsmall,qaa];exact zac (fun h3=>bad (by simpa using h3)) fun h3=>good (by simpa using h3)
     have c1:=qa4 c1;rw [if_neg c1]at bad good;refine zac (fun c2=>?_) fun c2=>?_
     . have c2:=qat c2;rw [if_pos c2]at bad good;refine zad hlarge fun r hr=>?_
       rw [<-hr]at bad good;exact zac (fun h3=>bad (by simpa using h3)) fun h3=>good (by simpa using h3)
     have c2:=qa4 c2;rw [if_neg c2]at bad good;refine zac (fun c3=>?_) fun c3=>?_
     . have c3:=qat c3;rw [if_pos c3]at bad good;refine zad htail fun r hr=>?_
       rw [<-hr]at bad good;exact zac (fun h3=>bad (by simpa using h3)) fun h3=>good (by simpa using h3)
     . have c3:=qa4 c3;omega
   . simp only [qag]at h1;rw [P.zwZ (by omega)]at hp
     simp only [qal];exact hp.symm
 . subst hx;exact zab (hr.1.trans hr.2.symm)
 . subst hx;exact zab hr.symm
theorem zn5(ps:List PgD)(b:Int)(hb:¬b = -1)(hl:ps.length<=100000000):F_page_isSmall (ps,b,())=some ((P.zgo (ps.map toPg) b,()),()):=by
 rw [zmn];dsimp only
 rw [zaV,qaa];dsimp only;have w1:W ((ps.length:Int)-1)=ps.length-1:=W_id (by omega)
 have hlm:(ps.map toPg).length=ps.length:=qaj ..
 rw [w1];unfold P.zgo;rw [hlm,zaB];by_cases h:0<=b/\b<=(ps.length:Int)-1
 . rw [qad h,zag.2 ⟨h.1,by omega⟩]
   have:decide (b = -1\/0<=b/\b<(ps.length:Int)/\(toPg (ps.getD b.toNat PG0)).kind=1)=((ps.getD b.toNat PG0).1 == 1):=by
    rw [qa8,qab,qaz];constructor
    . rintro (e | e)
      . exact absurd e hb
      . exact e.2.2
    . intro e;exact .inr ⟨h.1,by omega,e⟩
   rw [this];rfl
 . rw [qai h];have:decide (b = -1\/0<=b/\b<(ps.length:Int)/\(toPg (ps.getD b.toNat PG0)).kind=1)=false:=qai (by
    rintro (e | e)
    . exact hb e
    . exact h ⟨e.1,by omega⟩)
   rw [this];rfl
theorem zcG(h:HpD)(hw:HpW h):Tot (fun r=>r.1.1=P.okH (toHp h)) (F_page_Proper (h,())):=by
 obtain ⟨⟨pw,np,_⟩,ws,ps,sp,bu,_⟩:=h;have hl:=hw.pl;have hwl:=hw.wl;dsimp only at hl hwl
 have hlm:(ps.map toPg).length=ps.length:=qaj ..
 have e:P.okH (toHp ((pw,np,()),ws,ps,sp,bu,()))=(confB pw np&&decide ((ws.length:Int)=np*pw)&&decide ((ps.length:Int)=np)&&P.zb8 sp&&P.zgo (ps.map toPg) bu&&P.zbt pw np (ps.map toPg)):=by
  show P.zfc pw np ws.length (ps.map toPg) sp bu=_
  rw [<-P.zeG,<-zaD];unfold P.zjp;rw [hlm]
 rw [e];rw [znM];dsimp only
 rw [zbJ,qaa];refine zac (fun h1=>zab ?_) fun h1=>?_
 . simp only [qar]at h1;rw [h1];rfl
 simp only [qaw]at h1;have c2:=zaT.1 h1;have cm:=P.conf_prod (pw:=pw) (np:=np) (by rw [zaD];exact h1)
 rw [h1,qaY,zm8,qaa];dsimp only;rw [cor,Int.mul_comm pw np,W_id (n:=np*pw) (by omega)]
 refine zac (fun h2=>zab ?_) fun h2=>?_
 . simp only [qaZ,qaC,ne_eq]at h2;rcases h2 with h2 | h2
   . rw [qai h2];rfl
   . rw [qai (p:=(ps.length:Int)=np) h2];simp
 simp only [qaQ,qaB]at h2;rw [qad h2.1,qad h2.2,zc9,qaa];simp only [qaY];refine zac (fun h3=>zab ?_) fun h3=>?_
 . simp only [qar]at h3;rw [h3];rfl
 simp only [qaw]at h3;rw [h3,qaY];have fin:∀ b:Bool,b=true->Tot (fun r=>r.1.1=(b&&P.zbt pw np (ps.map toPg))) ((F_page_table_proper (((pw,np,()),ps,()),())).bind fun (r:A5)=>some ((r.1.1,()),())):=fun b hb=>zad (zhJ pw np ps hl) fun r hr=>zab (by rw [hb,qaY];exact hr)
 refine zac (fun h4=>?_) fun h4=>fin _ ?_
 . simp only [qaC,ne_eq]at h4;rw [zn5 ps bu h4 hl,qaa];refine zac (fun h5=>zab ?_) fun h5=>fin _ (by simpa using h5)
   simp only [qar]at h5;rw [h5];rfl
 . simp only [qaB]at h4;subst h4;unfold P.zgo;exact qad (.inl rfl)
theorem ziX(pw np a:Int)(ha:0<=a/\a<18446744073709551616):F_page_Of ((pw,np,()),a,())=some ((P.ofI pw np a,P.ofK pw np a,P.ofE pw np a,()),()):=by
 rw [zvS];dsimp only
 rw [zbJ,zm8,qaa,qaa];dsimp only;cases hc:confB pw np
 . obtain ⟨e1,e2,e3⟩:=P.zyY (pw:=pw) (np:=np) (a:=a) (by rw [zaD];exact hc)
   rw [e1,e2,e3];rfl
 have hc':P.confB pw np=true:=by rw [zaD];exact hc
 obtain ⟨c1,c2⟩:=P.conf_prod hc';have c3:=P.zaj hc';rw [Int.mul_comm pw np,W_id (n:=np*pw) (by omega),U_id (n:=np*pw) (by omega)]
 have hpw:(!pw == 0)=true:=by simp;omega
 by_cases h1:a<4096
 . obtain ⟨e1,e2,e3⟩:=P.zga (a:=a) hc' (by unfold P.inAr;exact qai (by omega))
   rw [e1,e2,e3,qad h1];rfl
 have w4:U (a-4096)=a-4096:=U_id (by omega)
 rw [w4,qai h1];by_cases h2:a-4096 >= np*pw
 . obtain ⟨e1,e2,e3⟩:=P.zga (a:=a) hc' (by unfold P.inAr;exact qai (by omega))
   rw [e1,e2,e3,qad h2];rfl
 obtain ⟨e1,e2,e3⟩:=P.zma (a:=a) hc' (by unfold P.inAr;exact qad (by omega))
 have w5:W (a-4096)=a-4096:=W_id (by omega)
 have hd:=Int.ediv_le_self (a:=a-4096) pw (by omega)
 have hd0:=qbU (a:=a-4096) (b:=pw) (by omega) (by omega)
 rw [qai h2,w5,hpw,e1,e2,e3,qbB (by omega),qb9 (by omega),W_id (n:=(a-4096) / pw) (by omega)]
 rfl
end Go.VI
namespace Go.VI
open Go
theorem zdb(ws:List Int)(a:Int)(n:Nat)(hl:ws.length<=100000000)(hn:n<=100000000)(ha:0<=a/\a<18446744073709551616):F_arena_locate (ws,a,(n:Int),())=some (((if P.okA ws.length a n then a-4096 else 0),(if P.okA ws.length a n then 0 else 2),()),()):=by
 rw [zmr];dsimp only
 rw [qai (show ¬(n:Int)<0 by omega),U_id (n:=(ws.length:Int)) (by omega),U_id (n:=(n:Int)) (by omega)]
 by_cases h1:a<4096
 . have:P.okA ws.length a n=false:=by rw [<-qbs,P.zav];omega
   rw [qad h1,this];rfl
 have u1:U (a-4096)=a-4096:=U_id (by omega)
 rw [qai h1,u1];by_cases h2:a-4096 > (ws.length:Int)
 . have:P.okA ws.length a n=false:=by rw [<-qbs,P.zav];omega
   rw [qad h2,this];rfl
 have u2:U ((ws.length:Int)-(a-4096))=ws.length-(a-4096):=U_id (by omega)
 have w1:W (a-4096)=a-4096:=W_id (by omega)
 rw [qai h2,u2,w1];by_cases h3:(n:Int) > (ws.length:Int)-(a-4096)
 . have:P.okA ws.length a n=false:=by rw [<-qbs,P.zav];omega
   rw [qad h3,this];rfl
 . have:P.okA ws.length a n=true:=by rw [P.zav];omega
   rw [qai h3,this];rfl
theorem zqv(ws:List Int)(a:Int)(hl:ws.length<=100000000)(ha:0<=a/\a<18446744073709551616):F_arena_Index (ws,a,())=some ((P.zrN ws.length a,P.zrO ws.length a,()),()):=by
 rw [znT];dsimp only
 have h:F_arena_locate (ws,a,1,())=_:=zdb ws a 1 hl (by omega) ha
 rw [h];rfl
theorem zkK(ws:List Int)(a:Int)(hl:ws.length<=100000000)(ha:0<=a/\a<18446744073709551616):F_arena_Load (ws,a,())=some ((P.zap ws a,P.zg0 ws a,()),()):=by
 rw [zpM];dsimp only
 rw [zqv ws a hl ha,qaa];dsimp only;unfold P.zrN P.zrO P.zap P.zg0;cases h:P.okA ws.length a 1
 . rfl
 . have:=P.zav.1 h
   simp only [if_true];rw [zag.2 ⟨by omega,by omega⟩];rfl
theorem zcH(k:Nat)(ws:List Int)(hk:k<ws.length):F_bits_Unpack_S1_c ((k:Int),ws,())=some ((ws.getD k 0,()),ws,()):=by
 rw [zhu];dsimp only
 rw [zag.2 ⟨by omega,by omega⟩,qac];rfl
theorem zu9{ws:List Int}{k:Nat}(hk:k<ws.length):ws[k]?=some (ws.getD k 0):=by
 rw [qax,qaq hk];rfl
theorem zwq(ws:List Int)(hl:ws.length<=100000000):Tot (fun r=>r.1.1=P.fitL 64 ws/\r.2.1=ws) (F_bits_fit_c_bits_Unpack_S1 ((ws.length:Int),ws,())):=by
 rw [zdx];dsimp only
 refine zad (P:=fun r=>match r with
  | .inl x=>(x.1.1=false/\P.fitL 64 ws=false)/\x.2.2.1.1=ws
  | .inr x=>P.fitL 64 ws=true/\x.2.2.1.1=ws) (zai (fun x=>∃ k:Nat,x.1.2.2.1=(k:Int)/\k<=ws.length/\x.2.2.1.1=ws/\0<=x.1.2.1/\x.1.2.1<=64/\P.fitL x.1.2.1 (ws.drop k)=P.fitL 64 ws) (fun x=>((ws.length:Int)-x.1.2.2.1).toNat) ⟨0,rfl,by omega,rfl,by dsimp only;omega,by dsimp only;omega,rfl⟩ ?_) fun r hr=>zaR (fun x hx=>?_) fun x hx=>?_
 . rintro ⟨⟨(q:Bool),(lf:Int),(i:Int),_⟩,_,⟨(l:List Int),_⟩,_⟩ ⟨k,e,hk,el,h0,h64,hp⟩;dsimp only at e el h0 h64 hp ⊢
   rw [e,el];refine zac (fun h1=>?_) fun h1=>zab ?_
   . simp only [qab]at h1;have hk':k<ws.length:=by omega
     have hx:=zu9 hk';rw [zcH k ws hk',qaa];dsimp only;generalize ws.getD k 0=v at *
     refine zac (fun h2=>zab ⟨⟨rfl,?_⟩,rfl⟩) fun h2=>?_
     . rw [<-hp];exact P.zp3 hx (.inl (by simpa using h2))
     simp only [qag]at h2;rw [zcH k ws hk',qaa];have hv:ws.getD k 0=v:=by rw [qax,hx];rfl
     dsimp only;rw [hv];refine zac (fun h3=>zab ⟨⟨rfl,?_⟩,rfl⟩) fun h3=>?_
     . rw [<-hp];exact P.zp3 hx (.inr (by simpa using h3))
     simp only [qag]at h3;rw [zcH k ws hk',qaa];dsimp only;rw [hv,W_id (n:=lf-v) (by omega),W_id (n:=(k:Int)+1) (by omega)]
     refine zab ⟨⟨k+1,by dsimp only;omega,by omega,rfl,by dsimp only;omega,by dsimp only;omega,?_⟩,by dsimp only;omega⟩
     rw [<-hp];exact (P.zvc hx h2 (by omega)).symm
   . simp only [qag]at h1;refine ⟨?_,rfl⟩;rw [<-hp];exact P.zve (by omega)
 . subst hx;exact zab ⟨hr.1.1.trans hr.1.2.symm,hr.2⟩
 . subst hx;exact zab ⟨hr.1.symm,hr.2⟩
theorem zfq(n:Int):F_bits_Ones (n,())=some ((P.zf8 n,()),()):=by
 rw [zrA];dsimp only
 by_cases h:n<0
 . rw [qad h,P.zxt n h];rfl
 . rw [qai h];have e:U (U (1*2 ^ min n.toNat IntKind.u64.bits)-1)=P.zf8 n:=by
    have hb:IntKind.u64.bits=64:=rfl
    rw [hb,qbi];unfold P.zf8;by_cases hc:n.toNat<64
    . rw [show min n.toNat 64=n.toNat from by omega]
      have h1:=P.zxS n.toNat hc;have h2:=P.zxR n.toNat;rw [U_id (n:=2 ^ n.toNat) (by omega),U_id (by omega)]
    . rw [show min n.toNat 64=64 from by omega];rfl
   rw [e];rfl
theorem zqM:∀ (ws:List Int) (x k:Nat) (a:Int),ws[k]?=some a->(P.zkQ x ws)[k]?=some (((x >>> P.sumW (ws.take k)) &&& P.zfL a:Nat):Int)
 | [],x,k,a,h=>by simp at h
 | b::r,x,0,a,h=>by
  simp only [qce,Option.some.injEq]at h;subst h;simp [P.zkQ,P.sumW]
 | b::r,x,k+1,a,h=>by
  rw [qbv]at h;rw [P.zkQ,qbv,zqM r _ k a h,qcv,P.sumW,Nat.shiftRight_add]
theorem ziY(x:Nat)(hx:x<18446744073709551616)(ws:List Int)(hl:ws.length<=1000):Tot (fun r=>r.1.1=P.unpV x ws/\r.1.2.1=P.unpE x ws) (F_bits_Unpack ((x:Int),ws,())):=by
 rw [znP];dsimp only
 refine zad (zwq ws (by omega)) ?_
 rintro ⟨⟨(b:Bool),_⟩,(l:List Int),_⟩ ⟨hb,el⟩;dsimp only at hb el ⊢
 rw [hb,el];refine zac (fun h1=>zab ?_) fun h1=>?_
 . simp only [qar]at h1;unfold P.unpV P.unpE;rw [h1];exact ⟨rfl,rfl⟩
 simp only [qaw]at h1;refine zae (qad (by omega)) (zae (zak.2 (by omega)) ?_)
 refine zad (P:=fun r=>r.1.1=((x >>> P.sumW ws:Nat):Int)/\r.2.2.1=P.zkQ x ws) (zai (fun y=>∃ k:Nat,y.1.2.1=(k:Int)/\k<=ws.length/\y.1.1=((x >>> P.sumW (ws.take k):Nat):Int)/\y.2.2.1.length=ws.length/\∀ j,j<k->y.2.2.1[j]?=(P.zkQ x ws)[j]?) (fun y=>((ws.length:Int)-y.1.2.1).toNat) ⟨0,rfl,by omega,by simp [P.sumW],by simp,fun j hj=>by omega⟩ ?_) ?_
 . rintro ⟨⟨(v:Int),(i:Int),_⟩,_,(L:List Int),_⟩ ⟨k,e,hk,ev,hL,hj⟩;dsimp only at e ev hL hj ⊢
   rw [e,ev];refine zac (fun h2=>?_) fun h2=>zab ?_
   . simp only [qab]at h2;have hk':k<ws.length:=by omega
     have hx':=zu9 hk';have hm:=P.zp4 ws 64 (by omega) h1 _ (qa0 hx')
     rw [qac];generalize ws.getD k 0=a at *
     rw [zfq,qaa];dsimp only;have hin:inB (k:Int) ws.length=true:=zag.2 ⟨by omega,by omega⟩
     refine zae hin (zae (zag.2 ⟨by omega,by omega⟩) (zae hin (zae (by simp;omega) (zab ?_))))
     have hv:x >>> P.sumW (ws.take k)<18446744073709551616:=P.shr_lt x _ hx;have e1:zcN IntKind.u64 (fun (x1 x2:BitVec IntKind.u64.bits)=>x1 &&& x2) ((x >>> P.sumW (ws.take k):Nat):Int) (P.zf8 a)=(((x >>> P.sumW (ws.take k)) &&& P.zfL a:Nat):Int):=by
      rw [P.zot];exact zqh _ _ hv (P.zyW a)
     have e2:(((x >>> P.sumW (ws.take k):Nat):Int)).fdiv (2 ^ min a.toNat IntKind.u64.bits)=((x >>> P.sumW (ws.take (k+1)):Nat):Int):=by
      have hb:IntKind.u64.bits=64:=rfl
      rw [hb,show min a.toNat 64=a.toNat from by omega,<-P.zgk,zdV _ _ (qca (by omega)),P.zw1 hx',Nat.shiftRight_add,qbS (x >>> _)]
     refine ⟨⟨k+1,?_,by omega,e2,?_,?_⟩,?_⟩
     . dsimp only;exact W_id (by omega)
     . dsimp only;rw [List.length_set];exact hL
     . intro j hjk;dsimp only;rw [e1];by_cases hq:j=k
       . subst hq;rw [zqM ws x j a hx',List.getElem?_set_self (by omega)]
       . rw [qbX (by omega)]
         exact hj j (by omega)
     . dsimp only;rw [W_id (by omega)];omega
   . simp only [qag]at h2;obtain rfl:k=ws.length:=by omega
     refine ⟨by rw [List.take_length],?_⟩
     show L=_
     refine qbw fun j=>?_
     by_cases hq:j<ws.length
     . exact hj j hq
     . rw [qbV (by omega),qbV (by rw [P.zwR];omega)]
 . rintro ⟨⟨(v:Int),_⟩,_,(L:List Int),_⟩ ⟨hv,hL⟩;dsimp only at hv hL ⊢
   subst hv hL;unfold P.unpV P.unpE;rw [h1,if_pos rfl,if_pos rfl];refine zac (fun h2=>zab ?_) fun h2=>zab ?_
   . simp only [qaC,ne_eq]at h2;rw [if_neg (by omega),if_neg (by omega)];exact ⟨rfl,rfl⟩
   . simp only [qaB]at h2;rw [if_pos (by omega),if_pos (by omega)];exact ⟨rfl,rfl⟩
theorem zda(k n m:Int)(hm:0<=m/\m<4294967296):F_header_Valid ((k,n,m,()),())=some ((P.zay k n m,()),()):=by
 rw [zmp];dsimp only
 have key:∀ {o:Option A5},Tot (fun r=>r.1.1=P.zay k n m) o->o=some ((P.zay k n m,()),()):=fun h=>by
  obtain ⟨⟨⟨(b:Bool),_⟩,_⟩,rfl,e⟩:=h;have e:b=P.zay k n m:=e
  rw [e]
 refine key (zac (fun h=>?_) fun h=>?_)
 . simp only [qaz]at h;subst h;refine zac (fun h1=>zac (fun h2=>?_) fun h2=>zab ?_) fun h1=>zab ?_
   . simp only [qab,ge_iff_le]at h1 h2;rw [zfq,qaa];refine zab ?_;dsimp only;rw [U_id (n:=m) (by omega)]
     by_cases h3:m<=P.zf8 n
     . rw [qad h3,P.zlo ⟨by omega,by omega,h1,by omega,fun _=>⟨h2,(P.zuQ h1 h2).1 h3⟩,fun c=>absurd rfl c⟩]
     . rw [qai h3,P.map_no h1 h2 (by omega)]
   . simp only [qag]at h2;exact (P.zcs (fun c=>h2 (c.2.2.2.2.1 rfl).1)).symm
   . simp only [qag,ge_iff_le]at h1;exact (P.zcs (fun c=>h1 c.2.2.1)).symm
 . simp only [qaI,ne_eq]at h;refine zac (fun h1=>zab ?_) fun h1=>zab ?_
   . have hk:k=0\/k=2\/k=3:=by
      by_cases c0:k=0
      . exact .inl c0
      . by_cases c2:k=2
        . exact .inr (.inl c2)
        . rw [show (k == 0)=false from by simpa using c0,show (k == 2)=false from by simpa using c2]at h1
          simp only [qaf,qaz]at h1;exact .inr (.inr h1)
     dsimp only;have e:((k == k)&&((n == n)&&((m == 0)&&true)))=(m == 0):=by simp
     rw [e];by_cases q1:0<=n
     . by_cases q2:n<=255
       . rw [qad (show n >= 0 from q1),qad q2]
         by_cases q3:m=0
         . rw [P.zsP hk q1 q2 q3,q3];rfl
         . rw [P.zcs (fun c=>q3 (c.2.2.2.2.2 h))];simp [q3]
       . rw [qad (show n >= 0 from q1),qai q2,P.zcs (fun c=>q2 c.2.2.2.1)];rfl
     . rw [qai (show ¬n >= 0 from q1),P.zcs (fun c=>q1 c.2.2.1)];rfl
   . rw [P.zcs];rintro ⟨q1,q2,-⟩;have hk:k=0\/k=2\/k=3:=by omega
     rcases hk with e | e | e <;> subst e <;> simp at h1
theorem zdA(k n m:Int)(hm:0<=m/\m<4294967296):F_header_Size ((k,n,m,()),())=some ((P.zaP k n m,()),()):=by
 rw [znO];dsimp only
 rw [zda k n m hm,qaa];dsimp only;cases h:P.zay k n m
 . rw [P.zsV h];rfl
 . have:=P.zax h
   rw [P.zcv h,W_id (n:=n+1) (by omega)];rfl
theorem znd(x:Nat)(hx:x<18446744073709551616):F_header_Decode ((x:Int),())=some (((P.decK x,P.decN x,P.decM x,()),P.okD x,()),()):=by
 rw [zkZ];dsimp only
 obtain ⟨⟨⟨(l:List Int),(e:Int),_⟩,_⟩,he,h1,h2⟩:=ziY x hx [2,2,12,32] (by simp)
 rw [he,qaa];dsimp only at h1 h2 ⊢
 have hf:P.fitL 64 [2,2,12,32]=true:=by decide
 have hs:P.sumW [2,2,12,32]=48:=by decide
 unfold P.unpV at h1;unfold P.unpE at h2;rw [hf,if_pos rfl,hs]at h1 h2;by_cases hz:x >>> 48=0
 . have hz':x<281474976710656:=by
    rw [qbS]at hz;omega
   rw [if_pos hz]at h1 h2;have uv:P.zkQ x [2,2,12,32]=[((x % 4:Nat):Int),(P.dK x:Int),(P.dN x:Int),(P.dM x:Int)]:=by
    show [((x &&& P.zfL 2:Nat):Int),((x >>> 2 &&& P.zfL 2:Nat):Int),((x >>> 2 >>> 2 &&& P.zfL 12:Nat):Int),((x >>> 2 >>> 2 >>> 12 &&& P.zfL 32:Nat):Int)]=_
    rw [P.zlG,P.zlG,P.zlG,P.zlG,<-Nat.shiftRight_add,<-Nat.shiftRight_add,qbS,qbS,qbS]
    rfl
   rw [uv]at h1;subst h1 h2;have hmb:(0:Int)<=(P.dM x:Int)/\(P.dM x:Int)<4294967296:=by unfold P.dM;omega
   have w1:W (P.dK x:Int)=P.dK x:=W_id (by unfold P.dK;omega)
   have w2:W (P.dN x:Int)=P.dN x:=W_id (by unfold P.dN;omega)
   have w3:U32 (P.dM x:Int)=P.dM x:=by rw [U32,IntKind.wrap_u32];omega
   have i0:∀ a b c d:Int,inB 0 ([a,b,c,d]:List Int).length=true:=fun _ _ _ _=>rfl
   have i1:∀ a b c d:Int,inB 1 ([a,b,c,d]:List Int).length=true:=fun _ _ _ _=>rfl
   have i2:∀ a b c d:Int,inB 2 ([a,b,c,d]:List Int).length=true:=fun _ _ _ _=>rfl
   have i3:∀ a b c d:Int,inB 3 ([a,b,c,d]:List Int).length=true:=fun _ _ _ _=>rfl
   have g0:∀ a b c d:Int,([a,b,c,d]:List Int).getD (Int.toNat 0) 0=a:=fun _ _ _ _=>rfl
   have g1:∀ a b c d:Int,([a,b,c,d]:List Int).getD (Int.toNat 1) 0=b:=fun _ _ _ _=>rfl
   have g2:∀ a b c d:Int,([a,b,c,d]:List Int).getD (Int.toNat 2) 0=c:=fun _ _ _ _=>rfl
   have g3:∀ a b c d:Int,([a,b,c,d]:List Int).getD (Int.toNat 3) 0=d:=fun _ _ _ _=>rfl
   simp only [i0,i1,i2,i3,g0,g1,g2,g3,w1,w2,w3,zda _ _ _ hmb,qaa,bne_self_eq_false,qaf,qah];by_cases h4:x % 4=1
   . rw [h4];cases hv:P.zay (P.dK x) (P.dN x) (P.dM x)
     . have hok:=P.zxu (x:=x) (.inr (.inr hv))
       obtain ⟨f1,f2,f3⟩:=P.zr6 hok;rw [hok,f1,f2,f3];rfl
     . have hok:=P.zzE h4 hz' hv;obtain ⟨f1,f2,f3⟩:=P.zr5 hok;rw [hok,f1,f2,f3];rfl
   . have hok:=P.zxu (x:=x) (.inl h4)
     obtain ⟨f1,f2,f3⟩:=P.zr6 hok;have:((((x % 4:Nat):Int)) != 1)=true:=by simp;omega
     rw [this,hok,f1,f2,f3];rfl
 . have hz':¬x<281474976710656:=by
    intro c;apply hz
    rw [qbS];omega
   rw [if_neg hz]at h1 h2;subst h1 h2;have hok:=P.zxu (x:=x) (.inr (.inl hz'))
   obtain ⟨f1,f2,f3⟩:=P.zr6 hok;rw [hok,f1,f2,f3];rfl
theorem zqr(k s u p o n:Int)(ho:0<=o/\o<=100000000)(hn:0<=n/\n<=100000000):F_object_fits ((k,s,u,p,()),o,n,())=some (((if k=1 then decide (o+n<=u) else if k=2 then decide (o=0/\n=u) else false),()),()):=by
 rw [znN];dsimp only
 rw [W_id (n:=o+n) (by omega)]
 by_cases h1:k=1
 . subst h1;rfl
 . rw [if_neg h1,show (k == 1)=false from by simpa using h1]
   by_cases h2:k=2
   . subst h2;rw [if_pos rfl,Bool.decide_and];simp only [cand];rfl
   . rw [if_neg h2,show (k == 2)=false from by simpa using h2];rfl
end Go.VI
namespace Go.VI
open Go
theorem need_or{c e:Bool}(h:e=true):(bif c then true else e)=true:=by subst h;cases c <;> rfl
theorem znb(h:HpD):F_object_reader (h,())=some (((h,()),()),()):=by
 rw [zkX]
theorem zg4(h:HpD)(hw:HpW h)(a:Int)(ha:0<=a/\a<18446744073709551616):F_object_reader_S1_c (a,h,())=some ((P.zap h.2.1 a,P.zg0 h.2.1 a,()),h,()):=by
 rw [zgc];dsimp only
 rw [zkK _ _ hw.wl ha,qaa]
theorem zzd{h:HpD}(hw:HpW h)(hok:P.okH (toHp h)=true){a:Int}(hof:P.ofE (toHp h).pw (toHp h).np a=0):
 (0<=P.ofI (toHp h).pw (toHp h).np a/\P.ofI (toHp h).pw (toHp h).np a<h.2.2.1.length)/\(0<=P.ofK (toHp h).pw (toHp h).np a/\P.ofK (toHp h).pw (toHp h).np a<=64)/\P.zg0 h.2.1 a=0/\P.zap h.2.1 a=P.zaX (toHp h) a/\P.zaX (toHp h) a<18446744073709551616:=by
 obtain ⟨q1,⟨i,j,e1,e2,e3,e4,e5⟩,-⟩:=P.zxv hok hof;have hlm:(toHp h).pages.length=h.2.2.1.length:=qaj ..
 have c:=P.zaj (P.zan hok).1;have hwb:P.WB (toHp h).words:=hw.wb;obtain ⟨w1,w2,w3⟩:=P.zwM hwb hok hof;rw [e1,e2];exact ⟨by omega,by omega,w2,w1,w3⟩
theorem zfp(h:HpD)(hw:HpW h)(a:Int)(ha:0<=a/\a<18446744073709551616):Tot (fun r=>r.1.2.1=P.atE (toHp h) a/\toHd r.1.1=P.atH (toHp h) a) (F_object_At (h,a,())):=by
 obtain ⟨⟨pw,np,_⟩,ws,ps,sp,bu,_⟩:=h;rw [zrx];dsimp only
 generalize hX:toHp ((pw,np,()),ws,ps,sp,bu,())=X
 have bad:∀ (c:Int),P.atE X a=c/\P.atH X a=P.Hd.zero->Tot (fun r:Av×Unit=>r.1.2.1=P.atE X a/\toHd r.1.1=P.atH X a) (some (((0,0,0,()),c,()),())):=fun c he=>zab ⟨he.1.symm,he.2.symm⟩
 refine zad (zcG _ hw) ?_;rintro ⟨⟨(b:Bool),_⟩,_⟩ hb;have hb:b=P.okH X:=hX ▸ hb
 subst hb;refine zac (fun h1=>bad 1 (P.ztZ (by simpa using h1))) fun h1=>?_
 simp only [qaw]at h1;have xw:X.pw=pw:=hX ▸ rfl
 have xn:X.np=np:=hX ▸ rfl
 have hc:=(P.zan h1).1;rw [xw,xn]at hc;rw [ziX pw np a ha,qaa];dsimp only;refine zac (fun h2=>?_) fun h2=>?_
 . simp only [qaC,ne_eq]at h2;have e2:P.ofE pw np a=2:=by
    cases hq:P.inAr pw np a
    . exact (P.zga (a:=a) hc hq).2.2
    . exact absurd (P.zma hc hq).2.2 h2
   rw [e2];exact bad 2 (P.zjU h1 (by rw [xw,xn];exact h2))
 simp only [qaB]at h2;have hof:P.ofE X.pw X.np a=0:=by rw [xw,xn];exact h2
 have I:=zzd hw (hX ▸ h1) (a:=a) (hX ▸ hof)
 rw [hX,xw,xn]at I;obtain ⟨hi,ho,l1,l2,hy⟩:=I;dsimp only at hi l1 l2
 rw [znb,qaa];dsimp only;rw [zg4 _ hw a ha,qaa];dsimp only;rw [l1,l2];refine zac (fun c=>by simp at c) fun _=>?_
 have hpg:P.zb5 X a=toPg (ps.getD (P.ofI pw np a).toNat PG0):=by
  unfold P.zb5;rw [xw,xn];have:X.pages=ps.map toPg:=hX ▸ rfl
  rw [this,zaB]
 have hatB:P.atB X a=atBx (P.zb5 X a).kind (P.zb5 X a).used (P.ofK X.pw X.np a) (P.zaX X a):=rfl
 rw [hpg,xw,xn]at hatB;have hH:=P.zoW h1 hof;have hN:=P.zsh h1 hof;rw [hatB]at hH hN;generalize P.zaX X a=y at *
 generalize P.ofK pw np a=o at *
 rw [znd y hy,qaa];dsimp only;refine zae (need_or (zag.2 hi)) ?_;generalize ps.getD (P.ofI pw np a).toNat PG0=G at *
 obtain ⟨gk,gs,gu,gp,_⟩:=G;have hab:atBx (toPg (gk,gs,gu,gp,())).kind (toPg (gk,gs,gu,gp,())).used o y=atBx gk gu o y:=rfl
 rw [hab]at hH hN;unfold atBx at hH hN;refine zac (fun h3=>bad 19 (hN ?_)) fun h3=>?_
 . simp only [qar]at h3;rw [h3];simp
 simp only [qaw]at h3;obtain ⟨d1,d2,d3⟩:=P.zcx h3;obtain ⟨f1,f2,f3⟩:=P.zr5 h3;have hmb:(0:Int)<=(P.dM y:Int)/\(P.dM y:Int)<4294967296:=by unfold P.dM;omega
 have vp:=P.zax d3;rw [f1,f2,f3,zdA _ _ _ hmb,qaa,P.zcv d3];dsimp only;rw [zqr gk gs gu gp o _ (by omega) (by omega),qaa]
 dsimp only;refine zac (fun h4=>bad 19 (hN ?_)) fun h4=>zab ?_
 . by_cases k1:gk=1
   . subst k1;simp only [if_true,qar]at h4 ⊢;rw [h4];simp
   . rw [if_neg k1]at h4 ⊢
     by_cases k2:gk=2
     . subst k2;simp only [if_true,qar]at h4 ⊢;rw [h4];simp
     . rw [show decide (gk=1\/gk=2)=false from qai (by omega)];rfl
 . have:(decide (gk=1\/gk=2)&&decide (o<gu)&&P.okD y&&if gk=1 then decide (o+((P.dN y:Int)+1)<=gu) else decide (o=0/\(P.dN y:Int)+1=gu))=true:=by
    by_cases k1:gk=1
    . subst k1;simp only [if_true,qaw,qab]at h4;rw [h3,qad (show o<gu by omega),if_pos rfl,qad h4];rfl
    . rw [if_neg k1]at h4;by_cases k2:gk=2
      . subst k2;simp only [if_true,qaw,qab]at h4;rw [h3,qad (show o<gu by omega),if_neg k1,qad h4];rfl
      . rw [if_neg k2]at h4;simp at h4
   obtain ⟨g1,g2⟩:=hH this;rw [g1,g2];exact ⟨rfl,rfl⟩
theorem zsw(h:HpD)(hw:HpW h)(a:Int)(ha:0<=a/\a<18446744073709551616):Tot (fun r=>r.1.2.1=P.getE (toHp h) a/\toHd r.1.1=P.getH (toHp h) a) (F_object_Get (h,a,())):=by
 rw [zpH];dsimp only
 try rw [zas]
 refine zad (zfp h hw a ha) ?_;rintro ⟨⟨⟨(k:Int),(n:Int),(m:Int),_⟩,(e:Int),_⟩,_⟩ hr;dsimp only at hr ⊢
 obtain ⟨r1,r2⟩:=hr;have r2:P.atH (toHp h) a=⟨k,n,m⟩:=r2.symm
 generalize toHp h=X at *
 have out:∀ (c:Int),¬c=0->P.getE X a=c->Tot (fun r:Av×Unit=>r.1.2.1=P.getE X a/\toHd r.1.1=P.getH X a) (some (((0,0,0,()),c,()),())):=fun c h0 he=>by
  refine zab ⟨he.symm,?_⟩;unfold P.getH;rw [if_neg (by rw [he];exact h0)];rfl
 simp only [cand];cases hok:P.okH X
 . have g:=P.zva (h:=X) (a:=a) hok
   have t:=P.ztZ (h:=X) (a:=a) hok
   rw [t.1]at r1;rw [t.2]at r2;subst r1;simp only [P.Hd.zero,P.Hd.mk.injEq]at r2;obtain ⟨e1,e2,e3⟩:=r2;subst e1 e2 e3;exact out 1 (by decide) g.1
 by_cases h0:a=0
 . subst h0;have g:=P.zrT (h:=X) hok
   have c:=P.zaj (P.zan hok).1;have hno:¬P.ofE X.pw X.np 0=0:=by
    rw [(P.zga (a:=0) (P.zan hok).1 (by unfold P.inAr;exact qai (by omega))).2.2];decide
   have t:=P.zjU (h:=X) (a:=0) hok hno
   rw [t.1]at r1;subst r1;exact out 5 (by decide) g.1
 have h0':(a == 0)=false:=by simpa using h0
 rw [h0',Bool.and_false];refine zac (fun c=>by simp at c) fun _=>zac (fun h3=>out 4 (by decide) ?_) fun h3=>zab ?_
 . simp only [qae,qaz]at h3;exact (P.zrU hok h0 (by rw [<-r1];exact h3.1) (by rw [r2];exact h3.2)).1
 . obtain ⟨g1,g2⟩:=P.ztK (a:=a) hok h0 (by
    rintro ⟨q1,q2⟩;rw [r2]at q2;rw [<-r1]at q1;have q2:k=0:=q2
    rw [q1,q2]at h3;simp at h3)
   rw [g1,g2,r1,r2];exact ⟨rfl,rfl⟩
end Go.VI
namespace Go.VI
open Go
theorem zyv{x y:PgD}(h:toPg x=toPg y):x=y:=by
 obtain ⟨a,b,c,d,_⟩:=x;obtain ⟨a',b',c',d',_⟩:=y;simp only [toPg,P.Pg.mk.injEq]at h;obtain ⟨rfl,rfl,rfl,rfl⟩:=h
 rfl
theorem zyw{x y:HpD}(h:toHp x=toHp y):x=y:=by
 obtain ⟨⟨a,b,_⟩,c,d,e,f,_⟩:=x;obtain ⟨⟨a',b',_⟩,c',d',e',f',_⟩:=y;simp only [toHp,P.Hp.mk.injEq]at h;obtain ⟨rfl,rfl,rfl,h4,rfl,rfl⟩:=h;have:d=d':=List.map_inj_right (fun _ _=>zyv) |>.1 h4
 rw [this]
theorem zwp(l:List Int)(hl:l.length<=100000000):Tot (fun r=>r.1.1=true) (F_r01_Same (l,l,())):=by
 rw [zml];dsimp only
 refine zac (fun h=>by simp at h) fun _=>?_
 refine zad (P:=fun r=>match r with | .inl _=>False | .inr _=>True) (zai (fun x=>∃ k:Nat,x.1.2.1=(k:Int)/\k<=l.length) (fun x=>((l.length:Int)-x.1.2.1).toNat) ⟨0,rfl,by omega⟩ ?_) fun r hr=>zaR (fun x hx=>?_) fun x hx=>zab rfl
 . rintro ⟨⟨(q:Bool),(i:Int),_⟩,_⟩ ⟨k,e,hk⟩;dsimp only at e ⊢
   subst e;refine zac (fun h1=>?_) fun h1=>zab trivial
   simp only [qab]at h1;have hin:inB (k:Int) l.length=true:=zag.2 ⟨by omega,by omega⟩
   refine zae hin (zae hin (zac (fun h=>by simp at h) fun _=>zab ?_))
   rw [W_id (by omega)]
   exact ⟨⟨k+1,by dsimp only;omega,by omega⟩,by dsimp only;omega⟩
 . subst hx;exact hr.elim
theorem zm7(l:List PgD)(hl:l.length<=100000000):Tot (fun r=>r.1.1=true) (F_r04_SamePages (l,l,())):=by
 rw [zkW];dsimp only
 refine zac (fun h=>by simp at h) fun _=>?_
 refine zad (P:=fun r=>match r with | .inl _=>False | .inr _=>True) (zai (fun x=>∃ k:Nat,x.1.2.1=(k:Int)/\k<=l.length) (fun x=>((l.length:Int)-x.1.2.1).toNat) ⟨0,rfl,by omega⟩ ?_) fun r hr=>zaR (fun x hx=>?_) fun x hx=>zab rfl
 . rintro ⟨⟨(q:Bool),(i:Int),_⟩,_⟩ ⟨k,e,hk⟩;dsimp only at e ⊢
   subst e;refine zac (fun h1=>?_) fun h1=>zab trivial
   simp only [qab]at h1;have hin:inB (k:Int) l.length=true:=zag.2 ⟨by omega,by omega⟩
   refine zae hin (zae hin (zac (fun h=>by simp at h) fun _=>zab ?_))
   rw [W_id (by omega)]
   exact ⟨⟨k+1,by dsimp only;omega,by omega⟩,by dsimp only;omega⟩
 . subst hx;exact hr.elim
theorem zwo(h:HpD)(h1:h.2.1.length<=100000000)(h2:h.2.2.1.length<=100000000):Tot (fun r=>r.1.1=true) (F_r04_Same (h,h,())):=by
 obtain ⟨⟨pw,np,_⟩,l,ps,sp,bu,_⟩:=h;dsimp only at h1 h2
 rw [zto];dsimp only
 refine zac (fun h=>by simp at h) fun _=>zac (fun h=>by simp at h) fun _=>zac (fun h=>by simp at h) fun _=>zad (zm7 ps h2) ?_
 rintro ⟨⟨(b:Bool),_⟩,_⟩ hb;have hb:b=true:=hb
 subst hb;refine zac (fun h=>by simp at h) fun _=>?_
 refine zad (P:=fun r=>match r with | .inl _=>False | .inr _=>True) (zai (fun x=>∃ k:Nat,x.1.2.1=(k:Int)/\k<=l.length) (fun x=>((l.length:Int)-x.1.2.1).toNat) ⟨0,rfl,by omega⟩ ?_) fun r hr=>zaR (fun x hx=>?_) fun x hx=>zab rfl
 . rintro ⟨⟨(q:Bool),(i:Int),_⟩,_⟩ ⟨k,e,hk⟩;dsimp only at e ⊢
   subst e;refine zac (fun h1=>?_) fun h1=>zab trivial
   simp only [qab]at h1;have hin:inB (k:Int) l.length=true:=zag.2 ⟨by omega,by omega⟩
   refine zae hin (zae hin (zac (fun h=>by simp at h) fun _=>zab ?_))
   rw [W_id (by omega)]
   exact ⟨⟨k+1,by dsimp only;omega,by omega⟩,by dsimp only;omega⟩
 . subst hx;exact hr.elim
theorem ze2(ws:List Int)(hl:ws.length<=100000000):F_arena_duplicate (ws,())=some ((ws,()),()):=by
 rw [ziq];dsimp only
 rw [qad (show 0<=(ws.length:Int)/\(ws.length:Int)<=ws.length by omega),qac,zak.2 (by omega),qbf,List.take_length,qbk (by rw [qbf];exact qao _),qaW]
 rfl
theorem zqt(ws:List Int)(a:Int)(l:List Int)(hl:ws.length<=100000000)(hl2:l.length<=100000000)(ha:0<=a/\a<18446744073709551616):F_arena_Write (ws,a,l,())=some ((P.zaI ws a l,P.zdI ws a l,()),()):=by
 rw [znR];dsimp only
 rw [zdb ws a l.length hl hl2 ha,qaa,ze2 ws hl,qaa];dsimp only;unfold P.zaI P.zdI;cases h:P.okA ws.length a l.length
 . rfl
 . have:=P.zav.1 h
   simp only [if_true];obtain ⟨i,hi⟩:∃ i:Nat,a-4096=(i:Int):=⟨(a-4096).toNat,by omega⟩
   rw [hi,qac,show ((ws.length:Int)-(i:Int)).toNat=ws.length-i from by omega,qad (show 0<=(i:Int)/\(i:Int)<=ws.length/\(ws.length:Int)<=ws.length by omega),qa3 (l:=l) (by omega),show min l.length (ws.length-i)=l.length from by omega]
   have:Go.splice ws i l=ws.take i++(l++ws.drop (i+l.length)):=rfl
   rw [this];rfl
theorem zcF(ps:List PgD)(hl:ps.length<=100000000):F_slices_Clone_api_Page (ps,())=some ((ps,()),()):=by
 unfold F_slices_Clone_api_Page zfC;have:∀ b,b<=1000->zaA (0+ps.length) b=true:=fun b hb=>zak.2 (by
  rw [qaH];calc ps.length*b<=100000000*1000:=Nat.mul_le_mul hl hb
   _<=_:=by decide)
 show cond (zaA (0+ps.length) _) _ _=_
 rw [this _ (by decide)];rfl
end Go.VI
namespace Go.VI
open Go
abbrev FiD:=Int×Int×Unit
def toFi(f:Int×Nat):FiD:=(f.1,(f.2:Int),())
theorem bits_or(a b:Nat)(ha:a<18446744073709551616)(hb:b<18446744073709551616):zcN IntKind.u64 (fun (x1 x2:BitVec IntKind.u64.bits)=>x1 ||| x2) (a:Int) (b:Int)=((a ||| b:Nat):Int):=by
 have hx:a ||| b<2 ^ 64:=Nat.or_lt_two_pow (by omega) (by omega)
 show IntKind.u64.wrap ((BitVec.ofInt 64 (a:Int) ||| BitVec.ofInt 64 (b:Int)).toNat:Int)=_
 have e:∀ c:Nat,c<18446744073709551616->(BitVec.ofInt 64 (c:Int)).toNat=c:=fun c hc=>by
  rw [BitVec.toNat_ofInt];omega
 rw [BitVec.toNat_or,e a ha,e b hb,IntKind.wrap_u64];omega
theorem fi_at(fs:B6){k:Nat}(hk:k<fs.length):∃ x,fs[k]?=some x/\(fs.map toFi).getD k (0,0,())=toFi x:=by
 refine ⟨fs[k],qaq hk,?_⟩;rw [qax,qbc,qaq hk];rfl
theorem zdn(fs:B6)(k:Nat)(x:Int×Nat)(hx:fs[k]?=some x):F_bits_Pack_S1_c ((k:Int),fs.map toFi,())=some ((x.1,()),fs.map toFi,()):=by
 obtain ⟨hk,-⟩:=qap.1 hx;obtain ⟨y,hy,e⟩:=fi_at fs hk;obtain rfl:x=y:=by rw [hx]at hy;exact Option.some.inj hy
 rw [zjF];dsimp only
 rw [zag.2 ⟨by omega,by rw [qaj];omega⟩,qac,e];rfl
theorem znh(fs:B6)(hl:fs.length<=100000000):Tot (fun r=>r.1.1=P.fitL 64 (fs.map (·.1))/\r.2.1=fs.map toFi) (F_bits_fit_c_bits_Pack_S1 (((fs.map toFi).length:Int),fs.map toFi,())):=by
 rw [zd3];dsimp only
 rw [qaj];have hlm:(fs.map (·.1)).length=fs.length:=qaj ..
 refine zad (P:=fun r=>match r with
  | .inl x=>(x.1.1=false/\P.fitL 64 (fs.map (·.1))=false)/\x.2.2.1.1=fs.map toFi
  | .inr x=>P.fitL 64 (fs.map (·.1))=true/\x.2.2.1.1=fs.map toFi) (zai (fun x=>∃ k:Nat,x.1.2.2.1=(k:Int)/\k<=fs.length/\x.2.2.1.1=fs.map toFi/\0<=x.1.2.1/\x.1.2.1<=64/\P.fitL x.1.2.1 ((fs.map (·.1)).drop k)=P.fitL 64 (fs.map (·.1))) (fun x=>((fs.length:Int)-x.1.2.2.1).toNat) ⟨0,rfl,by omega,rfl,by dsimp only;omega,by dsimp only;omega,rfl⟩ ?_) fun r hr=>zaR (fun x hx=>?_) fun x hx=>?_
 . rintro ⟨⟨(q:Bool),(lf:Int),(i:Int),_⟩,_,⟨(l:List FiD),_⟩,_⟩ ⟨k,e,hk,el,h0,h64,hp⟩;dsimp only at e el h0 h64 hp ⊢
   rw [e,el];refine zac (fun h1=>?_) fun h1=>zab ?_
   . simp only [qab]at h1;have hk':k<fs.length:=by omega
     obtain ⟨x,hx,-⟩:=fi_at fs hk';have hx':(fs.map (·.1))[k]?=some x.1:=by rw [qbc,hx];rfl
     rw [zdn fs k x hx,qaa];dsimp only;refine zac (fun h2=>zab ⟨⟨rfl,?_⟩,rfl⟩) fun h2=>?_
     . rw [<-hp];exact P.zp3 hx' (.inl (by simpa using h2))
     simp only [qag]at h2;rw [zdn fs k x hx,qaa];dsimp only;refine zac (fun h3=>zab ⟨⟨rfl,?_⟩,rfl⟩) fun h3=>?_
     . rw [<-hp];exact P.zp3 hx' (.inr (by simpa using h3))
     simp only [qag]at h3;rw [zdn fs k x hx,qaa];dsimp only;rw [W_id (n:=lf-x.1) (by omega),W_id (n:=(k:Int)+1) (by omega)]
     refine zab ⟨⟨k+1,by dsimp only;omega,by omega,rfl,by dsimp only;omega,by dsimp only;omega,?_⟩,by dsimp only;omega⟩
     rw [<-hp];exact (P.zvc hx' h2 (by omega)).symm
   . simp only [qag]at h1;refine ⟨?_,rfl⟩;rw [<-hp];exact P.zve (by omega)
 . subst hx;exact zab ⟨hr.1.1.trans hr.1.2.symm,hr.2⟩
 . subst hx;exact zab ⟨hr.1.symm,hr.2⟩
theorem zuh(fs:B6)(hl:fs.length<=1000)(hv:∀ f∈fs,f.2<18446744073709551616):Tot (fun r=>r.1.1=(P.zq7 fs).1/\r.1.2.1=(P.zq7 fs).2) (F_bits_Pack (fs.map toFi,())):=by
 rw [zrz];dsimp only
 refine zad (znh fs (by omega)) ?_
 rintro ⟨⟨(b:Bool),_⟩,(l:List FiD),_⟩ ⟨hb,el⟩;dsimp only at hb el ⊢
 rw [hb,el,qaj];refine zac (fun h1=>zab ?_) fun h1=>?_
 . simp only [qar]at h1;rw [P.zyO (by rw [h1];decide)];exact ⟨rfl,rfl⟩
 simp only [qaw]at h1;rw [W_id (n:=(fs.length:Int)-1) (by omega)]
 refine zad (P:=fun r=>match r with
  | .inl x=>P.okF fs=false/\x.1.1=0/\x.1.2.1=2
  | .inr y=>P.okF fs=true/\y.1.2.2.1=((P.zkT fs:Nat):Int)) (zai (fun y=>∃ j:Nat,y.1.2.2.2.1=(j:Int)/\j<=fs.length/\P.okF (fs.drop (fs.length-j))=true/\y.1.2.2.1=((P.zkT (fs.drop (fs.length-j)):Nat):Int)) (fun y=>((fs.length:Int)-y.1.2.2.2.1).toNat) ⟨0,rfl,by omega,by rw [qbk (by omega)];rfl,by rw [qbk (by omega)];rfl⟩ ?_) ?_
 . rintro ⟨⟨(y1:Int),(y2:Int),(v:Int),(i:Int),_⟩,_⟩ ⟨j,e,hj,ho,ev⟩;dsimp only at e ev ⊢
   rw [e];refine zac (fun h2=>?_) fun h2=>zab ?_
   . simp only [qab]at h2;obtain ⟨k,hk⟩:∃ k:Nat,k+1+j=fs.length:=⟨fs.length-1-j,by omega⟩
     have w1:W ((fs.length:Int)-1-j)=(k:Nat):=by rw [W_id (by omega)];omega
     have hk':k<fs.length:=by omega
     obtain ⟨x,hx,hg⟩:=fi_at fs hk';rw [w1,qac,hg];rw [show fs.length-j=k+1 from by omega]at ho ev
     have hin:inB (k:Int) fs.length=true:=zag.2 ⟨by omega,by omega⟩
     refine zae hin ?_;have hx1:(toFi x).1=x.1:=rfl
     have hx2:(toFi x).2.1=(x.2:Int):=rfl
     rw [hx1,hx2,zfq,qaa];dsimp only;refine zac (fun h3=>zab ⟨?_,rfl,rfl⟩) fun h3=>?_
     . simp only [qab]at h3;exact P.zyN hx (by omega)
     simp only [qag]at h3;obtain ⟨fa1,fa2⟩:=P.zvb h1 k;rw [zlF hx]at fa1 fa2;have hxb:=fa1 x.1 (by simp)
     refine zae (by simp;omega) (zab ?_)
     have hlt:=P.zuO (fs.drop (k+1)) ho (fun z hz=>(P.zvb h1 (k+1)).1 z hz)
     simp only [qaX,P.sumW]at fa2;generalize hR:P.zkT (fs.drop (k+1))=R at *
     generalize hS:P.sumW ((fs.drop (k+1)).map (·.1))=S at *
     have hpow:R*2 ^ x.1.toNat<18446744073709551616:=by
      calc R*2 ^ x.1.toNat<2 ^ S*2 ^ x.1.toNat:=Nat.mul_lt_mul_of_pos_right hlt (qca (by omega))
       _=2 ^ (S+x.1.toNat):=(Nat.pow_add ..).symm
       _<=2 ^ 64:=qb2 (by omega) (by omega)
       _=_:=by decide
     have hu:U (v*2 ^ min x.1.toNat IntKind.u64.bits)=((R <<< x.1.toNat:Nat):Int):=by
      have hb:IntKind.u64.bits=64:=rfl
      rw [hb,show min x.1.toNat 64=x.1.toNat from by omega,ev,<-P.zgk,<-qct,Nat.shiftLeft_eq]
      exact U_id (by omega)
     have hp:P.zkT (fs.drop k)=R <<< x.1.toNat ||| x.2:=by rw [zlF hx,P.zkT,hR]
     have hx3:=hv x (qa0 hx);rw [hu,bits_or _ _ (by rw [Nat.shiftLeft_eq];exact hpow) hx3]
     rw [W_id (n:=(j:Int)+1) (by omega)]
     refine ⟨⟨j+1,by dsimp only;omega,by omega,?_,?_⟩,by dsimp only;omega⟩
     . rw [show fs.length-(j+1)=k from by omega,zlF hx]
       unfold P.okF at ho ⊢
       rw [qb0,ho,Bool.and_true];exact qad (by omega)
     . rw [show fs.length-(j+1)=k from by omega,hp]
   . simp only [qag]at h2;obtain rfl:j=fs.length:=by omega
     rw [qbG,qb3]at ho ev;exact ⟨ho,ev⟩
 . intro r hr;refine zaR (fun x hx=>?_) fun x hx=>?_
   . subst hx;obtain ⟨h2,h3,h4⟩:=hr;rw [P.zxm h1 h2];exact zab ⟨h3,h4⟩
   . subst hx;obtain ⟨h2,h3⟩:=hr;rw [P.zuP h1 h2];exact zab ⟨h3,rfl⟩
end Go.VI
namespace Go.VI
open Go
theorem zxO{o:Option A5}(h:Tot (fun r=>r.1.1=true) o):o=some ((true,()),()):=by
 obtain ⟨⟨⟨(b:Bool),_⟩,_⟩,rfl,e⟩:=h;have e:b=true:=e
 rw [e]
end Go.VI
namespace Go.VI
open Go
theorem wf_u{n:Int}(h:(Lit.int .u64 n).wf=true):0<=n/\n<18446744073709551616:=by
 simp only [Lit.wf,qae,qab]at h;have e1:IntKind.u64.min=0:=rfl
 have e2:IntKind.u64.max=18446744073709551615:=rfl
 omega
end Go.VI
namespace Go.VI.P
open Go
open Go.RowKit
structure Good (h:Hp):Prop where
 ok:okH h=true
 sp:∀ (k:Nat) (g:Pg),h.pages[k]?=some g->g.kind=0\/g.space=h.space
 pg:∀ k:Nat,k<h.pages.length->zbx h k=0
 cls:∀ (k:Nat) (g:Pg),h.pages[k]?=some g->∀ x∈zaQ h k,(g.kind=1->zaP (atH h x).k (atH h x).n (atH h x).m<=zeA h.pw h.np)/\(g.kind=2->¬(atH h x).k=0)
 zero:∀ p:Int,4096<=p->p<4096+h.np*h.pw->(∃ x∈zbf h,x<=p/\p<x+zeg h x)\/zap h.words p=0
 ptr:∀ a∈zaf h,∀ i:Int,ptrB (atH h a).k (atH h a).n (atH h a).m i=true->zap h.words (a+1+i)=0\/zap h.words (a+1+i)∈zaf h
 crowd:(zaZ h.pages:Int)<=h.np / 4
theorem zdR{h:Hp}{k:Nat}{g:Pg}(e:h.pages[k]?=some g):pgAt h k=g:=by
 unfold pgAt;rw [qac];exact zam e
theorem zoL{P:Int->Bool}:∀ {l:List Int},(∀ x∈l,¬x=0)->(zmE P l=0↔∀ x∈l,P x=false)
 | [],_=>by simp [zmE]
 | a::l,h=>by
  rw [zmE];cases hp:P a
  . simp only [qbm,qbj];rw [zoL fun x hx=>h x (qaF _ hx)]
    constructor
    . intro h2 x hx;rcases qas.1 hx with e | e
      . rw [e];exact hp
      . exact h2 x e
    . intro h2 x hx;exact h2 x (qaF _ hx)
  . simp only [if_true];constructor
    . intro e;exact absurd e (h a (qbg ..))
    . intro h2;have:=h2 a (qbg ..);rw [hp]at this;cases this
theorem zhC(h:Hp)(i:Nat)(hb:0<=h.pw):∀ (l:List Bool) (k:Nat),zdi h i k l=0↔∀ t b,l[t]?=some b->b=true\/zkS h i ((k+t:Nat):Int)=0
 | [],k=>by simp [zdi]
 | c::l,k=>by
  rw [zdi];have hpos:0<=(i:Int)*h.pw:=qbl (by omega) hb
  by_cases hc:c=false/\¬zkS h i k=0
  . rw [if_pos hc];constructor
    . intro e;omega
    . intro h2;have:=h2 0 c rfl
      rw [hc.1]at this;rcases this with e | e
      . cases e
      . exact absurd e hc.2
  . rw [if_neg hc,zhC h i hb l (k+1)];constructor
    . intro h2 t b ht;cases t with
      | zero=>
       simp only [qce,Option.some.injEq]at ht;subst ht;by_cases q:zkS h i k=0
       . right;exact q
       . left
         cases c
         . exact absurd ⟨rfl,q⟩ hc
         . rfl
      | succ t=>
       rw [qbv]at ht;have:=h2 t b ht
       rwa [show k+1+t=k+(t+1) from by omega]at this
    . intro h2 t b ht;have:=h2 (t+1) b (by rw [qbv];exact ht)
      rwa [show k+(t+1)=k+1+t from by omega]at this
theorem zei(h:Hp):∀ (n i:Nat),(zaC h i n).fault=0↔∀ k,i<=k->k<i+n->(zej h k).fault=0
 | 0,i=>by
  constructor
  . intro _ k h1 h2;omega
  . intro _;rfl
 | n+1,i=>by
  rw [zaC];by_cases e:(zej h i).fault=0
  . rw [if_neg (by simpa using e),zei h n (i+1)]
    constructor
    . intro h2 k h3 h4;by_cases hk:k=i
      . rw [hk];exact e
      . exact h2 k (by omega) (by omega)
    . intro h2 k h3 h4;exact h2 k (by omega) (by omega)
  . rw [if_pos e];constructor
    . intro h2;exact absurd h2 e
    . intro h2;exact h2 i (qao _) (by omega)
theorem zgq(all:List Int)(x:Hd):∀ (l:List Int) (k:Nat),za1 all x k l=none↔∀ t f,l[t]?=some f->ptrB x.k x.n x.m ((k+t:Nat):Int)=true->f=0\/f∈all
 | [],k=>by simp [za1]
 | c::l,k=>by
  rw [za1];by_cases hc:ptrB x.k x.n x.m k=true/\¬c=0/\¬c∈all
  . rw [if_pos hc];constructor
    . intro e;cases e
    . intro h2;rcases h2 0 c rfl hc.1 with e | e
      . exact absurd e hc.2.1
      . exact absurd e hc.2.2
  . rw [if_neg hc,zgq all x l (k+1)];constructor
    . intro h2 t f ht hp;cases t with
      | zero=>
       simp only [qce,Option.some.injEq]at ht;subst ht;by_cases q:c=0
       . left;exact q
       . by_cases q2:c∈all
         . right;exact q2
         . exact absurd ⟨hp,q,q2⟩ hc
      | succ t=>
       rw [qbv]at ht;exact h2 t f ht (by rwa [show k+1+t=k+(t+1) from by omega])
    . intro h2 t f ht hp;exact h2 (t+1) f (by rw [qbv];exact ht) (by rwa [show k+(t+1)=k+1+t from by omega])
theorem zl2(h:Hp)(all:List Int):∀ l:List Int,(zb4 h all l).fault=0↔∀ x∈l,za1 all (getH h x) 0 (zbG h x)=none
 | []=>by simp [zb4,Fd.none]
 | c::l=>by
  rw [zb4];cases hc:za1 all (getH h c) 0 (zbG h c) with
  | some k=>
   constructor
   . intro e;cases e
   . intro h2;have:=h2 c (qbg ..);rw [hc]at this;cases this
  | none=>
   simp only
   rw [zl2 h all l];constructor
   . intro h2 x hx;rcases qas.1 hx with e | e
     . rw [e];exact hc
     . exact h2 x e
   . intro h2 x hx;exact h2 x (qaF _ hx)
theorem zpu{h:Hp}{a:Int}(ha:a∈zaf h):getE h a=0/\getH h a=atH h a:=by
 obtain ⟨e1,e2⟩:=zbU ha;obtain ⟨h1,-⟩:=zjT e1;have hb:=zsg e1;obtain ⟨g1,g2⟩:=ztK (a:=a) h1 (by omega) (fun c=>e2 c.2)
 exact ⟨by rw [g1];exact e1,g2⟩
theorem zmb{h:Hp}{a:Int}(ha:a∈zaf h){t:Nat}(ht:(t:Int)<(atH h a).n):(zbG h a)[t]?=some (zap h.words (a+1+t)):=by
 obtain ⟨g1,g2⟩:=zpu ha;obtain ⟨i,j,G,b⟩:=zal ha;have hwl:=b.wl;have hp:=b.pos;unfold osz at hwl;unfold zbG;rw [if_pos g1,g2];obtain ⟨n,hn⟩:=qaP (show 0<=(atH h a).n by omega)
 rw [hn]at ht hwl ⊢
 obtain ⟨s,hs⟩:∃ s:Nat,a+1=4096+(s:Int):=⟨(a+1-4096).toNat,by omega⟩
 have hok:okA h.words.length (4096+(s:Int)) n=true:=zav.2 (by omega)
 rw [hs,(read_ok hok).1,qa7,if_pos (by omega),qbb]
 have hlt:s+t<h.words.length:=by omega
 have ho:okA h.words.length (4096+((s+t:Nat):Int)) 1=true:=zav.2 (by omega)
 rw [show 4096+(s:Int)+t=4096+((s+t:Nat):Int) from by omega,(zu0 ho (qaq hlt)).1,qaq hlt]
theorem zoM{h:Hp}{a:Int}(ha:a∈zaf h):((zbG h a).length:Int)=(atH h a).n:=by
 obtain ⟨g1,g2⟩:=zpu ha;obtain ⟨i,j,G,b⟩:=zal ha;have hwl:=b.wl;have hp:=b.pos;unfold osz at hwl hp;unfold zbG;rw [if_pos g1,g2];obtain ⟨n,hn⟩:=qaP (show 0<=(atH h a).n by omega)
 rw [hn]at hwl ⊢
 obtain ⟨s,hs⟩:∃ s:Nat,a+1=4096+(s:Int):=⟨(a+1-4096).toNat,by omega⟩
 have hok:okA h.words.length (4096+(s:Int)) n=true:=zav.2 (by omega)
 rw [hs,(read_ok hok).1,qau,qaK];omega
theorem zeV{ps:List Pg}{k:Nat}(h0:¬(ps.getD k Pg.zero).kind=3):∀ (d:Nat),(∀ t,k<t->t<=k+d->(ps.getD t Pg.zero).kind=3)->za5 ps (k+d)=k
 | 0,_=>by
  cases k with
  | zero=>rfl
  | succ j=>rw [qa9,za5,if_neg h0]
 | d+1,hd=>by
  rw [show k+(d+1)=(k+d)+1 from rfl,za5,if_pos (hd (k+d+1) (by omega) (by omega))]
  exact zeV h0 d fun t h1 h2=>hd t h1 (by omega)
theorem zoe{h:Hp}(h1:okH h=true)(h2:∀ k:Nat,k<h.pages.length->zbx h k=0){x:Int}:x∈zbf h↔∃ k:Nat,k<h.pages.length/\x∈zaQ h k:=by
 rw [(zlQ h1 h2).2];unfold zbC;rw [List.mem_flatMap];constructor
 . rintro ⟨k,hk,hx⟩;exact ⟨k,qbN.1 hk,hx⟩
 . rintro ⟨k,hk,hx⟩;exact ⟨k,qbN.2 hk,hx⟩
theorem zeT{h:Hp}{i:Nat}{t:Nat}(hc:confB h.pw h.np=true)(hi:(i:Int)<h.np)(ht:(t:Int)<h.pw):zkS h i (t:Int)=zap h.words (4096+(i:Int)*h.pw+t):=by
 unfold zkS;rw [(zhE hc (by unfold inPg;exact qad ⟨by omega,hi,by omega,ht⟩)).1]
theorem zoq{pw np p:Int}(hc:confB pw np=true)(h0:4096<=p)(h1:p<4096+np*pw):∃ (i t:Nat),p=4096+(i:Int)*pw+t/\(i:Int)<np/\(t:Int)<pw:=by
 have c:=zaj hc;have e1:=Int.mul_ediv_add_emod (p-4096) pw;have e2:=Int.emod_nonneg (p-4096) (b:=pw) (by omega)
 have e3:=Int.emod_lt_of_pos (p-4096) (b:=pw) (by omega)
 have e4:=qbU (a:=p-4096) (b:=pw) (by omega) (by omega)
 have e5:(p-4096) / pw<np:=qcr (by omega) (by omega)
 rw [Int.mul_comm]at e1;generalize (p-4096) / pw=I at *
 refine ⟨I.toNat,((p-4096) % pw).toNat,?_,by omega,by omega⟩
 rw [qcD e4,qcD e2];omega
theorem zfT(h:Hp)(i:Nat)(l:List Int){t:Nat}(ht:(t:Int)<h.pw):(zhi h i l)[t]?=some (zo8 h i l t):=by
 unfold zhi;rw [qbc,List.getElem?_range (by omega)];rfl
theorem zhU{h:Hp}{i t:Nat}{l:List Int}:zo8 h i l t=true↔∃ x∈l,x<=4096+(i:Int)*h.pw+t/\4096+(i:Int)*h.pw+t<x+zeg h x:=by
 unfold zo8;rw [qcb];constructor
 . rintro ⟨x,hx,h1⟩;exact ⟨x,hx,by simp only [qab]at h1;omega⟩
 . rintro ⟨x,hx,h1⟩;exact ⟨x,hx,qad (by omega)⟩
theorem zxk{h:Hp}(h1:okH h=true):(h.pages.length:Int)=h.np:=(zan h1).2.2.1
theorem zl5{h:Hp}(h1:okH h=true){k:Nat}(hk:k<h.pages.length){x:Int}(hx:x∈zaQ h k):∃ j g,Begins h x k j g:=by
 obtain ⟨j,g,b⟩:=(zkp h1 k hk).2 x hx;exact ⟨j,g,b⟩
theorem zqN{h:Hp}{x:Int}(e:atE h x=0):zeg h x<=osz h x:=by
 obtain ⟨h1,h2,h3,h4,h5,h6⟩:=zjT e;unfold zeg osz;split
 . omega
 . rw [zcv h2];omega
theorem zu8(h:Hp):zg1 h=true↔Good h:=by
 unfold zg1;rw [qab];by_cases hok:okH h=true
 . have hc:=(zan hok).1;have c:=zaj hc;have hlen:=zxk hok;have hpage:∀ k:Nat,k<h.pages.length->((zej h k).fault=0↔((pgAt h k).kind=0\/(pgAt h k).space=h.space)/\zbx h k=0/\clsV h k (zaQ h k)=0/\zhB h k=0):=fun k hk=>by
    unfold zej;by_cases q1:¬(pgAt h k).kind=0/\¬(pgAt h k).space=h.space
    . rw [if_pos q1];constructor
      . intro e;cases e
      . rintro ⟨e,-⟩;rcases e with e | e
        . exact absurd e q1.1
        . exact absurd e q1.2
    rw [if_neg q1];have q1':(pgAt h k).kind=0\/(pgAt h k).space=h.space:=by
     by_cases e:(pgAt h k).kind=0
     . exact .inl e
     . by_cases e2:(pgAt h k).space=h.space
       . exact .inr e2
       . exact absurd ⟨e,e2⟩ q1
    by_cases q2:¬zbx h k=0
    . rw [if_pos q2];constructor
      . intro e;cases e
      . rintro ⟨-,e,-⟩;exact absurd e q2
    rw [if_neg q2];by_cases q3:¬clsV h k (zaQ h k)=0
    . rw [if_pos q3];constructor
      . intro e;cases e
      . rintro ⟨-,-,e,-⟩;exact absurd e q3
    rw [if_neg q3];by_cases q4:¬zhB h k=0
    . rw [if_pos q4];constructor
      . intro e;cases e
      . rintro ⟨-,-,-,e⟩;exact absurd e q4
    rw [if_neg q4];constructor
    . intro _;exact ⟨q1',Decidable.not_not.1 q2,Decidable.not_not.1 q3,Decidable.not_not.1 q4⟩
    . intro _;rfl
   have hcls:∀ k:Nat,k<h.pages.length->(clsV h k (zaQ h k)=0↔∀ x∈zaQ h k,((pgAt h k).kind=1->zaP (atH h x).k (atH h x).n (atH h x).m<=zeA h.pw h.np)/\((pgAt h k).kind=2->¬(atH h x).k=0)):=fun k hk=>by
    unfold clsV;rw [zoL fun x hx e=>by have:=zsg (zfe hx);omega]
    refine forall_congr' fun x=>forall_congr' fun hx=>?_
    unfold clsB;by_cases a1:(pgAt h k).kind=1 <;> by_cases a2:(pgAt h k).kind=2 <;> by_cases a3:zaP (atH h x).k (atH h x).n (atH h x).m<=zeA h.pw h.np <;> by_cases a4:(atH h x).k=0 <;> simp [a1,a2,a3,a4]
   have hdirt:∀ k:Nat,k<h.pages.length->(zhB h k=0↔∀ t:Nat,(t:Int)<h.pw->(∃ x∈zaQ h (za5 h.pages k),x<=4096+(k:Int)*h.pw+t/\4096+(k:Int)*h.pw+t<x+zeg h x)\/zap h.words (4096+(k:Int)*h.pw+t)=0):=fun k hk=>by
    unfold zhB;rw [zhC h k (by omega)]
    constructor
    . intro h2 t ht;rcases h2 t _ (zfT h k _ ht) with e | e
      . exact .inl (zhU.1 e)
      . right
        rw [qaH,zeT hc (by omega) ht]at e
        exact e
    . intro h2 t b hb;have ht:(t:Int)<h.pw:=by
       have:=(qap.1 hb).1
       rw [zlK]at this;omega
      rw [zfT h k _ ht]at hb;injection hb with hb
      subst hb;rcases h2 t ht with e | e
      . exact .inl (zhU.2 e)
      . right
        rw [qaH,zeT hc (by omega) ht]
        exact e
   have hptr:(zbw h).fault=0↔∀ a∈zaf h,∀ i:Int,ptrB (atH h a).k (atH h a).n (atH h a).m i=true->zap h.words (a+1+i)=0\/zap h.words (a+1+i)∈zaf h:=by
    unfold zbw;rw [zl2];refine forall_congr' fun a=>forall_congr' fun ha=>?_
    rw [zgq,(zpu ha).2];constructor
    . intro h2 i hi;have hb:=ptr_bd hi;have hn:i<(atH h a).n:=by
       unfold ptrB at hi;simp only [qae,qab]at hi;exact hi.1.2
      obtain ⟨t,rfl⟩:=qaP hb.1;exact h2 t _ (zmb ha hn) (by rw [qaH];exact hi)
    . intro h2 t f ht hp;rw [qaH]at hp;have hlt:=(qap.1 ht).1;have:=zoM ha
      rw [zmb ha (by omega)]at ht
      injection ht with ht
      subst ht;exact h2 t hp
   unfold zeY;rw [if_pos hok];constructor
   . intro hf;have f1:(zaC h 0 h.pages.length).fault=0:=qbQ fun c=>by rw [if_pos c]at hf;exact c hf
     rw [if_neg (by simpa using f1)]at hf
     have f2:(zbw h).fault=0:=qbQ fun c=>by rw [if_pos c]at hf;exact c hf
     rw [if_neg (by simpa using f2)]at hf
     have f3:¬h.np / 4<(zaZ h.pages:Int):=fun c=>by rw [if_pos c]at hf;cases hf
     have fp:=fun k hk=>(hpage k hk).1 ((zei h _ 0).1 f1 k (by omega) (by omega))
     have fe:∀ k:Nat,k<h.pages.length->zbx h k=0:=fun k hk=>(fp k hk).2.1
     refine ⟨hok,fun k g hg=>?_,fe,fun k g hg=>?_,fun p p0 p1=>?_,hptr.1 f2,by omega⟩
     . have hk:=(qap.1 hg).1;have:=(fp k hk).1
       rw [zdR hg]at this;exact this
     . have hk:=(qap.1 hg).1;have:=(hcls k hk).1 (fp k hk).2.2.1
       rw [zdR hg]at this;exact this
     . obtain ⟨i,t,e,hi,ht⟩:=zoq hc p0 p1;have hk:i<h.pages.length:=by omega
       rcases (hdirt i hk).1 (fp i hk).2.2.2 t ht with ⟨x,hx,h2⟩ | e2
       . left
         refine ⟨x,(zoe hok fe).2 ⟨za5 h.pages i,Nat.lt_of_le_of_lt (zmA _ _) hk,hx⟩,?_⟩;rw [e];exact h2
       . right;rw [e];exact e2
   . intro G;have fe:=G.pg;have f1:(zaC h 0 h.pages.length).fault=0:=by
      rw [zei];intro k _ hk;have hk:k<h.pages.length:=by omega
      have hg:h.pages[k]?=some h.pages[k]:=qaq hk
      refine (hpage k hk).2 ⟨?_,fe k hk,(hcls k hk).2 ?_,(hdirt k hk).2 fun t ht=>?_⟩
      . rw [zdR hg];exact G.sp k _ hg
      . rw [zdR hg];exact G.cls k _ hg
      . have hpp:=zaM (p:=(k:Int)) hc (by omega) (by omega)
        rcases G.zero (4096+(k:Int)*h.pw+t) (by omega) (by omega) with ⟨x,hx,h2,h3⟩ | e
        . left
          obtain ⟨k2,hk2,hx2⟩:=(zoe hok fe).1 hx;obtain ⟨j,g,b⟩:=zl5 hok hk2 hx2;have hz:=zqN (zfe hx2);obtain ⟨u1,u2,u3,u4⟩:=b.upto;have hhd:za5 h.pages k=k2:=by
           have hlo:k2<=k:=by
            refine qbQ fun c=>?_
            have:((k:Int)+1)*h.pw<=(k2:Int)*h.pw:=qaV (by omega) (by omega)
            rw [qbd,qbi]at this;omega
           have hhi:(k:Int)<k2+zjo h g:=by
            refine qbQ fun c=>?_
            have:((k2:Int)+zjo h g)*h.pw<=(k:Int)*h.pw:=qaV (by omega) (by omega)
            omega
           obtain ⟨d,rfl⟩:∃ d,k=k2+d:=⟨k-k2,by omega⟩
           refine zeV ?_ d fun t2 q1 q2=>?_
           . rw [zam b.pg];rcases b.kd with ⟨e,-⟩ | ⟨e,-⟩ <;> omega
           . obtain ⟨y,y1,y2⟩:=u4 t2 q1 (by omega)
             rw [zam y1];exact y2
          exact ⟨x,by rw [hhd];exact hx2,h2,h3⟩
        . exact .inr e
     rw [if_neg (by simpa using f1),if_neg (by simpa using hptr.2 G.ptr),if_neg (by have:=G.crowd;omega)]
     rfl
 . constructor
   . intro e;unfold zeY at e;rw [if_neg hok]at e;cases e
   . intro G;exact absurd G.ok hok
end Go.VI.P
namespace Go.VI.P
open Go
open Go.RowKit
def Tile(sz:Int->Int):Int->Int->List Int->Prop
 | a,b,[]=>a=b
 | a,b,q::r=>q=a/\1<=sz q/\Tile sz (a+sz q) b r
theorem zqP{sz:Int->Int}:∀ {l:List Int} {a b c:Int},Tile sz a b l->1<=sz b->c=b+sz b->Tile sz a c (l++[b])
 | [],a,b,c,h,h1,e=>by
  have:a=b:=h
  subst this;exact ⟨rfl,h1,e.symm⟩
 | q::r,a,b,c,h,h1,e=>⟨h.1,h.2.1,zqP h.2.2 h1 e⟩
theorem zgG{sz sz':Int->Int}:∀ {l:List Int} {a b:Int},(∀ q∈l,sz' q=sz q)->Tile sz a b l->Tile sz' a b l
 | [],a,b,_,h=>h
 | q::r,a,b,he,h=>by
  have e:=he q (qbg ..);refine ⟨h.1,by rw [e];exact h.2.1,?_⟩
  rw [e];exact zgG (fun c hc=>he c (qaF _ hc)) h.2.2
theorem zxz{h:Hp}(hok:okH h=true){k:Nat}{g:Pg}(hg:h.pages[k]?=some g)(h1:g.kind=0\/g.kind=3):zbx h k=0/\zaQ h k=[]:=by
 have hkl:=(qap.1 hg).1;exact zf3 hok (by omega) (by rw [zdR hg];exact h1)
end Go.VI.P
namespace Go.VI.P
open Go
open Go.RowKit
theorem zlH{h:Hp}{x:Int}(h0:4096<=x):zaX h x=(zap h.words x).toNat:=by
 unfold zaX zap;by_cases c:okA h.words.length x 1=true
 . rw [if_pos c]
 . rw [if_neg c];have:¬(x-4096).toNat<h.words.length:=fun q=>c (zav.2 (by omega))
   rw [qax,qbV (by omega)];rfl
theorem zxe{k n m i:Int}(h:ptrB k n m i=true):zay k n m=true/\0<=i/\i<n:=by
 unfold ptrB at h;simp only [qae,qab]at h;exact ⟨h.1.1.1,h.1.1.2,h.1.2⟩
end Go.VI.P
namespace Go.VI.P
open Go
open Go.RowKit
def bs(h:Hp)(k:Nat):Int:=4096+(k:Int)*h.pw
def Fw(os qs:List Int)(v w:Int):Prop:=(v=0/\w=0)\/∃ t:Nat,os[t]?=some v/\qs[t]?=some w
theorem Fw.more{os qs os' qs':List Int}{v w:Int}(h:Fw os qs v w)(h1:∃ l,os'=os++l)(h2:∃ l,qs'=qs++l):Fw os' qs' v w:=by
 rcases h with e | ⟨t,e1,e2⟩
 . exact .inl e
 . obtain ⟨l1,rfl⟩:=h1;obtain ⟨l2,rfl⟩:=h2;have t1:=(qap.1 e1).1;have t2:=(qap.1 e2).1;exact .inr ⟨t,by rw [qbL t1];exact e1,by rw [qbL t2];exact e2⟩
structure CI (h:Hp) (x:Wk) (os:List Int) (D:Nat->Int->Prop):Prop where
 inv:Inv h x
 len:os.length=x.queue.length
 dl:∀ i j,D i j->i<os.length
 oin:∀ o∈os,o∈zaf h
 qnd:x.queue.Nodup
 seen:∀ a∈zaf h,a∈os↔(a∈x.queue\/okT (evWd x a).toNat=true)
 plc:∀ (i:Nat) (o q:Int),os[i]?=some o->x.queue[i]?=some q->q=o\/(okT (evWd x o).toNat=true/\tgtV (evWd x o).toNat=q/\zbs x q/\∀ i' j' g',Begins h o i' j' g'->g'.kind=1)
 hd:∀ (i:Nat) (o q:Int),os[i]?=some o->x.queue[i]?=some q->evWd x q=zap h.words o
 fl:∀ (i:Nat) (o q:Int),os[i]?=some o->x.queue[i]?=some q->∀ j,0<=j->j<(atH h o).n->(D i j->ptrB (atH h o).k (atH h o).n (atH h o).m j=true->Fw os x.queue (zap h.words (o+1+j)) (zap x.h.words (q+1+j)))/\((D i j->ptrB (atH h o).k (atH h o).n (atH h o).m j=false)->zap x.h.words (q+1+j)=zap h.words (o+1+j))
 un:∀ a∈zaf h,¬a∈os->∀ j,0<=j->j<osz h a->zap x.h.words (a+j)=zap h.words (a+j)
 ot:∀ p,(∀ a∈zaf h,p<a\/a+osz h a<=p)->(∀ (k:Nat) (g0:Pg),h.pages[k]?=some g0->g0.kind=0->p<bs h k\/bs h k+h.pw<=p)->zap x.h.words p=zap h.words p
 fr:∀ (k:Nat) (g0:Pg) (p:Int),h.pages[k]?=some g0->g0.kind=0->bs h k<=p->p<bs h k+h.pw->(¬(k:Int)∈x.taken\/∃ g,x.h.pages[k]?=some g/\bs h k+g.used<=p)->zap x.h.words p=0
 tile:∀ k:Nat,(k:Int)∈x.taken->∃ u l,x.h.pages[k]?=some ⟨1,1-h.space,u,0⟩/\Tile (evN x) (bs h k) (bs h k+u) l/\∀ q,q∈l↔q∈x.queue/\bs h k<=q/\q<bs h k+h.pw
 ppg:∀ (k:Nat) (g0:Pg),h.pages[k]?=some g0->¬(k:Int)∈x.taken->∃ s,x.h.pages[k]?=some ⟨g0.kind,s,g0.used,g0.pins⟩/\(g0.kind=0->s=g0.space)/\(g0.kind=1->s=if 0<g0.pins then 1-h.space else h.space) /\
  (g0.kind=2->s=if bs h k∈x.queue then 1-h.space else h.space)/\(g0.kind=3->s=if bs h (za5 h.pages k)∈x.queue then 1-h.space else h.space)
 kp:∀ q∈x.queue,q∈zaf h->∀ i j g,Begins h q i j g->g.kind=2\/(g.kind=1/\0<g.pins)
 wb:WB x.h.words
theorem zgJ{os:List Int}{a o:Int}{i:Nat}(h:(os++[a])[i]?=some o):os[i]?=some o\/(i=os.length/\o=a):=by
 by_cases c:i<os.length
 . rw [qbL c]at h;exact .inl h
 . have hl:=(qap.1 h).1;rw [qaD,qbF]at hl;have e:i=os.length:=by omega
   subst e;rw [qbo (qao _),qbG]at h;simp only [qce,Option.some.injEq]at h;exact .inr ⟨rfl,h.symm⟩
theorem zmz(ps:List Pg):∀ k:Nat,(∀ t,za5 ps k<t->t<=k->(ps.getD t Pg.zero).kind=3)/\(za5 ps k=0\/¬(ps.getD (za5 ps k) Pg.zero).kind=3)
 | 0=>⟨fun t h1 h2=>by unfold za5 at h1;omega,.inl rfl⟩
 | k+1=>by
  obtain ⟨ih1,ih2⟩:=zmz ps k;unfold za5;by_cases c:(ps.getD (k+1) Pg.zero).kind=3
  . rw [if_pos c];refine ⟨fun t h1 h2=>?_,ih2⟩
    by_cases e:t=k+1
    . rw [e];exact c
    . exact ih1 t h1 (by omega)
  . rw [if_neg c];exact ⟨fun t h1 h2=>by omega,.inr c⟩
theorem zv7{h:Hp}(hp:0<=h.pw){k k':Nat}(hk:k<k'):bs h k+h.pw<=bs h k':=by
 unfold bs;have:((k:Int)+1)*h.pw<=(k':Int)*h.pw:=qaV (by omega) hp
 rw [qbd,qbi]at this;omega
theorem zmS{h:Hp}(hp:0<=h.pw){k k':Nat}{p:Int}(h1:bs h k<=p)(h2:p<bs h k+h.pw)(h3:bs h k'<=p)(h4:p<bs h k'+h.pw):k=k':=by
 refine qbQ fun c=>?_
 by_cases hlt:k<k'
 . have:=zv7 hp hlt;omega
 . have:=zv7 (h:=h) hp (show k'<k by omega);omega
theorem zzF{h:Hp}{a:Int}{i j:Nat}{g:Pg}(b:Begins h a i j g):bs h i<=a/\a<bs h i+h.pw:=by
 have:=b.ad
 have:=b.jl
 unfold bs;omega
theorem CI.begin{h:Hp}(G:Good h)(hwb:WB h.words):CI h (zbB h) [] (fun _ _=>False):=by
 have I:=zgp G.ok;have hpw:=I.conf;have hw:(zbB h).h.words=h.words:=rfl
 have hev:∀ a,evWd (zbB h) a=zap h.words a:=fun a=>rfl
 refine ⟨I,rfl,(fun i j c=>c.elim),(fun o ho=>nomatch ho),qcq,fun a ha=>?_,(fun i o q h1=>by simp at h1),(fun i o q h1=>by simp at h1),(fun i o q h1=>by simp at h1),fun a ha _ j _ _=>rfl,fun p _ _=>rfl,fun k g0 p hg hk h1 h2 _=>?_,(fun k hk=>nomatch hk),fun k g0 hg _=>?_,(fun q hq=>nomatch hq),hwb⟩
 . have:=zh7 (x:=zbB h) ha rfl
   constructor
   . intro c;cases c
   . rintro (c | c)
     . cases c
     . rw [this.2.2.2]at c;cases c
 . show zap h.words p=0
   have hkl:=(qap.1 hg).1;have hpp:=zaM (p:=(k:Int)) (zan G.ok).1 (by omega) (by omega)
   unfold bs at h1 h2;rcases G.zero p (by omega) (by omega) with ⟨x,hx,q1,q2⟩ | e
   . exfalso
     obtain ⟨i,j,g,b⟩:=zoV (zgH hx);have hz:=zqN (zgH hx);have:=zaU b hg hk
     have hb:=b.pos;omega
   . exact e
 . have hsp:=G.sp k g0 hg;have e:(zbB h).h.pages[k]?=some (if g0.kind=1/\0<g0.pins then ⟨g0.kind,1-h.space,g0.used,g0.pins⟩ else g0):=by
    show (h.pages.map _)[k]?=_
    rw [qbc,hg];rfl
   by_cases c:g0.kind=1/\0<g0.pins
   . rw [if_pos c]at e;exact ⟨_,e,fun q=>by omega,fun _=>by rw [if_pos c.2],fun q=>by omega,fun q=>by omega⟩
   . rw [if_neg c]at e;refine ⟨g0.space,e,fun _=>rfl,fun q=>?_,fun q=>?_,fun q=>?_⟩
     . rw [if_neg (fun q2=>c ⟨q,q2⟩)];omega
     . show g0.space=if bs h k∈([]:List Int) then _ else _
       rw [if_neg (by simp)];omega
     . show g0.space=if bs h (za5 h.pages k)∈([]:List Int) then _ else _
       rw [if_neg (by simp)];omega
theorem CI.kept{h:Hp}{x y:Wk}{os:List Int}{D:Nat->Int->Prop}(C:CI h x os D){a:Int}(ha:a∈zaf h)(hq:¬a∈x.queue)(ht:okT (evWd x a).toNat=false)
 (Iy:Inv h y) (ew:y.h.words=x.h.words) (eq:y.queue=x.queue++[a]) (et:y.taken=x.taken) (ep:y.h.pw=x.h.pw) (htk:∀ k:Nat,(k:Int)∈x.taken->y.h.pages[k]?=x.h.pages[k]?)
 (hpp:∀ (k:Nat) (g0:Pg),h.pages[k]?=some g0->¬(k:Int)∈x.taken->∃ s,y.h.pages[k]?=some ⟨g0.kind,s,g0.used,g0.pins⟩/\(g0.kind=0->s=g0.space)/\(g0.kind=1->s=if 0<g0.pins then 1-h.space else h.space) /\
  (g0.kind=2->s=if bs h k∈y.queue then 1-h.space else h.space)/\(g0.kind=3->s=if bs h (za5 h.pages k)∈y.queue then 1-h.space else h.space))
 (hkp:∀ i j g,Begins h a i j g->g.kind=2\/(g.kind=1/\0<g.pins)):CI h y (os++[a]) D:=by
 have I:=C.inv;have hcf:=I.conf;have hev:∀ b,evWd y b=evWd x b:=fun b=>by unfold evWd;rw [ew]
 have hevN:∀ b,evN y b=evN x b:=fun b=>by unfold evN;rw [hev]
 have hao:¬a∈os:=fun c=>by
  rcases (C.seen a ha).1 c with e | e
  . exact hq e
  . rw [ht]at e;cases e
 have hcp:∀ q,zbs x q->zbs y q:=fun q ⟨k,g,c1,c2,c3,c4,c5⟩=>⟨k,g,by rw [et];exact c1,by rw [htk k c1];exact c2,by rw [ep];exact c3,by rw [hev];exact c4,by rw [hevN,ep];exact c5⟩
 have e0:evWd x a=zap h.words a:=by
  rcases I.un a ha with e | e
  . exact e
  . rw [ht]at e;exact absurd e.1 (by decide)
 obtain ⟨ia,ja,ga,ba⟩:=zal ha;have hon:=zzF ba;have hlen:(os++[a]).length=y.queue.length:=by rw [eq,qaD,qaD,C.len]
 have hqg:∀ (i:Nat) (o q:Int),(os++[a])[i]?=some o->y.queue[i]?=some q->(os[i]?=some o/\x.queue[i]?=some q)\/(i=os.length/\o=a/\q=a):=fun i o q h1 h2=>by
  rw [eq]at h2;rcases zgJ h1 with e | ⟨e1,e2⟩
  . rcases zgJ h2 with e' | ⟨e1',-⟩
    . exact .inl ⟨e,e'⟩
    . have:=(qap.1 e).1
      rw [C.len]at this;omega
  . rcases zgJ h2 with e' | ⟨-,e2'⟩
    . have:=(qap.1 e').1
      rw [<-C.len]at this;omega
    . exact .inr ⟨e1,e2,e2'⟩
 refine ⟨Iy,hlen,fun i j d=>by rw [qaD];have:=C.dl i j d;omega,fun o ho=>?_,?_,fun c hc=>?_,fun i o q h1 h2=>?_,fun i o q h1 h2=>?_,fun i o q h1 h2 j j0 j1=>?_,fun c hc hn j j0 j1=>?_,fun p h1 h2=>by rw [ew];exact C.ot p h1 h2,fun k g0 p hg hk h1 h2 h3=>?_,fun k hk=>?_,fun k g0 hg hk=>hpp k g0 hg (by rw [<-et];exact hk),fun q hq2 hqo=>?_,by rw [ew];exact C.wb⟩
 . rcases qak.1 ho with e | e
   . exact C.oin o e
   . rw [qaE.1 e];exact ha
 . rw [eq];exact List.nodup_append.2 ⟨C.qnd,by simp,fun u hu v hv=>by rw [qaE.1 hv];exact fun e=>hq (e ▸ hu)⟩
 . rw [hev,eq,qak,qak,C.seen c hc];simp only [qaE];constructor
   . rintro ((e | e) | e)
     . exact .inl (.inl e)
     . exact .inr e
     . exact .inl (.inr e)
   . rintro ((e | e) | e)
     . exact .inl (.inl e)
     . exact .inr e
     . exact .inl (.inr e)
 . rcases hqg i o q h1 h2 with ⟨e1,e2⟩ | ⟨-,e1,e2⟩
   . rcases C.plc i o q e1 e2 with e | ⟨e3,e4,e5,e6⟩
     . exact .inl e
     . exact .inr ⟨by rw [hev];exact e3,by rw [hev];exact e4,hcp q e5,e6⟩
   . left;rw [e1,e2]
 . rw [hev];rcases hqg i o q h1 h2 with ⟨e1,e2⟩ | ⟨-,e1,e2⟩
   . exact C.hd i o q e1 e2
   . rw [e1,e2];exact e0
 . rw [ew];rcases hqg i o q h1 h2 with ⟨e1,e2⟩ | ⟨ei,e1,e2⟩
   . obtain ⟨f1,f2⟩:=C.fl i o q e1 e2 j j0 j1;exact ⟨fun d p=>(f1 d p).more ⟨_,rfl⟩ ⟨_,eq⟩,f2⟩
   . subst e1 e2;refine ⟨fun d=>by have:=C.dl i j d;omega,fun _=>?_⟩
     have:=C.un q ha hao (j+1) (by omega) (by unfold osz;omega)
     rwa [show q+(j+1)=q+1+j from by omega]at this
 . rw [ew];exact C.un c hc (fun e=>hn (qaG _ e)) j j0 j1
 . rw [ew];refine C.fr k g0 p hg hk h1 h2 ?_;rw [et]at h3;by_cases c:(k:Int)∈x.taken
   . rcases h3 with e | e
     . exact .inl e
     . rw [htk k c]at e;exact .inr e
   . exact .inl c
 . rw [et]at hk;obtain ⟨u,l,t1,t2,t3⟩:=C.tile k hk;obtain ⟨k2,g0,g2,f1,f2,f3,-⟩:=I.tk _ hk;obtain rfl:k=k2:=by omega
   refine ⟨u,l,by rw [htk k hk];exact t1,zgG (fun q _=>hevN q) t2,fun q=>?_⟩
   rw [t3,eq,qak,qaE];constructor
   . rintro ⟨q1,q2⟩;exact ⟨.inl q1,q2⟩
   . rintro ⟨q1 | q1,q2,q3⟩
     . exact ⟨q1,q2,q3⟩
     . subst q1;exfalso
       have:=zmS (by omega) q2 q3 hon.1 hon.2
       subst this;have:=ba.pg
       rw [f2]at this;injection this with this
       subst this;rcases ba.kd with ⟨q,-⟩ | ⟨q,-⟩ <;> omega
 . rw [eq]at hq2;rcases qak.1 hq2 with e | e
   . exact C.kp q e hqo
   . rw [qaE.1 e];exact hkp
end Go.VI.P
namespace Go.VI.P
open Go
open Go.RowKit
theorem zqQ{h:Hp}(hok:okH h=true){k:Nat}{g:Pg}(hg:h.pages[k]?=some g)(hk:g.kind=3):∃ l y,l<k/\za5 h.pages k=l/\h.pages[l]?=some y/\y.kind=2:=by
 obtain ⟨p1,p2,p3,p4,p5,p6,p7⟩:=zan hok;have hT:zbt h.pw h.np h.pages=true:=by rw [<-zkm];exact p7
 have ho:=za0.1 hT k g hg;unfold zbn at ho;rw [if_neg (by omega),if_neg (by omega),if_neg (by omega),if_pos hk]at ho
 unfold zd6 at ho;simp only [qae]at ho;have ho:=ho.2;unfold zf6 at ho;obtain ⟨l,l1,l2,l3,l4⟩:=(zb9 h.pw h.np h.pages k 1).1 ho;have hkl:=(qap.1 hg).1;have hl:h.pages[l]?=some h.pages[l]:=qaq (by omega)
 rw [zam hl]at l2 l4;generalize h.pages[l]=y at hl l2 l4
 obtain ⟨t1,t2,t3⟩:=zfh p7 hl l2;refine ⟨l,y,l1,?_,hl,l2⟩;obtain ⟨d,rfl⟩:∃ d,k=l+d:=⟨k-l,by omega⟩
 refine zeV (by rw [zam hl];omega) d fun t q1 q2=>?_
 obtain ⟨z,z1,z2,-⟩:=t3 t q1 (by omega)
 rw [zam z1];exact z2
theorem zkl{α:Type}{P:α->Bool}:∀ (l:List α) (n:Nat),n<=l.length->(∀ t y,t<n->l[t]?=some y->P y=true)->n<=(l.takeWhile P).length
 | l,0,_,_=>qbe _
 | [],n+1,h,_=>by simp at h
 | y::r,n+1,h,hp=>by
  rw [qcF,hp 0 y (by omega) rfl]
  simp only [if_true,qaJ];have:=zkl r n (by simpa using h) fun t z ht hz=>hp (t+1) z (by omega) (by simpa using hz)
  omega
theorem CI.keep1{h:Hp}{x:Wk}{os:List Int}{D:Nat->Int->Prop}(C:CI h x os D){a:Int}(ha:a∈zaf h)(hq:¬a∈x.queue)(ht:okT (evWd x a).toNat=false)(hpr:zdv x (evI x a)=true):CI h (zcA x a) (os++[a]) D:=by
 have I:=C.inv;have hcf:=I.conf;obtain ⟨i,j,g,b⟩:=zal ha;have hoi:evI x a=i:=by unfold evI;rw [I.pw,I.np];exact b.oi
 obtain ⟨s,s1,s2,s3,s4,s5⟩:=C.ppg i g b.pg (I.begun b);rw [hoi]at hpr;unfold zdv at hpr;rw [qac,s1]at hpr;simp only [qae,qab,qar,qag]at hpr;obtain ⟨-,⟨k1,k2⟩,-⟩:=hpr;rw [I.sp]at k2;have hpins:0<g.pins:=qbQ fun c=>k2 (by rw [s3 k1,if_neg c])
 have hon:=zzF b;have hnb:∀ (k:Nat) (y:Pg),h.pages[k]?=some y->y.kind=2->bs h k≠a:=fun k y hy hk e=>by
  have:=zmS (h:=h) (by omega) (k:=k) (k':=i) (p:=a) (by omega) (by omega) hon.1 hon.2
  subst this;have:=b.pg
  rw [hy]at this;injection this with this
  subst this;omega
 refine C.kept ha hq ht (I.keep ha hq ht).1 rfl rfl rfl rfl (fun _ _=>rfl) (fun k g0 hg hk=>?_) fun i' j' g' b'=>?_
 . obtain ⟨s',q1,q2,q3,q4,q5⟩:=C.ppg k g0 hg hk;refine ⟨s',q1,q2,q3,fun k2=>?_,fun k3=>?_⟩
   . rw [q4 k2];have:bs h k∈(zcA x a).queue↔bs h k∈x.queue:=by
      show bs h k∈x.queue++[a]↔_
      rw [qak,qaE];exact ⟨fun c=>c.elim id fun e=>absurd e (hnb k g0 hg k2),.inl⟩
     simp only [this]
   . rw [q5 k3];obtain ⟨l,y,-,l2,l3,l4⟩:=zqQ I.ok hg k3;rw [l2];have:bs h l∈(zcA x a).queue↔bs h l∈x.queue:=by
      show bs h l∈x.queue++[a]↔_
      rw [qak,qaE];exact ⟨fun c=>c.elim id fun e=>absurd e (hnb l y l3 l4),.inl⟩
     simp only [this]
 . have:i'=i:=by have h1:=b.oi;have h2:=b'.oi;omega
   subst this;have:g'=g:=by have h1:=b.pg;have h2:=b'.pg;rw [h1]at h2;injection h2 with h2;exact h2.symm
   subst this;exact .inr ⟨k1,hpins⟩
theorem CI.keep2{h:Hp}{x:Wk}{os:List Int}{D:Nat->Int->Prop}(C:CI h x os D){a:Int}(ha:a∈zaf h)(hq:¬a∈x.queue)(ht:okT (evWd x a).toNat=false)(hbig:zeq x a=true):CI h (zcA (zbV x (evI x a).toNat) a) (os++[a]) D:=by
 have I:=C.inv;have hcf:=I.conf;obtain ⟨i,j,g,b⟩:=zal ha;have hoi:evI x a=i:=by unfold evI;rw [I.pw,I.np];exact b.oi
 obtain ⟨s,s1,s2,s3,s4,s5⟩:=C.ppg i g b.pg (I.begun b);unfold zeq at hbig;rw [hoi,qac,zam s1]at hbig;have k2:g.kind=2:=qat hbig
 have haj:a=bs h i:=by
  rcases b.kd with ⟨k,-⟩ | ⟨-,k,-⟩
  . omega
  . have:=b.ad;unfold bs;omega
 rw [hoi,qac];obtain ⟨I2,L2,e1,e2⟩:=I.large s1 (by exact k2)
 have hbs:∀ k:Nat,bs h k=a->k=i:=fun k e=>by
  have:(k:Int)*h.pw=(i:Int)*h.pw:=by unfold bs at e haj;omega
  have h0:h.pw≠0:=by omega
  have:=Int.eq_of_mul_eq_mul_right h0 this
  omega
 have htk3:∀ k:Nat,(k:Int)∈x.taken->∃ y,x.h.pages[k]?=some y/\y.kind=1:=fun k hk=>by
  obtain ⟨u,l,t1,-⟩:=C.tile k hk;exact ⟨_,t1,rfl⟩
 have hrange:∀ (k:Nat) (g0:Pg),h.pages[k]?=some g0->¬(k:Int)∈x.taken->((i<=k/\k<zbR x.h.pages i)↔(k=i\/(g0.kind=3/\za5 h.pages k=i))):=fun k g0 hg hk=>by
  have hkl:=(qap.1 hg).1;constructor
  . rintro ⟨r1,r2⟩;by_cases e:k=i
    . exact .inl e
    . right
      have hall:∀ t,i<t->t<=k->(h.pages.getD t Pg.zero).kind=3:=fun t t1 t2=>by
       unfold zbR at r2;obtain ⟨z,z1,z2⟩:=zd5 (l:=x.h.pages.drop (i+1)) (k:=t-(i+1)) (P:=fun y=>decide (y.kind=3)) (by omega)
       rw [qbb,show i+1+(t-(i+1))=t from by omega]at z1
       have z2:z.kind=3:=qat z2
       have hnt:¬(t:Int)∈x.taken:=fun c=>by
        obtain ⟨y,y1,y2⟩:=htk3 t c;rw [z1]at y1;injection y1 with y1;subst y1;omega
       have ht0:h.pages[t]?=some h.pages[t]:=qaq (by omega)
       obtain ⟨y,y1,y2,y3⟩:=I.pg t _ ht0 hnt;rw [z1]at y1;injection y1 with y1;subst y1
       rw [zam ht0];omega
      obtain ⟨d,rfl⟩:∃ d,k=i+d:=⟨k-i,by omega⟩
      refine ⟨?_,zeV (by rw [zam b.pg];omega) d hall⟩
      have:=hall (i+d) (by omega) (qao _)
      rwa [zam hg]at this
  . rintro (e | ⟨e1,e2⟩)
    . subst e;exact ⟨qao _,by unfold zbR;omega⟩
    . have hle:=zmA h.pages k;have hne:k≠i:=fun c=>by subst c;have:=b.pg;rw [hg]at this;injection this with this;subst this;omega
      obtain ⟨hs1,-⟩:=zmz h.pages k;rw [e2]at hs1;refine ⟨by omega,?_⟩
      unfold zbR;have hpl:=I.pl;have:=zkl (P:=fun y:Pg=>decide (y.kind=3)) (x.h.pages.drop (i+1)) (k-i) (by rw [qaK];omega) fun t y ht1 hy=>by
       rw [qbb]at hy;have h3:=hs1 (i+1+t) (by omega) (by omega)
       have ht0:h.pages[i+1+t]?=some h.pages[i+1+t]:=qaq (by omega)
       rw [zam ht0]at h3;have hnt:¬((i+1+t:Nat):Int)∈x.taken:=fun c=>by
        obtain ⟨k3,g0',g',f0,f1,f2,-⟩:=I.tk _ c;obtain rfl:i+1+t=k3:=by omega
        rw [ht0]at f1;injection f1 with f1;rw [f1]at h3;omega
       obtain ⟨y',y1,y2,y3⟩:=I.pg _ _ ht0 hnt;rw [hy]at y1;injection y1 with y1;subst y1
       exact qad (by omega)
      omega
 have hpage:∀ (k:Nat) (y:Pg),x.h.pages[k]?=some y->(zcA (zbV x i) a).h.pages[k]?=some (if i<=k/\k<zbR x.h.pages i then ⟨y.kind,1-x.h.space,y.used,y.pins⟩ else y):=fun k y hy=>zhl hy
 refine C.kept ha hq ht (I2.keep ha (by rw [e2];exact hq) (by rw [e1];exact ht)).1 rfl rfl rfl rfl (fun k hk=>?_) (fun k g0 hg hk=>?_) fun i' j' g' b'=>?_
 . obtain ⟨y,y1,y2⟩:=htk3 k hk;rw [hpage k y y1,y1];rw [if_neg];rintro ⟨r1,r2⟩;unfold zbR at r2;by_cases e:k=i
   . subst e;rw [s1]at y1;injection y1 with y1;subst y1;simp only at y2;omega
   . obtain ⟨z,z1,z2⟩:=zd5 (l:=x.h.pages.drop (i+1)) (k:=k-(i+1)) (P:=fun y=>decide (y.kind=3)) (by omega)
     rw [qbb,show i+1+(k-(i+1))=k from by omega,y1]at z1
     injection z1 with z1
     subst z1;have:=qat z2
     omega
 . obtain ⟨s',q1,q2,q3,q4,q5⟩:=C.ppg k g0 hg hk;have hm:∀ c,c∈(zcA (zbV x i) a).queue↔c∈x.queue\/c=a:=fun c=>by
    show c∈x.queue++[a]↔_
    rw [qak,qaE]
   have hr:=hrange k g0 hg hk;rw [hpage k _ q1,I.sp];by_cases c:i<=k/\k<zbR x.h.pages i
   . rw [if_pos c];refine ⟨1-h.space,rfl,fun k0=>?_,fun k1=>?_,fun kk2=>?_,fun k3=>?_⟩
     . rcases hr.1 c with e | ⟨e,-⟩
       . subst e;have:=b.pg;rw [hg]at this;injection this with this;subst this;omega
       . omega
     . rcases hr.1 c with e | ⟨e,-⟩
       . subst e;have:=b.pg;rw [hg]at this;injection this with this;subst this;omega
       . omega
     . rcases hr.1 c with e | ⟨e,-⟩
       . subst e;rw [if_pos ((hm _).2 (.inr haj.symm))]
       . omega
     . rcases hr.1 c with e | ⟨-,e⟩
       . subst e;have:=b.pg;rw [hg]at this;injection this with this;subst this;omega
       . rw [e,if_pos ((hm _).2 (.inr haj.symm))]
   . rw [if_neg c];have hc:=fun d=>c (hr.2 d)
     refine ⟨s',rfl,q2,q3,fun kk2=>?_,fun k3=>?_⟩
     . rw [q4 kk2];have:bs h k∈(zcA (zbV x i) a).queue↔bs h k∈x.queue:=by
        rw [hm];exact ⟨fun d=>d.elim id fun e=>absurd (.inl (hbs k e)) hc,.inl⟩
       simp only [this]
     . rw [q5 k3];have:bs h (za5 h.pages k)∈(zcA (zbV x i) a).queue↔bs h (za5 h.pages k)∈x.queue:=by
        rw [hm];exact ⟨fun d=>d.elim id fun e=>absurd (.inr ⟨k3,hbs _ e⟩) hc,.inl⟩
       simp only [this]
 . have:i'=i:=by have h1:=b.oi;have h2:=b'.oi;omega
   subst this;have:g'=g:=by have h1:=b.pg;have h2:=b'.pg;rw [h1]at h2;injection h2 with h2;exact h2.symm
   subst this;exact .inl k2
theorem zoS{h:Hp}{x:Wk}{os:List Int}{D:Nat->Int->Prop}(C:CI h x os D){a:Int}(ha:a∈zaf h)(ht:okT (evWd x a).toNat=false)(hbig:zeq x a=false)(hpl:plB x (evN x a)=true):
 ∃ (J:Nat) (u:Int) (g0:Pg),plA x (evN x a)=bs h J+u/\evN x a=osz h a/\0<=u/\u+osz h a<=h.pw/\(J:Int)<h.np/\h.pages[J]?=some g0/\g0.kind=0 /\
  (∀ k:Nat,k≠J->(zbi x a).h.pages[k]?=x.h.pages[k]?)/\(zbi x a).h.pages[J]?=some ⟨1,1-h.space,u+osz h a,0⟩/\(∀ t,t∈(zbi x a).taken↔t∈x.taken\/t=J) /\
  ((J:Int)∈x.taken->x.h.pages[J]?=some ⟨1,1-h.space,u,0⟩)/\(¬(J:Int)∈x.taken->u=0)/\(zbi x a).queue=x.queue++[bs h J+u] /\
  (∀ p,p≠a->(p<bs h J+u\/bs h J+u+osz h a<=p)->zap (zbi x a).h.words p=zap x.h.words p) /\
  (∀ j,0<=j->j<osz h a->zap (zbi x a).h.words (bs h J+u+j)=zap x.h.words (a+j))/\zap (zbi x a).h.words a=fwdV (bs h J+u)/\(a+osz h a<=bs h J\/bs h J+h.pw<=a)/\∀ i' j' g',Begins h a i' j' g'->g'.kind=1:=by
 have I:=C.inv;obtain ⟨c1,c2,c3,c4,c5,c6,c7,c8,c9⟩:=I.conf;obtain ⟨i,j,g,b⟩:=zal ha;have hbp:=b.pos;have hbw:=b.wl;have hwl:=I.wl;have e0:evWd x a=zap h.words a:=(I.un a ha).elim id (fun c=>by rw [ht]at c;exact absurd c.1 (by decide))
 obtain ⟨e1,e2,e3,-⟩:=zh7 ha e0;have hoi:evI x a=i:=by unfold evI;rw [I.pw,I.np];exact b.oi
 obtain ⟨y,f1,f2,f3⟩:=I.pg i g b.pg (I.begun b);have hk1:g.kind=1:=by
  rcases b.kd with ⟨k,-⟩ | ⟨k,-⟩
  . exact k
  . unfold zeq at hbig;rw [hoi,qac,zam f1]at hbig;have:=qa4 hbig
    omega
 have hn:osz h a<=h.pw:=by
  rcases b.kd with ⟨k,l,m⟩ | ⟨k,-⟩ <;> omega
 rw [e2]at hpl ⊢
 obtain ⟨J,y0,p1,p2,p3,p4,p5,p6,p7⟩:=zeH I.plok hpl;have hplen:=I.pl;rw [I.pw]at p6 p7;have eP:(zbi x a).h.pages=(plPs x (osz h a)).set J ⟨y0.kind,y0.space,y0.used+osz h a,y0.pins⟩:=by
  show (plW x (evN x a)).h.pages=_
  rw [e2];show zgS (plPs x (osz h a)) (plJ x (osz h a)).toNat (osz h a)=_
  unfold zgS;rw [p1,qac,zam p4]
 have eT:(zbi x a).taken=plT x (osz h a):=by show (plW x (evN x a)).taken=_;rw [e2];rfl
 have eA:plA x (osz h a)=bs h J+y0.used:=by
  unfold plA bs;rw [p1,qac,zam p4,I.pw]
 have eQ:(zbi x a).queue=x.queue++[bs h J+y0.used]:=by show x.queue++[plA x (evN x a)]=_;rw [e2,eA]
 have hJlt:(J:Int)<h.np:=by omega
 obtain ⟨g0,hg0,hk0,hsame,hJpage,htk,hin,hout⟩:∃ g0,h.pages[J]?=some g0/\g0.kind=0/\(∀ k:Nat,k≠J->(plPs x (osz h a))[k]?=x.h.pages[k]?)/\(y0.kind=1/\y0.space=1-h.space/\y0.pins=0)/\(∀ t,t∈plT x (osz h a)↔t∈x.taken\/t=J) /\
  ((J:Int)∈x.taken->x.h.pages[J]?=some ⟨1,1-h.space,y0.used,0⟩)/\(¬(J:Int)∈x.taken->y0.used=0)/\y0.used+osz h a<=h.pw:=by
  rcases p7 with ⟨r1,r2,r3,r4⟩ | ⟨r1,r2,r3,r4,z,r5,r6⟩
  . have hm:(J:Int)∈x.taken:=List.mem_of_getLast? r3;obtain ⟨k2,g0,g',f0,f1',f2',-⟩:=I.tk _ hm;obtain rfl:J=k2:=by omega
    obtain ⟨u,l,t1,-⟩:=C.tile _ hm;rw [r2]at p4;rw [t1]at p4;injection p4 with p4
    subst p4;refine ⟨g0,f1',f2',fun k _=>by rw [r2],⟨rfl,rfl,rfl⟩,fun t=>?_,fun _=>t1,fun c=>absurd hm c,r4⟩
    unfold plT;rw [if_pos r1]
    constructor
    . exact .inl
    . rintro (q | q)
      . exact q
      . rw [q];exact hm
  . have hnt:¬(J:Int)∈x.taken:=fun hm=>by
     obtain ⟨u,l,t1,-⟩:=C.tile _ hm;rw [r5]at t1;injection t1 with t1;subst t1;cases r6
    have hlt:J<h.pages.length:=by omega
    have hh:h.pages[J]?=some h.pages[J]:=qaq hlt
    obtain ⟨g',q1,q2,q3⟩:=I.pg J _ hh hnt;rw [r5]at q1;injection q1 with q1;subst q1
    subst r4;refine ⟨_,hh,by omega,fun k hk=>by rw [r3,qbX (by omega)],⟨rfl,by rw [<-I.sp],rfl⟩,fun t=>?_,fun hm=>absurd hm hnt,fun _=>rfl,by show 0+osz h a<=h.pw;omega⟩
    unfold plT;rw [r1,r2]
    simp
 obtain ⟨hout,hfit⟩:=hout;have hpp:=zaM (p:=(J:Int)) (zan I.ok).1 (by omega) hJlt
 have hfree:=zaU b hg0 hk0;have hbsJ:bs h J=4096+(J:Int)*h.pw:=rfl
 have ka:okA x.h.words.length (bs h J+y0.used) (osz h a).toNat=true:=zav.2 (by omega)
 have kb:okA x.h.words.length a (osz h a).toNat=true:=zav.2 (by omega)
 have kc:okA (zdy x.h.words (bs h J+y0.used) a (osz h a)).length a [fwdV (bs h J+y0.used)].length=true:=by rw [zlw (by omega) ka kb];exact zav.2 (by simp only [qbF];omega)
 have hW:(zbi x a).h.words=zaI (zdy x.h.words (bs h J+y0.used) a (osz h a)) a [fwdV (bs h J+y0.used)]:=by
  show zkB x a=_
  unfold zkB;rw [e2,eA]
 refine ⟨J,y0.used,g0,eA,rfl,p5,hfit,hJlt,hg0,hk0,fun k hk=>?_,?_,fun t=>by rw [eT];exact htk t,hin,hout,eQ,fun p q1 q2=>?_,fun t t0 t1=>?_,?_,by rw [hbsJ];exact hfree,fun i' j' g' b'=>?_⟩
 . rw [eP,qbX (by omega)];exact hsame k hk
 . rw [eP,List.getElem?_set_self (by omega),hJpage.1,hJpage.2.1,hJpage.2.2]
 . rw [hW,zbN kc (by simp only [qbF];omega)]
   exact ziu (by omega) ka kb (by omega)
 . rw [hW,zbN kc (by simp only [qbF];omega)]
   exact zkt (by omega) ka kb t0 t1
 . rw [hW];exact zit kc
 . have e1:i'=i:=by have h1:=b.oi;have h2:=b'.oi;omega
   subst e1;have h1:=b.pg;have h2:=b'.pg;rw [h1]at h2;injection h2 with h2
   rw [<-h2];exact hk1
end Go.VI.P
namespace Go.VI.P
open Go
open Go.RowKit
theorem CI.copied{h:Hp}{x:Wk}{os:List Int}{D:Nat->Int->Prop}(C:CI h x os D){a:Int}(ha:a∈zaf h)(hq:¬a∈x.queue)(ht:okT (evWd x a).toNat=false)(hpr:zdv x (evI x a)=false)(hbig:zeq x a=false)(hpl:plB x (evN x a)=true):
 CI h (zbi x a) (os++[a]) D/\(zbi x a).queue=x.queue++[plA x (evN x a)]:=by
 have I:=C.inv;obtain ⟨c1,c2,c3,c4,c5,c6,c7,c8,c9⟩:=I.conf;obtain ⟨J,u,g0,eA,eN,u0,u1,hJ,hg0,hk0,hoth,hJp,htk,hin,hnin,eQ,wout,win,wself,hfr,hk1⟩:=zoS C ha ht hbig hpl;rw [eA];obtain ⟨T,hT⟩:∃ T,bs h J+u=T:=⟨_,rfl⟩
 rw [hT]at eQ wout win wself ⊢
 obtain ⟨N,hN⟩:∃ N,osz h a=N:=⟨_,rfl⟩
 rw [hN]at u1 hJp wout win hfr;obtain ⟨ia,ja,ga,ba⟩:=zal ha;have hbp:=ba.pos;rw [hN]at hbp;have Iy:=(I.copied ha hq ht hpr hbig hpl).1;obtain ⟨y,hy⟩:∃ y,zbi x a=y:=⟨_,rfl⟩
 have hpw:(zbi x a).h.pw=h.pw:=I.pw
 rw [hy]at Iy eQ wout win wself hoth hJp htk hpw ⊢
 have hxpw:=I.pw;have hev:∀ p,p≠a->(p<T\/T+N<=p)->evWd y p=evWd x p:=fun p h1 h2=>wout p h1 h2
 have hobjw:∀ c∈zaf h,c≠a->∀ j,0<=j->j<osz h c->zap y.h.words (c+j)=zap x.h.words (c+j):=fun c hc hne j j0 j1=>by
  obtain ⟨i3,j3,g3,b3⟩:=zal hc;have h1:=zaU b3 hg0 hk0;have h2:=zh8 hc ha hne;have h3:=b3.pos;unfold bs at hT;exact wout _ (by omega) (by omega)
 have hobj:∀ c∈zaf h,c≠a->evWd y c=evWd x c:=fun c hc hne=>by
  obtain ⟨i3,j3,g3,b3⟩:=zal hc;have:=hobjw c hc hne 0 (by omega) (by have:=b3.pos;omega)
  rw [Int.add_zero]at this;exact this
 have hcop:∀ q,zbs x q->∃ (k:Nat) (g:Pg),(k:Int)∈x.taken/\x.h.pages[k]?=some g/\bs h k<=q/\okD (evWd x q).toNat=true/\1<=evN x q/\q+evN x q<=bs h k+g.used/\g.used<=h.pw/\(q+evN x q<=T\/T+N<=q)/\(a<bs h k\/bs h k+h.pw<=a):=fun q hc=>by
  obtain ⟨k,g,d1,d2,d3,d4,d5⟩:=hc;rw [hxpw]at d3 d5;obtain ⟨k3,y0,y3,l0,l1,l2,l3,l4,l5,l6⟩:=I.tk _ d1;obtain rfl:k=k3:=by omega
  rw [d2]at l3;injection l3 with l3
  subst l3;have hev1:=(zoO d4).1;have ha1:=zaU ba l1 l2;refine ⟨k,g,d1,d2,d3,d4,by omega,d5,l6,?_,by unfold bs;omega⟩
  by_cases hkJ:k=J
  . subst hkJ;have:=hin d1
    rw [d2]at this;injection this with this
    left
    have hgu:g.used=u:=by rw [this]
    unfold bs at hT;omega
  . by_cases hlt:k<J
    . have:=zv7 (h:=h) (by omega) hlt
      left;unfold bs at hT this;omega
    . have:=zv7 (h:=h) (by omega) (show J<k by omega)
      right;unfold bs at hT this;omega
 have hcopw:∀ q,zbs x q->∀ j,0<=j->j<evN x q->zap y.h.words (q+j)=zap x.h.words (q+j):=fun q hc j j0 j1=>by
  obtain ⟨k,g,d1,d2,d3,d4,d5,d6,d7,d8,d9⟩:=hcop q hc;exact wout _ (by omega) (by omega)
 have hcopev:∀ q,zbs x q->evWd y q=evWd x q:=fun q hc=>by
  obtain ⟨k,g,d1,d2,d3,d4,d5,d6,d7,d8,d9⟩:=hcop q hc;have:=hcopw q hc 0 (by omega) (by omega)
  rw [Int.add_zero]at this;exact this
 have hcc:∀ q,zbs x q->zbs y q:=fun q hc=>by
  have e1:=hcopev q hc;have e2:evN y q=evN x q:=by unfold evN;rw [e1]
  obtain ⟨k,g,d1,d2,d3,d4,d5,d6,d7,d8,d9⟩:=hcop q hc;by_cases hkJ:k=J
  . subst hkJ;have h3:=hin d1;rw [d2]at h3;injection h3 with h3
    have hgu:g.used=u:=by rw [h3]
    exact ⟨k,_,(htk _).2 (.inl d1),hJp,by rw [hpw];exact d3,by rw [e1];exact d4,by rw [e2,hpw];show q+evN x q<=4096+(k:Int)*h.pw+(u+N);unfold bs at d6;omega⟩
  . exact ⟨k,g,(htk _).2 (.inl d1),by rw [hoth k hkJ];exact d2,by rw [hpw];exact d3,by rw [e1];exact d4,by rw [e2,hpw];exact d6⟩
 have hqev:∀ q∈x.queue,evWd y q=evWd x q:=fun q h1=>by
  rcases I.qs q h1 with h2 | h2
  . exact hobj q h2 (fun e=>hq (by rw [<-e];exact h1))
  . exact hcopev q h2
 have hnotobj:∀ c∈zaf h,c≠T:=fun c hc e=>by
  obtain ⟨i3,j3,g3,b3⟩:=zal hc;have h1:=zaU b3 hg0 hk0;have h3:=b3.pos;unfold bs at hT;omega
 have hTq:¬T∈x.queue:=fun h1=>by
  rcases I.qs T h1 with h2 | h2
  . exact hnotobj T h2 rfl
  . obtain ⟨k,g,d1,d2,d3,d4,d5,d6,d7,d8,d9⟩:=hcop T h2;omega
 have hao:¬a∈os:=fun c=>by
  rcases (C.seen a ha).1 c with e | e
  . exact hq e
  . rw [ht]at e;cases e
 have e0:evWd x a=zap h.words a:=by
  rcases I.un a ha with e | e
  . exact e
  . rw [ht]at e;exact absurd e.1 (by decide)
 have eT:evWd y T=evWd x a:=by
  have:=win 0 (by omega) (by omega)
  rw [Int.add_zero,Int.add_zero]at this;exact this
 have eTN:evN y T=N:=by
  unfold evN;rw [eT]
  obtain ⟨e1,e2,-⟩:=zh7 ha e0;unfold evN at e2;rw [e2,hN]
 have hbJ:4096<=bs h J/\bs h J+h.pw<=4096+h.np*h.pw:=by
  have hpp:=zaM (p:=(J:Int)) (zan I.ok).1 (by omega) hJ
  unfold bs;omega
 have hokT:okT (evWd y a).toNat=true/\tgtV (evWd y a).toNat=T:=by
  have:evWd y a=fwdV T:=wself
  rw [this];have h1:=zps (a:=T) (by omega) (by omega)
  refine ⟨h1,?_⟩;rw [zzA h1,(zzL (a:=T) (by omega)).1];omega
 have hcT:zbs y T:=by
  refine ⟨J,_,(htk _).2 (.inr rfl),hJp,by rw [hpw];unfold bs at hT;omega,?_,?_⟩
  . rw [eT];exact (zh7 ha e0).1
  . rw [eTN,hpw];show T+N<=4096+(J:Int)*h.pw+(u+N);unfold bs at hT;omega
 have hqg:∀ (i:Nat) (o q:Int),(os++[a])[i]?=some o->y.queue[i]?=some q->(os[i]?=some o/\x.queue[i]?=some q)\/(i=os.length/\o=a/\q=T):=fun i o q h1 h2=>by
  rw [eQ]at h2;rcases zgJ h1 with e | ⟨e1,e2⟩
  . rcases zgJ h2 with e' | ⟨e1',-⟩
    . exact .inl ⟨e,e'⟩
    . have:=(qap.1 e).1
      rw [C.len]at this;omega
  . rcases zgJ h2 with e' | ⟨-,e2'⟩
    . have:=(qap.1 e').1
      rw [<-C.len]at this;omega
    . exact .inr ⟨e1,e2,e2'⟩
 have hoa:∀ (i:Nat) (o:Int),os[i]?=some o->o≠a:=fun i o h1 e=>hao (by rw [<-e];exact qa0 h1)
 refine ⟨⟨Iy,by rw [eQ,qaD,qaD,C.len];rfl,fun i j d=>by rw [qaD];have:=C.dl i j d;omega,fun o ho=>?_,?_,fun c hc=>?_,fun i o q h1 h2=>?_,fun i o q h1 h2=>?_,fun i o q h1 h2 j j0 j1=>?_,fun c hc hn j j0 j1=>?_,fun p h1 h2=>?_,fun k g5 p hg hk h1 h2 h3=>?_,fun k hk=>?_,fun k g5 hg hk=>?_,fun q hq2 hqo=>?_,by rw [<-hy];exact zzO I.plok hpl C.wb⟩,eQ⟩
 . rcases qak.1 ho with e | e
   . exact C.oin o e
   . rw [qaE.1 e];exact ha
 . rw [eQ];exact List.nodup_append.2 ⟨C.qnd,by simp,fun w hw v hv=>by rw [qaE.1 hv];exact fun e=>hTq (e ▸ hw)⟩
 . rw [eQ,qak,qak,qaE,qaE];by_cases e:c=a
   . subst e;exact ⟨fun _=>.inr hokT.1,fun _=>.inr rfl⟩
   . rw [hobj c hc e,C.seen c hc];have:=hnotobj c hc
     constructor
     . rintro ((q | q) | q)
       . exact .inl (.inl q)
       . exact .inr q
       . exact absurd q e
     . rintro ((q | q) | q)
       . exact .inl (.inl q)
       . exact absurd q this
       . exact .inl (.inr q)
 . rcases hqg i o q h1 h2 with ⟨e1,e2⟩ | ⟨-,e1,e2⟩
   . rcases C.plc i o q e1 e2 with e | ⟨e3,e4,e5,e6⟩
     . exact .inl e
     . have:=hobj o (C.oin o (qa0 e1)) (hoa i o e1)
       exact .inr ⟨by rw [this];exact e3,by rw [this];exact e4,hcc q e5,e6⟩
   . right
     rw [e1,e2];exact ⟨hokT.1,hokT.2,hcT,hk1⟩
 . rcases hqg i o q h1 h2 with ⟨e1,e2⟩ | ⟨-,e1,e2⟩
   . rw [hqev q (qa0 e2)];exact C.hd i o q e1 e2
   . rw [e1,e2,eT];exact e0
 . rcases hqg i o q h1 h2 with ⟨e1,e2⟩ | ⟨ei,e1,e2⟩
   . have hqm:=qa0 e2;have hwe:zap y.h.words (q+1+j)=zap x.h.words (q+1+j):=by
      have hhd:=C.hd i o q e1 e2;have hob:=C.oin o (qa0 e1);rcases I.qs q hqm with h5 | h5
      . have hne:q≠a:=fun e=>hq (by rw [<-e];exact hqm)
        have hsz:j+1<osz h q:=by
         obtain ⟨i3,j3,g3,b3⟩:=zal h5;obtain ⟨i4,j4,g4,b4⟩:=zal hob;have k1:=b3.sz;have k2:=b4.sz;have hk:=I.kept h5 hqm;rw [hk]at hhd;have:zaX h q=zaX h o:=by rw [zlH b3.pos.2,zlH b4.pos.2,hhd]
         rw [this]at k1;unfold osz at k2;omega
        have:=hobjw q h5 hne (j+1) (by omega) hsz
        rwa [show q+(j+1)=q+1+j from by omega]at this
      . have hsz:j+1<evN x q:=by
         obtain ⟨k,g,d1,d2,d3,d4,d5,d6,d7,d8,d9⟩:=hcop q h5;have k1:=(zoO d4).1;obtain ⟨i4,j4,g4,b4⟩:=zal hob;have k2:=b4.sz;rw [hhd,<-zlH b4.pos.2]at k1;unfold osz at k2;omega
        have:=hcopw q h5 (j+1) (by omega) hsz
        rwa [show q+(j+1)=q+1+j from by omega]at this
     rw [hwe];obtain ⟨f1,f2⟩:=C.fl i o q e1 e2 j j0 j1;exact ⟨fun d p=>(f1 d p).more ⟨_,rfl⟩ ⟨_,eQ⟩,f2⟩
   . subst e1 e2;refine ⟨fun d=>by have:=C.dl i j d;omega,fun _=>?_⟩
     have hs:j+1<N:=by rw [<-hN];unfold osz;omega
     have h5:=win (j+1) (by omega) hs
     have h6:=C.un o ha hao (j+1) (by omega) (by rw [hN];exact hs)
     rw [show q+1+j=q+(j+1) from by omega,h5,h6,show o+(j+1)=o+1+j from by omega]
 . have hne:c≠a:=fun e=>hn (by rw [e];exact qay _ (qaE.2 rfl))
   rw [hobjw c hc hne j j0 j1];exact C.un c hc (fun e=>hn (qaG _ e)) j j0 j1
 . have hpa:=h1 a ha;have hpj:=h2 J g0 hg0 hk0;rw [wout p (by omega) (by omega)]
   exact C.ot p h1 h2
 . have hpa:=zaU ba hg hk;by_cases e:k=J
   . subst e;have h3':bs h k+(u+N)<=p:=by
      rcases h3 with q | ⟨g6,q1,q2⟩
      . exact absurd ((htk _).2 (.inr rfl)) q
      . rw [hJp]at q1;injection q1 with q1;subst q1;exact q2
     rw [wout p (by unfold bs at h1 h2;omega) (by omega)]
     refine C.fr k g5 p hg hk h1 h2 ?_;by_cases c:(k:Int)∈x.taken
     . exact .inr ⟨_,hin c,by show bs h k+u<=p;omega⟩
     . exact .inl c
   . have hdisj:p<bs h J\/bs h J+h.pw<=p:=by
      by_cases hlt:k<J
      . have:=zv7 (h:=h) (by omega) hlt;omega
      . have:=zv7 (h:=h) (by omega) (show J<k by omega);omega
     rw [wout p (by unfold bs at h1 h2;omega) (by omega)]
     refine C.fr k g5 p hg hk h1 h2 ?_;rcases h3 with q | q
     . exact .inl fun c=>q ((htk _).2 (.inl c))
     . rw [hoth k e]at q;exact .inr q
 . by_cases e:k=J
   . subst e;by_cases c:(k:Int)∈x.taken
     . obtain ⟨u',l,t1,t2,t3⟩:=C.tile k c;have hu:u'=u:=by have:=hin c;rw [t1]at this;injection this with this;injection this
       subst hu;rw [hT]at t2;have hlq:∀ q∈l,evN y q=evN x q:=fun q hql=>by unfold evN;rw [hqev q ((t3 q).1 hql).1]
       refine ⟨u'+N,l++[T],hJp,?_,fun q=>?_⟩
       . refine zqP (zgG hlq t2) (by rw [eTN];omega) (by rw [eTN];omega)
       . rw [qak,qaE,t3,eQ,qak,qaE];constructor
         . rintro (⟨q1,q2⟩ | q1)
           . exact ⟨.inl q1,q2⟩
           . rw [q1];exact ⟨.inr rfl,by omega,by omega⟩
         . rintro ⟨q1 | q1,q2⟩
           . exact .inl ⟨q1,q2⟩
           . exact .inr q1
     . have hu:=hnin c;subst hu;refine ⟨0+N,[T],hJp,⟨by omega,by rw [eTN];omega,by show _=_;rw [eTN];omega⟩,fun q=>?_⟩
       rw [qaE,eQ,qak,qaE];constructor
       . intro q1;rw [q1];exact ⟨.inr rfl,by omega,by omega⟩
       . rintro ⟨q1 | q1,q2,q3⟩
         . exfalso
           rcases I.qs q q1 with h5 | h5
           . obtain ⟨i3,j3,g3,b3⟩:=zal h5;have:=zaU b3 hg0 hk0
             have:=b3.pos
             unfold bs at q2 q3;omega
           . obtain ⟨k3,g3,d1,d2,d3,d4,d5,d6,d7,d8,d9⟩:=hcop q h5;have:=zmS (h:=h) (by omega) q2 q3 d3 (by omega)
             subst this;exact c d1
         . exact q1
   . have hk':(k:Int)∈x.taken:=by
      rcases (htk _).1 hk with q | q
      . exact q
      . exact absurd (by omega) e
     obtain ⟨u',l,t1,t2,t3⟩:=C.tile k hk';have hlq:∀ q∈l,evN y q=evN x q:=fun q hql=>by unfold evN;rw [hqev q ((t3 q).1 hql).1]
     refine ⟨u',l,by rw [hoth k e];exact t1,zgG hlq t2,fun q=>?_⟩
     rw [t3,eQ,qak,qaE];constructor
     . rintro ⟨q1,q2⟩;exact ⟨.inl q1,q2⟩
     . rintro ⟨q1 | q1,q2,q3⟩
       . exact ⟨q1,q2,q3⟩
       . exfalso
         exact e (zmS (h:=h) (by omega) q2 q3 (by omega) (by omega))
 . have hk':¬(k:Int)∈x.taken:=fun c=>hk ((htk _).2 (.inl c))
   have e:k≠J:=fun c=>hk ((htk _).2 (.inr (by rw [c])))
   obtain ⟨s',q1,q2,q3,q4,q5⟩:=C.ppg k g5 hg hk';have hnb:∀ (l:Nat) (z:Pg),h.pages[l]?=some z->z.kind=2->(bs h l∈y.queue↔bs h l∈x.queue):=fun l z hz hzk=>by
    rw [eQ,qak,qaE];refine ⟨fun c=>c.elim id fun c=>?_,.inl⟩
    exfalso
    have:l=J:=zmS (h:=h) (p:=T) (by omega) (by omega) (by omega) (by omega) (by omega)
    subst this;rw [hg0]at hz;injection hz with hz;subst hz;omega
   refine ⟨s',by rw [hoth k e];exact q1,q2,q3,fun kk2=>?_,fun k3=>?_⟩
   . rw [q4 kk2];simp only [hnb k g5 hg kk2]
   . rw [q5 k3];obtain ⟨l,z,-,l2,l3,l4⟩:=zqQ I.ok hg k3;rw [l2];simp only [hnb l z l3 l4]
 . rw [eQ]at hq2;rcases qak.1 hq2 with e | e
   . exact C.kp q e hqo
   . exact absurd (qaE.1 e) (hnotobj q hqo)
theorem CI.forward{h:Hp}{x:Wk}{os:List Int}{D:Nat->Int->Prop}(C:CI h x os D){v:Int}(hv:v=0\/v∈zaf h)(he:evE x v=0):
 ∃ os',CI h (evW x v) os' D/\(∃ l,os'=os++l)/\(∃ l,(evW x v).queue=x.queue++l)/\Fw os' (evW x v).queue v (evA x v):=by
 have I:=C.inv;unfold evE at he;unfold evW evA;by_cases h0:v=0\/v∈x.queue
 . have hc:evC x v=0:=by unfold evC;rw [if_pos h0]
   rw [hc];refine ⟨os,C,⟨[],by simp⟩,⟨[],by simp⟩,?_⟩
   by_cases hz:v=0
   . exact .inl ⟨hz,hz⟩
   have hob:=hv.resolve_left hz;have hin:=h0.resolve_left hz;obtain ⟨t,ht,e⟩:=qb5.1 hin;have hlen:=C.len;have ho:os[t]?=some os[t]:=qaq (by omega)
   have hq:x.queue[t]?=some v:=by rw [qaq ht,e]
   rcases C.plc t _ v ho hq with q | ⟨-,-,q,-⟩
   . exact .inr ⟨t,by rw [ho,<-q],hq⟩
   . exfalso
     obtain ⟨k,g0,d1,d2,d3,d4,d5,d6,d7⟩:=I.copy q;obtain ⟨i3,j3,g3,b3⟩:=zal hob;have h1:=zaU b3 d1 d2;have h3:=b3.pos;omega
 have hz:¬v=0:=fun c=>h0 (.inl c)
 have hq:¬v∈x.queue:=fun c=>h0 (.inr c)
 have ho2:=hv.resolve_left hz;have ho:v∈x.old:=by rw [I.old];exact ho2
 by_cases ht:okT (evWd x v).toNat=true
 . have hc:evC x v=2:=by unfold evC;rw [if_neg h0,if_neg (by simpa using ho),if_pos ht]
   rw [hc];refine ⟨os,C,⟨[],by simp⟩,⟨[],by simp⟩,.inr ?_⟩
   have hin:=(C.seen v ho2).2 (.inr ht);obtain ⟨t,htl,e⟩:=qb5.1 hin;have hlen:=C.len;have hos:os[t]?=some v:=by rw [qaq htl,e]
   have hqq:x.queue[t]?=some x.queue[t]:=qaq (by omega)
   rcases C.plc t v _ hos hqq with q | ⟨-,q,-⟩
   . exact absurd (by rw [<-q];exact qcp _) hq
   . exact ⟨t,hos,by show x.queue[t]?=some (tgtV (evWd x v).toNat);rw [hqq,<-q]⟩
 replace ht:okT (evWd x v).toNat=false:=by simpa using ht
 have hnew:∀ w,Fw (os++[v]) (x.queue++[w]) v w:=fun w=>.inr ⟨os.length,by rw [qbo (qao _),qbG];rfl,by rw [C.len,qbo (qao _),qbG];rfl⟩
 by_cases h3:¬ofE x.h.pw x.h.np v=0\/(x.h.pages.length:Int)<=evI x v
 . have hc:evC x v=3:=by unfold evC;rw [if_neg h0,if_neg (by simpa using ho),if_neg (by simp [ht]),if_pos h3]
   rw [hc]at he;exact absurd he (by decide)
 cases hpr:zdv x (evI x v) with
 | true=>
  have hc:evC x v=4:=by unfold evC;rw [if_neg h0,if_neg (by simpa using ho),if_neg (by simp [ht]),if_neg h3,if_pos hpr]
  rw [hc];exact ⟨os++[v],C.keep1 ho2 hq ht hpr,⟨[v],rfl⟩,⟨[v],rfl⟩,hnew v⟩
 | false=>
  cases hbig:zeq x v with
  | true=>
   have hc:evC x v=5:=by unfold evC;rw [if_neg h0,if_neg (by simpa using ho),if_neg (by simp [ht]),if_neg h3,if_neg (by simp [hpr]),if_pos hbig]
   rw [hc];exact ⟨os++[v],C.keep2 ho2 hq ht hbig,⟨[v],rfl⟩,⟨[v],rfl⟩,hnew v⟩
  | false=>
   cases hpp:plB x (evN x v) with
   | true=>
    have hc:evC x v=7:=by unfold evC;rw [if_neg h0,if_neg (by simpa using ho),if_neg (by simp [ht]),if_neg h3,if_neg (by simp [hpr]),if_neg (by simp [hbig]),if_pos hpp]
    rw [hc];obtain ⟨r1,r2⟩:=C.copied ho2 hq ht hpr hbig hpp;refine ⟨os++[v],r1,⟨[v],rfl⟩,⟨[plA x (evN x v)],r2⟩,?_⟩;show Fw (os++[v]) (zbi x v).queue v (plA x (evN x v))
    rw [r2];exact hnew _
   | false=>
    have hc:evC x v=6:=by unfold evC;rw [if_neg h0,if_neg (by simpa using ho),if_neg (by simp [ht]),if_neg h3,if_neg (by simp [hpr]),if_neg (by simp [hbig]),if_neg (by simp [hpp])]
    rw [hc]at he;exact absurd he (by decide)
end Go.VI.P
