import Derived.Test.YtfjkjbffdhoejaaGreatU04
import Derived.Test.YtfjkjbffdhoejaaGreatU08
import Derived.Test.YtfjkjbffdhoejaaGreatU09
set_option linter.unusedSimpArgs false
set_option linter.unusedVariables false
set_option maxRecDepth 100000
set_option maxHeartbeats 4000000
namespace Go.VI
open Go
theorem zax{c e:Bool}(h:c=true->e=true):(bif c then e else true)=true:=by cases c <;> simp_all
theorem cor(a b:Bool):(bif a then true else b)=(a || b):=by cases a <;> rfl
theorem cand(a b:Bool):(bif a then b else false)=(a&&b):=by cases a <;> rfl
theorem cimp(a b:Bool):(bif a then b else true)=(!a || b):=by cases a <;> rfl
def confB(pw np:Int):Bool:=decide (16<=pw)&&decide (pw<=64)&&decide (pw.tmod 4=0)&&decide (8<=np)&&decide (np<=64)
theorem zaT{pw np:Int}:confB pw np=true↔16<=pw/\pw<=64/\pw.tmod 4=0/\8<=np/\np<=64:=by simp [confB,and_assoc]
theorem zbg(pw np:Int):F_r04_ValidConf ((pw,np,()),())=some ((confB pw np,()),()):=by
 rw [zkV];dsimp only
 have e1:decide (16<=pw)=decide (pw >= 16):=rfl
 have e2:decide (8<=np)=decide (np >= 8):=rfl
 have e3:decide (pw.tmod 4=0)=(pw.tmod 4 == 0):=by rw [qa9];simp
 simp only [confB,e1,e2,e3];cases decide (pw >= 16) <;> cases decide (pw<=64) <;> cases decide (np >= 8) <;> cases (pw.tmod 4 == 0) <;> rfl
theorem zdj(pw np:Int):F_r04_SmallWords ((pw,np,()),())=some (((if confB pw np then W (pw.tdiv 4) else 0),()),()):=by
 rw [zjx];dsimp only
 rw [zbg];cases confB pw np <;> rfl
theorem zwl(n:Int):F_r04_pins (n,())=some ((decide (0<=n)&&decide (n<=2147483647),()),()):=by
 rw [zti];dsimp only
 cases h:decide (0<=n) <;> simp [h]
structure HpW (h:HpD):Prop where
 wl:h.2.1.length<=100000000
 pl:h.2.2.1.length<=100000000
 wb:∀ x∈h.2.1,0<=x/\x<18446744073709551616
theorem zaE{α:Type}{l:List α}{i:Nat}{d:α}(h:i<l.length):l.getD i d∈l:=by
 rw [qay,qas h];exact List.getElem_mem h
end Go.VI
namespace Go.VI
open Go
def toPg(x:PgD):P.Pg:=⟨x.1,x.2.1,x.2.2.1,x.2.2.2.1⟩
theorem zaB(ps:List PgD)(i:Nat):(ps.map toPg).getD i P.Pg.zero=toPg (ps.getD i PG0):=by
 rw [qay,qay,qbd];cases ps[i]? <;> rfl
theorem zaF(pw np:Int):P.confB pw np=confB pw np:=by
 rw [qa9,zaT];unfold P.confB;rw [qab];constructor
 . intro h;rw [qcc (by omega)];omega
 . intro h;have:=h.2.2.1;rw [qcc (by omega)]at this;omega
theorem zgH(pw np n:Int):Tot (fun r=>r.1.1=P.zat pw np n) (F_r04_Need ((pw,np,()),n,())):=by
 rw [ztl];dsimp only
 rw [zbg,qaa];dsimp only;rw [cor];refine zac (fun h1=>zab ?_) fun h1=>?_
 . rw [P.zhp];simp only [qaY,qao,qab]at h1;rw [zaF];exact h1
 rw [zdj,qaa];dsimp only;simp only [qaP,qaw,qag]at h1;obtain ⟨hc,h1⟩:=h1;have c:=zaT.1 hc;have hq:W (pw.tdiv 4)=pw / 4:=by rw [qbE (by omega)];exact W_id (by omega)
 rw [hc,if_pos rfl,hq,P.zho (by rw [zaF];exact hc) (by omega)]
 unfold P.zeO;refine zac (fun h2=>zab ?_) fun h2=>?_
 . rw [if_pos (by simpa using h2)]
 simp only [qag]at h2;rw [if_neg h2];refine zad (P:=fun r=>match r with
  | .inl x=>x.1.1=if n<=pw then 1 else if n<=2*pw then 2 else if n<=3*pw then 3 else if n<=4*pw then 4 else -1
  | .inr _=>4*pw<n) (zai (fun x=>1<=x.1.2.1/\x.1.2.1<=5/\(x.1.2.1-1)*pw<n) (fun x=>(5-x.1.2.1).toNat) ?_ ?_) ?_
 . dsimp only;omega
 . rintro ⟨⟨a,k,_⟩,_⟩ ⟨h3,h4,h5⟩;dsimp only at h3 h4 h5 ⊢
   have hk:k=1\/k=2\/k=3\/k=4\/k=5:=by omega
   have hw:W (k*pw)=k*pw:=W_id (by rcases hk with e | e | e | e | e <;> subst e <;> omega)
   have hw1:W (k+1)=k+1:=W_id (by omega)
   rw [hw];refine zac (fun h6=>zac (fun h7=>zab ?_) fun h7=>zab ?_) fun h6=>zab ?_
   . simp only [qab,qak] at *
     rcases hk with e | e | e | e | e <;> subst e <;> first | (split <;> omega) | omega
   . simp only [qab,qag,qal,hw1] at *
     rcases hk with e | e | e | e | e <;> subst e <;> omega
   . simp only [qag,qak] at *
     have:k=5:=by omega
     subst this;omega
 . rintro r hr;refine zaQ (fun a ha=>?_) fun b hb=>zab ?_
   . subst ha;exact zab hr
   . subst hb;dsimp only at hr ⊢
     rw [if_neg (by omega),if_neg (by omega),if_neg (by omega),if_neg (by omega)]
theorem zt6(ps:List PgD)(i:Nat)(s:Int)(hi:i<ps.length)(hl:ps.length<=100000000):Tot (fun r=>r.1.1=(P.zhd s ((ps.map toPg).drop (i+1)):Int)) (F_r04_tails (ps,(i:Int),s,())):=by
 rw [zrh];dsimp only
 refine zad (P:=fun r=>r.1.1=(P.zhd s ((ps.map toPg).drop (i+1)):Int)) (zai (fun x=>∃ k n:Nat,x.1.1=(n:Int)/\x.1.2.1=(k:Int)/\k<=ps.length/\n<=k/\n+P.zhd s ((ps.map toPg).drop k)=P.zhd s ((ps.map toPg).drop (i+1))) (fun x=>((ps.length:Int)-x.1.2.1).toNat) ?_ ?_) fun r hr=>zab hr
 . have:W ((i:Int)+1)=i+1:=W_id (by omega)
   exact ⟨i+1,0,rfl,by dsimp only;omega,by omega,by omega,by omega⟩
 . rintro ⟨⟨n',k',_⟩,_⟩ ⟨k,n,e1,e2,h1,h2,h3⟩;dsimp only at e1 e2 ⊢
   subst e1 e2;have w1:W ((n:Int)+1)=n+1:=W_id (by omega)
   have w2:W ((k:Int)+1)=k+1:=W_id (by omega)
   simp only [w1,w2,qac,cand];refine zae ?_ (zae ?_ (zac (fun h4=>zab ?_) fun h4=>zab ?_))
   . exact zax fun h=>zaf.2 (by simp only [qab]at h;omega)
   . exact zax fun h=>zax fun _=>zaf.2 (by simp only [qab]at h;omega)
   . simp only [qae,qab,qax]at h4;obtain ⟨q1,q2,q3⟩:=h4;have hk:k<(ps.map toPg).length:=by rw [qai];omega
     simp only [qal];refine ⟨⟨k+1,n+1,by omega,by omega,by omega,by omega,?_⟩,by omega⟩
     have e:(ps.map toPg)[k]=toPg (ps.getD k PG0):=by
      rw [<-zaB,qay,qas hk];rfl
     rw [<-h3,qaT hk,P.zhd,e,if_pos ⟨q2,q3⟩];omega
   . simp only [qak];rw [<-h3];have:P.zhd s ((ps.map toPg).drop k)=0:=by
      by_cases hk:k<(ps.map toPg).length
      . have e:(ps.map toPg)[k]=toPg (ps.getD k PG0):=by
         rw [<-zaB,qay,qas hk];rfl
        rw [qaT hk,P.zhd,e,if_neg];rintro ⟨q2,q3⟩;rw [qai]at hk;rw [show decide ((k:Int)<(ps.length:Int))=true from qad (by omega)]at h4
        simp only [toPg]at q2 q3;rw [q2,q3]at h4;simp at h4
      . rw [qbw (by omega)];rfl
     omega
theorem pins_eq(n:Int):(decide (0<=n)&&decide (n<=2147483647))=P.zfV n:=by
 unfold P.zfV;rw [qa9];simp
def toHp(h:HpD):P.Hp:=⟨h.1.1,h.1.2.1,h.2.1,h.2.2.1.map toPg,h.2.2.2.1,h.2.2.2.2.1⟩
def zxb(h:HpD):Bool:=P.ze7 h.1.1 h.1.2.1 h.2.1.length (h.2.2.1.map toPg) h.2.2.2.1 h.2.2.2.2.1
theorem zzz(a:Int):(if a > 0 then a else 0)=max 0 a:=by split <;> omega
theorem za3(h:HpD)(hw:HpW h):Tot (fun r=>r.1.1=zxb h) (F_r04_Proper (h,())):=by
 obtain ⟨⟨pw,np,_⟩,ws,ps,sp,bu,_⟩:=h;have hl:=hw.pl;have hwl:=hw.wl;dsimp only at hl hwl
 unfold zxb;dsimp only;rw [zpw];dsimp only
 rw [zbg,qaa];dsimp only;simp only [cor,cand,cimp];have hlm:(ps.map toPg).length=ps.length:=qai ..
 refine zac (fun h1=>zab ?_) fun h1=>?_
 . unfold P.ze7;rw [zaF];cases hc:confB pw np
   . rfl
   have c2:=zaT.1 hc;have cm:0<=np*pw/\np*pw<=4096:=⟨qbj (by omega) (by omega),by
    calc np*pw<=64*pw:=qaV (by omega) (by omega)
     _<=64*64:=qcB (by omega) (by omega)⟩
   have cw:W (np*pw)=np*pw:=W_id (by omega)
   rw [hc,cw]at h1;simp only [qaY,qbz,qbl,false_or,qaC,ne_eq,qab]at h1;rw [hlm];dsimp only;symm
   rw [qbC,qbC,qbC,qbC,qbC,qag,qag,qag];rcases h1 with h1 | h1 | h1 | h1
   . exact .inl (.inl (.inl (.inl (.inr h1))))
   . exact .inl (.inl (.inl (.inr h1)))
   . exact .inl (.inl (.inr (by omega)))
   . exact .inl (.inl (.inr (by omega)))
 simp only [qaP,qaw,qag,qaA]at h1;obtain ⟨c1,h1a,h1b,h1c,h1d⟩:=h1;have c2:=zaT.1 c1;have cm:0<=np*pw/\np*pw<=4096:=⟨qbj (by omega) (by omega),by
  calc np*pw<=64*pw:=qaV (by omega) (by omega)
   _<=64*64:=qcB (by omega) (by omega)⟩
 have cw:W (np*pw)=np*pw:=W_id (by omega)
 rw [cw]at h1a;have hpre:P.ze7 pw np ws.length (ps.map toPg) sp bu=(P.zgj (ps.map toPg) bu&&P.zaI pw np (ps.map toPg) 0):=by
  unfold P.ze7;rw [zaF,c1,hlm,qad h1a,qad h1b,qad (show 0<=sp/\sp<=1 by omega)]
  rfl
 rw [hpre];refine zae ?_ (zac (fun h2=>zab ?_) fun h2=>?_)
 . by_cases q1:bu = -1
   . simp [q1]
   . by_cases q2:bu<0
     . simp [q2]
     . by_cases q3:bu >= (ps.length:Int)
       . simp [q3]
       . simp [inB];omega
 . simp only [qae,qaC,ne_eq,qaY,qab]at h2;have:P.zgj (ps.map toPg) bu=false:=by
    unfold P.zgj;rw [hlm,zaB];refine qaj ?_;simp only [toPg];rintro (e | ⟨e1,e2,e3⟩)
    . exact h2.1 e
    . rcases h2.2 with h | h | h
      . omega
      . omega
      . exact h e3
   rw [this];rfl
 have hbump:P.zgj (ps.map toPg) bu=true:=by
  unfold P.zgj;rw [hlm,zaB];refine qad ?_;simp only [toPg];simp only [qbC,qaA,qaP,qag]at h2;rcases h2 with h2 | ⟨a,b,c⟩
  . exact .inl h2
  . exact .inr ⟨by omega,by omega,c⟩
 rw [hbump,qaU];refine zad (P:=fun r=>match r with
  | .inl x=>x.1.1=false/\P.zaI pw np (ps.map toPg) 0=false
  | .inr y=>P.zaI pw np (ps.map toPg) 0=true) (zai (fun x=>0<=x.1.2.1/\x.1.2.1<=1000/\∃ k:Nat,x.1.2.2.1=(k:Int)/\k<=ps.length/\P.zaI pw np ((ps.map toPg).drop k) x.1.2.1=P.zaI pw np (ps.map toPg) 0) (fun x=>((ps.length:Int)-x.1.2.2.1).toNat) ⟨by dsimp only;omega,by dsimp only;omega,0,rfl,by omega,rfl⟩ ?_) ?_
 . rintro ⟨⟨(b:Bool),(due:Int),(i:Int),_⟩,_⟩ ⟨d0,d1,k,e,hk,hp⟩;dsimp only at d0 d1 e hk hp ⊢
   subst e;refine zac (fun h3=>?_) fun h3=>zab ?_
   . simp only [qab]at h3;have wi:W ((k:Int)+1)=k+1:=W_id (by omega)
     have wd:W (due-1)=due-1:=W_id (by omega)
     have hkm:k<(ps.map toPg).length:=by omega
     have ek:(ps.map toPg)[k]?=some (toPg (ps.getD k PG0)):=by
      rw [<-zaB,qay,qas hkm];rfl
     rw [P.zsW ek]at hp;rw [wi,wd,qac];generalize hX:ps.getD k PG0=X at *
     obtain ⟨xk,xs,xu,xp,_⟩:=X;dsimp only;refine zae (zaf.2 ⟨by omega,h3⟩) ?_
     have bad:P.zcm pw np (toPg (xk,xs,xu,xp,())) ((ps.map toPg).drop (k+1)) due=none->Tot (Sum.elim (fun x':AD×Unit×Unit=>(0<=x'.1.2.1/\x'.1.2.1<=1000/\∃ k:Nat,x'.1.2.2.1=(k:Int)/\k<=ps.length/\P.zaI pw np ((ps.map toPg).drop k) x'.1.2.1=P.zaI pw np (ps.map toPg) 0)/\((ps.length:Int)-x'.1.2.2.1).toNat<((ps.length:Int)-(k:Int)).toNat) fun (r:A8)=>match r with
      | .inl x=>x.1.1=false/\P.zaI pw np (ps.map toPg) 0=false
      | .inr y=>P.zaI pw np (ps.map toPg) 0=true) (some (Sum.inr (Sum.inl ((false,()),(),())))):=fun hs=>by
      rw [hs]at hp;exact zab ⟨rfl,hp.symm⟩
     have good:∀ (d:Int),0<=d->d<=1000->P.zcm pw np (toPg (xk,xs,xu,xp,())) ((ps.map toPg).drop (k+1)) due=some d->Tot (Sum.elim (fun x':AD×Unit×Unit=>(0<=x'.1.2.1/\x'.1.2.1<=1000/\∃ k:Nat,x'.1.2.2.1=(k:Int)/\k<=ps.length/\P.zaI pw np ((ps.map toPg).drop k) x'.1.2.1=P.zaI pw np (ps.map toPg) 0)/\((ps.length:Int)-x'.1.2.2.1).toNat<((ps.length:Int)-(k:Int)).toNat) fun (r:A8)=>match r with
      | .inl x=>x.1.1=false/\P.zaI pw np (ps.map toPg) 0=false
      | .inr y=>P.zaI pw np (ps.map toPg) 0=true) (some (Sum.inl ((b,d,(k:Int)+1,()),(),()))):=fun d q0 q1 hs=>by
      rw [hs]at hp;refine zab ?_;simp only [qal];exact ⟨⟨q0,q1,k+1,by omega,by omega,hp⟩,by omega⟩
     have st:∀ r,P.zcm pw np (toPg (xk,xs,xu,xp,())) r due=if ¬(xk=3↔0<due)\/xs<0\/1<xs\/P.zfV xp=false then none
      else if xk=0 then (if toPg (xk,xs,xu,xp,())=P.Pg.zero then some (max 0 (due-1)) else none)
      else if xk=1 then (if xu<0\/pw<xu then none else some (max 0 (due-1)))
      else if xk=2 then (if P.zat pw np xu<1\/(P.zhd xs r:Int)<P.zat pw np xu-1 then none else some (max 0 (P.zat pw np xu-1)))
      else if xk=3 then (if xu=0/\xp=0 then some (max 0 (due-1)) else none)
      else none:=fun _=>rfl
     rw [st]at bad good;rw [zwl,qaa];dsimp only;rw [pins_eq,zzz];have hm:0<=max 0 (due-1)/\max 0 (due-1)<=1000:=by omega
     refine zac (fun h4=>bad ?_) fun h4=>zac (fun h5=>bad ?_) fun h5=>zac (fun h6=>bad ?_) fun h6=>zac (fun h7=>bad ?_) fun h7=>?_
     . refine if_pos (.inl fun h8=>?_)
       simp only [qao,qaO,ne_eq]at h4;refine h4 ?_;rw [qa9];simp [h8]
     . rw [if_pos (.inr (.inl (by simpa using h5)))]
     . rw [if_pos (.inr (.inr (.inl (by simpa using h6))))]
     . rw [if_pos (.inr (.inr (.inr (by simpa using h7))))]
     have hA:¬(¬(xk=3↔0<due)\/xs<0\/1<xs\/P.zfV xp=false):=by
      simp only [qaw,qax,qag]at h4 h5 h6 h7;rw [qa9]at h4;simp only [qax,qab]at h4;rintro (q | q | q | q)
      . exact q h4
      . omega
      . omega
      . rw [h7]at q;cases q
     rw [if_neg hA]at bad good;refine zac (fun k0=>?_) fun k0=>?_
     . simp only [qax]at k0;rw [if_pos k0]at bad good;refine zac (fun h8=>bad ?_) fun h8=>good _ hm.1 hm.2 ?_
       . rw [if_neg];intro e;simp only [toPg,P.Pg.zero,P.Pg.mk.injEq]at e;obtain ⟨e1,e2,e3,e4⟩:=e;subst e1 e2 e3 e4;simp at h8
       . rw [if_pos];simp only [qaw,qae,qax,qbn]at h8;simp only [toPg,P.Pg.zero,P.Pg.mk.injEq];exact h8
     simp only [qaO,ne_eq]at k0;rw [if_neg k0]at bad good;refine zac (fun k1=>?_) fun k1=>?_
     . simp only [qax]at k1;rw [if_pos k1]at bad good;refine zac (fun h8=>bad ?_) fun h8=>good _ hm.1 hm.2 ?_
       . rw [if_pos];simpa using h8
       . rw [if_neg];simp only [qaP,qag]at h8;omega
     simp only [qaO,ne_eq]at k1;rw [if_neg k1]at bad good;refine zac (fun k2=>?_) fun k2=>?_
     . simp only [qax]at k2;rw [if_pos k2]at bad good;refine zad (zgH pw np xu) fun r hr=>?_
       obtain ⟨⟨(n:Int),_⟩,_⟩:=r;dsimp only at hr ⊢
       rw [<-hr]at bad good;have hn:=P.zf9 (pw:=pw) (np:=np) (n:=xu)
       refine zac (fun h8=>bad ?_) fun h8=>?_
       . rw [if_pos];left;simpa using h8
       simp only [qag]at h8;have wn:W (n-1)=n-1:=W_id (by omega)
       rw [wn,zzz];refine zad (zt6 ps k xs (by omega) hl) fun r2 hr2=>?_
       obtain ⟨⟨(t:Int),_⟩,_⟩:=r2;dsimp only at hr2 ⊢
       rw [<-hr2]at bad good;refine zac (fun h9=>bad ?_) fun h9=>good _ (by omega) (by omega) ?_
       . rw [if_pos];right;simpa using h9
       . simp only [qag]at h9;rw [if_neg (by omega)]
     simp only [qaO,ne_eq]at k2;rw [if_neg k2]at bad good;refine zac (fun k3=>?_) fun k3=>bad ?_
     . simp only [qax]at k3;rw [if_pos k3]at bad good;refine zac (fun h8=>bad ?_) fun h8=>good _ hm.1 hm.2 ?_
       . rw [if_neg];simp only [qaY,qaC,ne_eq]at h8;omega
       . rw [if_pos];simp only [qaP,qaA]at h8;exact h8
     . simp only [qaO,ne_eq]at k3;rw [if_neg k3]
   . simp only [qag]at h3;rw [qbw (by omega)]at hp
     simp only [qak];exact hp.symm
 . intro r hr;refine zaQ (fun a ha=>?_) fun b hb=>?_
   . subst ha;exact zab (by rw [hr.2];exact hr.1)
   . subst hb;exact zab hr.symm
end Go.VI
namespace Go.VI
open Go
structure NextP (l:List Int) (at' n:Int) (r:Ag):Prop where
 lo:0<=r.1.1
 hi:1<=n->r.1.1<n
 z:n<1->r.1.1=0
 l:r.2.1.1=l
 a0:at'<=r.2.1.2.1
 a1:r.2.1.2.1<=at'+1
 a2:1<=n->r.2.1.2.1=at'+1
theorem zal(l:List Int)(a n:Int)(h0:0<=a)(h1:a<=1000000000)(hn:n<=4611686018427387904):Tot (NextP l a n) (F_made_Tape_Next ((l,a,()),n,())):=by
 rw [zcT];dsimp only
 refine zac (fun h=>zab ?_) fun h=>?_
 . simp only [qab]at h;exact ⟨by simp,fun _=>by omega,fun _=>rfl,rfl,by simp,by simp;omega,fun _=>by omega⟩
 . simp only [qag]at h;have hn0:(!n == 0)=true:=by simp;omega
   refine zae (zax fun h=>zaf.2 (by simp only [qab]at h;omega)) (zae hn0 (zae hn0 (zab ?_)))
   generalize (bif decide (a<(l.length:Int)) then l.getD a.toNat 0 else W (W (a*7)+3))=v
   have b1:v.tmod n<n:=Int.tmod_lt_of_pos _ (by omega)
   have b2 : -n<v.tmod n:=by
    have:=Int.neg_tmod (-v) n
    have:=Int.tmod_lt_of_pos (-v) (show 0<n by omega)
    have h3:(-v).tmod n = -(v.tmod n):=Int.neg_tmod v n
    omega
   have w:W (v.tmod n+n)=v.tmod n+n:=W_id (by omega)
   have wa:W (a+1)=a+1:=W_id (by omega)
   rw [w,wa];have e:(v.tmod n+n).tmod n=(v.tmod n+n) % n:=qcc (by omega)
   rw [e];exact ⟨Int.emod_nonneg _ (by omega),fun _=>Int.emod_lt_of_pos _ (by omega),fun _=>by omega,rfl,by dsimp only;omega,by dsimp only;omega,fun _=>rfl⟩
theorem conf_prod{pw np:Int}(h:confB pw np=true):128<=np*pw/\np*pw<=4096:=by
 have c2:=zaT.1 h;refine ⟨?_,?_⟩
 . calc (128:Int)=8*16:=rfl
    _<=np*16:=qaV (by omega) (by omega)
    _<=np*pw:=qcB (by omega) (by omega)
 . calc np*pw<=64*pw:=qaV (by omega) (by omega)
    _<=64*64:=qcB (by omega) (by omega)
theorem zfx(l:List Int)(a:Int):F_made_Tape_Done ((l,a,()),())=some ((decide (a >= (l.length:Int)),()),(l,a,()),()):=by rw [zjA]
def zdr(ps:List PgD)(i k:Int):Prop:=0<=i/\0<=k/\i+k<=ps.length/\∀ j:Int,i<=j->j<i+k->(ps.getD j.toNat PG0).1=0
def RunsP(ps:List PgD)(rs:List Ah):Prop:=∀ r∈rs,1<=r.2.1/\zdr ps r.1 r.2.1
theorem mem_set{α:Type}{l:List α}{i:Nat}{v x:α}(h:x∈l.set i v):x∈l\/x=v:=List.mem_or_eq_of_mem_set h
end Go.VI
namespace Go.VI
open Go
theorem zaH{ps:List PgD}{k:Nat}(h:k<ps.length):(ps.map toPg)[k]?=some (toPg (ps.getD k PG0)):=by
 have hk:k<(ps.map toPg).length:=by rw [qai];exact h
 rw [<-zaB,qay,qas hk];rfl
theorem zmY(pw np:Int):Tot (fun r=>r.1.1=P.zg4 pw np) (F_r04_Limit ((pw,np,()),())):=by
 rw [zri];dsimp only
 rw [zbg,qaa];dsimp only;refine zac (fun h=>zab ?_) fun h=>zae rfl (zab ?_)
 . rw [P.zy1];simpa [zaF] using h
 . simp only [qaw]at h;have c:=zaT.1 h;rw [P.zy0 (by rw [zaF];exact h)]
   dsimp only;rw [qbE (by omega)]
   exact W_id (by omega)
theorem zmZ(ps:List PgD)(hl:ps.length<=100000000):Tot (fun r=>r.1.1=(P.zbd (ps.map toPg):Int)) (F_r04_InUse (ps,())):=by
 rw [zrk];dsimp only
 refine zad (P:=fun r=>r.1.1=(P.zbd (ps.map toPg):Int)) (zai (fun x=>∃ k:Nat,x.1.2.1=(k:Int)/\k<=ps.length/\x.1.1=(P.zbd ((ps.map toPg).take k):Int)) (fun x=>((ps.length:Int)-x.1.2.1).toNat) ⟨0,rfl,by omega,by simp [P.zbd]⟩ ?_) fun r hr=>zab hr
 rintro ⟨⟨(n:Int),(i:Int),_⟩,_⟩ ⟨k,e,hk,e2⟩;dsimp only at e e2 ⊢
 subst e e2;have hle:=P.zit ((ps.map toPg).take k);rw [qau]at hle;refine zac (fun h=>?_) fun h=>zab ?_
 . simp only [qab]at h;have hk:k<ps.length:=by omega
   have w2:W ((k:Int)+1)=k+1:=W_id (by omega)
   have w1:W ((P.zbd ((ps.map toPg).take k):Int)+1)=P.zbd ((ps.map toPg).take k)+1:=W_id (by omega)
   refine zae (zaf.2 ⟨by omega,h⟩) (zab ?_)
   rw [w1,w2,qac];simp only [qal];refine ⟨⟨k+1,by omega,by omega,?_⟩,by omega⟩
   rw [P.zoG (zaH hk)];have:(toPg (ps.getD k PG0)).kind=(ps.getD k PG0).1:=rfl
   rw [this];cases hc:((ps.getD k PG0).1 != 0)
   . simp only [qaA]at hc;rw [if_pos hc];simp
   . simp only [qaC,ne_eq]at hc;rw [if_neg hc];simp
 . simp only [qag]at h;simp only [qak];rw [qa2 (by rw [qai];omega)]
def toR(r:Ah):Int×Int:=(r.1,r.2.1)
theorem zwh(ps:List PgD)(hl:ps.length<=1000000):Tot (fun r=>r.1.1.map toR=P.zlT (ps.map toPg)) (F_r04_Runs (ps,())):=by
 rw [ztk];dsimp only
 refine zad (P:=fun r=>r.2.1.1.map toR=P.zlT (ps.map toPg)) (zai (fun x=>∃ k:Nat,x.1.2.1=(k:Int)/\k<=ps.length/\x.2.1.1.map toR=P.zbe (ps.map toPg) k) (fun x=>((ps.length:Int)-x.1.2.1).toNat) ⟨0,rfl,by omega,rfl⟩ ?_) fun r hr=>zab hr
 rintro ⟨⟨_,(i:Int),_⟩,⟨rs,_⟩,_⟩ ⟨k,e,hk,e2⟩;dsimp only at e e2 ⊢
 subst e;refine zac (fun h=>?_) fun h=>zab ?_
 rotate_left
 . simp only [qag]at h;simp only [qak];rw [e2,P.zlT,show (ps.map toPg).length=k by rw [qai];omega]
 simp only [qab]at h;have hk:k<ps.length:=by omega
 have w1:W ((k:Int)+1)=k+1:=W_id (by omega)
 have hstep:=P.zcS (zaH hk);have hlen:=P.zls (ps.map toPg) k;rw [<-e2,qai]at hlen;have hkind:(toPg (ps.getD k PG0)).kind=(ps.getD k PG0).1:=rfl
 rw [w1,qac];refine zae (zaf.2 ⟨by omega,h⟩) (zac (fun h4=>zab ?_) fun h4=>?_)
 . simp only [qaC,ne_eq]at h4;simp only [qal];exact ⟨⟨k+1,by omega,by omega,by rw [hstep,P.zey (by rw [hkind];exact h4),e2]⟩,by omega⟩
 simp only [qaA]at h4;have hz:(toPg (ps.getD k PG0)).kind=0:=h4
 rcases qcw rs with e3 | ⟨pre,g,e3⟩
 . subst e3;rw [show decide (((([]:List Ah)).length:Int) > 0)=false from rfl]
   simp only [qaf];refine zae rfl (zae rfl (zae rfl (zae rfl (zae (zak.2 (by simp)) (zab ?_)))))
   simp only [qal];refine ⟨⟨k+1,by omega,by omega,?_⟩,by omega⟩
   rw [hstep,<-e2];exact (P.zdG hz).symm
 . rw [qcy]at e3;subst e3;obtain ⟨gf,gl,_⟩:=g;rw [qa1,qaW,List.map_nil]at e2;have hmem:toR (gf,gl,())∈P.zbe (ps.map toPg) k:=by rw [<-e2];simp
   obtain ⟨b1,b2,b3⟩:=P.zpa _ _ _ hmem;simp only [toR]at b1 b2 b3;rw [qaE,qaF,qby]at hlen ⊢
   have wl:W (((pre.length+(0+1):Nat):Int)-1)=pre.length:=by rw [W_id (by omega)];omega
   have hg:(pre++[(gf,gl,())]).getD pre.length (0,0,())=(gf,gl,()):=by
    rw [qay,qbH (qan _),qbQ];rfl
   have w3:W (gf+gl)=gf+gl:=W_id (by omega)
   have w4:W (gl+1)=gl+1:=W_id (by omega)
   rw [wl,qac,hg];dsimp only;rw [w3,w4,show decide (((pre.length+(0+1):Nat):Int) > 0)=true from qad (by omega)]
   simp only [qah];have hin:inB (pre.length:Int) (pre.length+(0+1))=true:=zaf.2 ⟨by omega,by omega⟩
   refine zae hin (zae hin (zae (zax fun _=>hin) (zae (zax fun _=>hin) (zae ?_ (zac (fun hc=>zab ?_) fun hc=>zab ?_)))))
   . rw [cor,qaY];exact .inr (zak.2 (by simp only [qaF,qby];omega))
   . simp only [qax]at hc;simp only [qal];refine ⟨⟨k+1,by omega,by omega,?_⟩,by omega⟩
     rw [hstep,<-e2,P.zdb hz hc,List.set_append_right _ _ (qan _),qbQ];simp [toR]
   . simp only [qaO,ne_eq]at hc;simp only [qal];refine ⟨⟨k+1,by omega,by omega,?_⟩,by omega⟩
     rw [hstep,<-e2,P.zdH hz hc];simp [toR]
theorem zhA(ps:List PgD)(k:Int)(hl:ps.length<=1000000):Tot (fun r=>r.1.1=P.zau (ps.map toPg) k) (F_r04_First (ps,k,())):=by
 rw [zrl];dsimp only
 refine zad (zwh ps hl) ?_;rintro ⟨⟨(rs:List Ah),_⟩,_⟩ h0;dsimp only at h0 ⊢
 have hlen:=P.zls (ps.map toPg) (ps.map toPg).length;rw [show P.zbe (ps.map toPg) (ps.map toPg).length=rs.map toR from h0.symm,qai,qai]at hlen
 rw [P.zht,<-h0];refine zad (P:=fun r=>match r with
  | .inl x=>x.1.1=P.zaY k (rs.map toR)
  | .inr _=>P.zaY k (rs.map toR) = -1) (zai (fun x=>∃ i:Nat,x.1.2.1=(i:Int)/\i<=rs.length/\P.zaY k ((rs.map toR).drop i)=P.zaY k (rs.map toR)) (fun x=>((rs.length:Int)-x.1.2.1).toNat) ⟨0,rfl,by omega,rfl⟩ ?_) ?_
 . rintro ⟨⟨(a:Int),(j:Int),_⟩,_⟩ ⟨i,e,hi,he⟩;dsimp only at e ⊢
   subst e;refine zac (fun h=>?_) fun h=>zab ?_
   . simp only [qab]at h;have hi:i<rs.length:=by omega
     have w1:W ((i:Int)+1)=i+1:=W_id (by omega)
     have hat:(rs.map toR)[i]?=some (toR (rs.getD i (0,0,()))):=by
      rw [qbd,qay,qas hi];rfl
     rw [P.zkw hat]at he;rw [w1,qac];have hb:inB (i:Int) rs.length=true:=zaf.2 ⟨by omega,h⟩
     refine zae (zax fun _=>hb) (zae (zax fun _=>hb) (zac (fun hc=>zab ?_) fun hc=>zab ?_))
     . simp only [cand,qae,qab]at hc;rw [if_pos ⟨by omega,show k<=(rs.getD i (0,0,())).2.1 by omega⟩]at he
       simp only [qak];exact he
     . simp only [cand,qbC,qag]at hc;rw [if_neg (by simp only [toR];omega)]at he
       simp only [qal];exact ⟨⟨i+1,by omega,by omega,he⟩,by omega⟩
   . simp only [qag]at h;rw [P.ziy (by rw [qai];omega)]at he
     simp only [qak];exact he.symm
 . rintro r hr;refine zaQ (fun a ha=>?_) fun b hb=>zab ?_
   . subst ha;exact zab hr
   . subst hb;exact hr.symm
end Go.VI
namespace Go.VI
open Go
def WBo(l:List Int):Prop:=∀ x∈l,0<=x/\x<18446744073709551616
theorem WBo.set{l:List Int}(h:WBo l){i:Nat}{v:Int}(hv:0<=v/\v<18446744073709551616):WBo (l.set i v):=fun x hx=>(mem_set hx).elim (h x) fun e=>e ▸ hv
theorem WBo.getD{l:List Int}(h:WBo l)(i:Nat):0<=l.getD i 0/\l.getD i 0<18446744073709551616:=by
 by_cases hi:i<l.length
 . exact h _ (zaE hi)
 . rw [qay,qb1 (by omega)];simp
end Go.VI
namespace Go.VI
open Go
theorem zod{ps out:List PgD}{i n:Nat}{b:PgD}(h:i+n<ps.length)(ho:out.map toPg=P.put (ps.map toPg) i n (toPg b)):
 out.length=ps.length/\toPg (out.getD (i+n) PG0)=toPg (ps.getD (i+n) PG0)/\(out.set (i+n) b).map toPg=P.put (ps.map toPg) i (n+1) (toPg b):=by
 have hl:out.length=ps.length:=by
  have:=congrArg List.length ho
  rwa [P.ze6 (by rw [qai];omega),qai,qai]at this
 refine ⟨hl,?_,?_⟩
 . have this:(out.map toPg)[i+n]?=_:=congrArg (fun l=>l[i+n]?) ho
   rw [P.zdJ (by rw [qai];omega) (by omega),zaH (by omega),zaH (by omega)]at this
   exact Option.some.inj this
 . rw [qa6,ho,P.zyD (by rw [qai];omega)]
theorem zwg(ps:List PgD)(i k:Int)(a b:PgD)(hl:ps.length<=1000000)(hk : -1000000<=k/\k<=1000000)(hi : -1000000000<=i/\i<=1000000000):
 Tot (fun r=>r.1.1.map toPg=P.zhc (ps.map toPg) i k (toPg a) (toPg b)/\r.1.2.1=P.zkR (ps.map toPg) i k) (F_r04_take (ps,i,k,a,b,())):=by
 obtain ⟨b1,b2,b3,b4,_⟩:=b;obtain ⟨a1,a2,a3,a4,_⟩:=a;rw [zth];dsimp only
 simp only [cor];have hlm:(ps.map toPg).length=ps.length:=qai ..
 have w0:i<ps.length->0<=i->W ((ps.length:Int)-i)=(ps.length:Int)-i:=fun _ _=>W_id (by omega)
 refine zac (fun h=>zab ?_) fun h=>?_
 . obtain ⟨e1,e2⟩:=P.zyt (ps:=ps.map toPg) (i:=i) (k:=k) (x:=toPg (a1,a2,a3,a4,())) (y:=toPg (b1,b2,b3,b4,())) (by
    rw [hlm];simp only [qaY,qab]at h;rintro ⟨q1,q2,q3⟩;rw [w0 q2 q1]at h;omega)
   rw [e1,e2];exact ⟨rfl,rfl⟩
 simp only [qaP,qag]at h;obtain ⟨h1,h2,h3⟩:=h;rw [w0 (by omega) (by omega)]at h3
 obtain ⟨j,rfl⟩:=qaM (show 0<=i by omega)
 have hC:0<=(j:Int)/\(j:Int)<(ps.map toPg).length/\k<=(ps.map toPg).length-(j:Int):=by rw [hlm];omega
 have hfr:∀ m:Nat,P.zcw (ps.map toPg) j m=true->k.toNat=m->P.zhc (ps.map toPg) j k (toPg (a1,a2,a3,a4,())) (toPg (b1,b2,b3,b4,()))=(P.put (ps.map toPg) j m (toPg (b1,b2,b3,b4,()))).set j (toPg (a1,a2,a3,a4,()))/\P.zkR (ps.map toPg) j k=0:=fun m hf hm=>by
  unfold P.zhc P.zkR;rw [if_pos hC,if_pos hC,hm,qac,if_pos hf,if_pos hf];exact ⟨rfl,rfl⟩
 have hno:P.zcw (ps.map toPg) j k.toNat=false->P.zhc (ps.map toPg) j k (toPg (a1,a2,a3,a4,())) (toPg (b1,b2,b3,b4,()))=[]/\P.zkR (ps.map toPg) j k=20:=fun hf=>by
  unfold P.zhc P.zkR;rw [if_pos hC,if_pos hC,qac,hf];exact ⟨rfl,rfl⟩
 refine zae (zak.2 (by omega)) (zad (P:=fun r=>match r with
  | .inl x=>x.1.1=[]/\x.1.2.1=20/\P.zcw (ps.map toPg) j k.toNat=false
  | .inr y=>y.2.2.1.map toPg=P.put (ps.map toPg) j k.toNat (toPg (b1,b2,b3,b4,()))/\P.zcw (ps.map toPg) j k.toNat=true) (zai (fun x=>∃ n:Nat,x.1.2.2.1=(n:Int)/\(n<=k.toNat)/\x.2.2.1.map toPg=P.put (ps.map toPg) j n (toPg (b1,b2,b3,b4,()))/\P.zcw (ps.map toPg) j n=true) (fun x=>(k-x.1.2.2.1).toNat) ⟨0,rfl,by omega,by rw [P.zph],P.zcV _ _⟩ ?_) ?_)
 . rintro ⟨⟨q,e,(m:Int),_⟩,_,(out:List PgD),_⟩ ⟨n,e1,n1,n2,n3⟩;dsimp only at e1 n2 ⊢
   subst e1;refine zac (fun h4=>?_) fun h4=>zab ?_
   . simp only [qab]at h4;have w1:W ((j:Int)+n)=((j+n:Nat):Int):=by rw [W_id (by omega)];omega
     have w2:W ((n:Int)+1)=n+1:=W_id (by omega)
     have hjn:j+n<ps.length:=by omega
     obtain ⟨r1,r2,r3⟩:=zod hjn n2;rw [w1,w2,qac];have hb:inB ((j+n:Nat):Int) out.length=true:=zaf.2 ⟨by omega,by omega⟩
     have hkd:(out.getD (j+n) PG0).1=(toPg (ps.getD (j+n) PG0)).kind:=congrArg P.Pg.kind r2
     refine zae hb (zac (fun h5=>zab ?_) fun h5=>zae hb (zab ?_))
     . simp only [qaC,ne_eq]at h5;simp only [qak];exact ⟨by trivial,by trivial,P.zoH (zaH hjn) (by omega) (by rw [<-hkd];exact h5)⟩
     . simp only [qaA]at h5;simp only [qal];refine ⟨⟨n+1,by omega,by omega,r3,?_⟩,by omega⟩
       rw [P.zck (zaH hjn),n3,<-hkd,h5];rfl
   . simp only [qag]at h4;simp only [qak];have:n=k.toNat:=by omega
     rw [<-this];exact ⟨n2,n3⟩
 . rintro r hr;refine zaQ (fun x hx=>?_) fun y hy=>?_
   . subst hx;obtain ⟨q1,q2,q3⟩:=hr;obtain ⟨e1,e2⟩:=hno q3;exact zab (by rw [e1,e2];exact ⟨by dsimp only;rw [q1];rfl,q2⟩)
   . subst hy;obtain ⟨q1,q2⟩:=hr;obtain ⟨e1,e2⟩:=hfr _ q2 rfl;have hyl:y.2.2.1.length=ps.length:=by
      have:=congrArg List.length q1
      rwa [P.ze6 (by rw [qai];omega),qai,qai]at this
     refine zae (zaf.2 ⟨by omega,by omega⟩) (zab ?_)
     rw [e1,e2,qa6,q1,qac];exact ⟨rfl,rfl⟩
theorem zsg(ps:List PgD)(j k:Nat)(a b:PgD)(hl:ps.length<=1000000)(hk:1<=k)(hj:j+k<=ps.length)(hf:P.zcw (ps.map toPg) j k=true):
 Tot (fun r=>r.1.1.map toPg=P.zhc (ps.map toPg) j k (toPg a) (toPg b)/\r.1.2.1=0) (F_r04_take_o (ps,(j:Int),(k:Int),a,b,())):=by
 obtain ⟨b1,b2,b3,b4,_⟩:=b;obtain ⟨a1,a2,a3,a4,_⟩:=a;rw [zpv];dsimp only
 simp only [cor];have hlm:(ps.map toPg).length=ps.length:=qai ..
 have w0:W ((ps.length:Int)-j)=(ps.length:Int)-j:=W_id (by omega)
 rw [w0];have hc:(decide ((j:Int)<0) || (decide ((j:Int) >= (ps.length:Int)) || decide ((k:Int) > (ps.length:Int)-j)))=false:=by
  simp only [qaP,qag];omega
 rw [hc,qaf];have hfr:=(P.zlL (ps:=ps.map toPg) (i:=j) (k:=k) (x:=toPg (a1,a2,a3,a4,())) (y:=toPg (b1,b2,b3,b4,())) (by omega) (by omega) hf).1
 rw [hfr];refine zae (zak.2 (by omega)) (zad (P:=fun r=>match r with
  | .inl x=>False
  | .inr y=>y.2.2.1.map toPg=P.put (ps.map toPg) j k (toPg (b1,b2,b3,b4,()))) (zai (fun x=>∃ n:Nat,x.1.2.2.1=(n:Int)/\(n<=k)/\x.2.2.1.map toPg=P.put (ps.map toPg) j n (toPg (b1,b2,b3,b4,()))) (fun x=>((k:Int)-x.1.2.2.1).toNat) ⟨0,rfl,by omega,by rw [P.zph]⟩ ?_) ?_)
 . rintro ⟨⟨q,e,(m:Int),_⟩,_,(out:List PgD),_⟩ ⟨n,e1,n1,n2⟩;dsimp only at e1 n2 ⊢
   subst e1;refine zac (fun h4=>?_) fun h4=>zab ?_
   . simp only [qab]at h4;have w1:W ((j:Int)+n)=((j+n:Nat):Int):=by rw [W_id (by omega)];omega
     have w2:W ((n:Int)+1)=n+1:=W_id (by omega)
     have hjn:j+n<ps.length:=by omega
     obtain ⟨r1,r2,r3⟩:=zod hjn n2;rw [w1,w2,qac];have hb:inB ((j+n:Nat):Int) out.length=true:=zaf.2 ⟨by omega,by omega⟩
     have hkd:(out.getD (j+n) PG0).1=(toPg (ps.getD (j+n) PG0)).kind:=congrArg P.Pg.kind r2
     refine zae hb (zac (fun h5=>?_) fun h5=>zae hb (zab ?_))
     . simp only [qaC,ne_eq]at h5;rw [hkd]at h5;have:=P.zoH (zaH hjn) (show n<k by omega) h5
       rw [hf]at this;cases this
     . simp only [qal];exact ⟨⟨n+1,by omega,by omega,r3⟩,by omega⟩
   . simp only [qag]at h4;simp only [qak];have:n=k:=by omega
     rw [<-this];exact n2
 . rintro r hr;refine zaQ (fun x hx=>?_) fun y hy=>?_
   . subst hx;exact hr.elim
   . subst hy;have q1:y.2.2.1.map toPg=P.put (ps.map toPg) j k (toPg (b1,b2,b3,b4,())):=hr
     have hyl:y.2.2.1.length=ps.length:=by
      have:=congrArg List.length q1
      rwa [P.ze6 (by rw [qai];omega),qai,qai]at this
     refine zae (zaf.2 ⟨by omega,by omega⟩) (zab ?_)
     rw [qa6,q1,qac];exact ⟨rfl,rfl⟩
theorem ziJ(ps:List PgD)(j:Nat)(s:Int)(hl:ps.length<=1000000)(hs:0<=s/\s<=1)(hj:j+1<=ps.length)(hf:P.zcw (ps.map toPg) j 1=true):
 Tot (fun r=>r.1.1.map toPg=P.zb2 (ps.map toPg) j s/\r.1.2.1=0) (F_r04_Small_o (ps,(j:Int),s,())):=by
 rw [znI];dsimp only
 simp only [cor];have hc:(decide (s<0) || decide (s > 1))=false:=by
  simp only [qaP,qag];omega
 rw [hc,qaf];refine zad (zsg ps j 1 (1,s,0,0,()) PG0 hl (by omega) hj hf) fun r hr=>zab ?_
 unfold P.zb2;rw [if_pos hs];exact hr
theorem zt7(pw np:Int)(ps:List PgD)(i s n:Int)(hl:ps.length<=1000000)(hi : -1000000000<=i/\i<=1000000000):
 Tot (fun r=>r.1.1.map toPg=P.zgd pw np (ps.map toPg) i s n/\r.1.2.1=P.zms pw np (ps.map toPg) i s n) (F_r04_Large ((pw,np,()),ps,i,s,n,())):=by
 rw [zrj];dsimp only
 simp only [cor];refine zad (zgH pw np n) fun r hr=>?_
 obtain ⟨⟨(m:Int),_⟩,_⟩:=r;dsimp only at hr ⊢
 have n1:=P.zf9 pw np n;have n2:=P.zpM pw np n;rw [<-hr]at n1 n2;unfold P.zgd P.zms;rw [<-hr];refine zac (fun h=>zab ?_) fun h=>zad (zwg ps i m (2,s,n,0,()) (3,s,0,0,()) hl (by omega) hi) fun q hq=>zab ?_
 . simp only [qaY,qab]at h;rw [if_neg (by omega),if_neg (by omega)]
   exact ⟨rfl,rfl⟩
 . simp only [qaP,qag]at h;rw [if_pos (by omega),if_pos (by omega)]
   exact hq
end Go.VI
namespace Go.VI
open Go
theorem pow_32{n:Nat}(h:n<=32):(2:Int) ^ n<=4294967296/\1<=(2:Int) ^ n:=by
 have h1:2 ^ n<=2 ^ 32:=qb5 (by omega) h
 have h2:0<2 ^ n:=qce (by omega)
 have e:((2 ^ n:Nat):Int)=(2:Int) ^ n:=by rw [qci];rfl
 rw [<-e];have:(2:Nat) ^ 32=4294967296:=by decide
 omega
theorem zdT(k n m:Int)(hm:0<=m/\m<4294967296):F_r03_Valid ((k,n,m,()),())=some ((P.zaz k n m,()),()):=by
 rw [zrm];dsimp only
 simp only [cor];have key:∀ {o:Option A5},Tot (fun r=>r=((P.zaz k n m,()),())) o->o=some ((P.zaz k n m,()),()):=fun h=>by
  obtain ⟨r,rfl,e⟩:=h;rw [e]
 refine key (zac (fun h=>zab ?_) fun h=>?_)
 . simp only [qaY,qab]at h;rw [P.zcn (by omega)]
 simp only [qaP,qag]at h;refine zac (fun h1=>zab ?_) fun h1=>?_
 . simp only [qaC,ne_eq]at h1;by_cases h0:m=0
   . rw [P.zhP (by omega)];simp [h0]
   . rw [P.zcn (by omega)];simp [h0]
 simp only [qaA]at h1;by_cases h3:n<=32
 . have un:U n=n:=U_id (by omega)
   have um:U m=m:=U_id (by omega)
   have hp:=pow_32 (n:=n.toNat) (by omega)
   have hb:min n.toNat IntKind.u64.bits=n.toNat:=by
    have:IntKind.u64.bits=64:=rfl
    omega
   rw [show decide (n<=32)=true from qad h3]
   simp only [qah];rw [un,um,hb,qbk,U_id (by omega)]
   refine zae ?_ (zab ?_)
   . simp only [qao,qag];omega
   . by_cases hlt:m<2 ^ n.toNat
     . rw [qad hlt,P.zhP ⟨by omega,by omega,by omega,by omega,fun _=>⟨h3,hlt⟩,fun c=>absurd h1 c⟩]
     . rw [qaj hlt,P.zcn (fun c=>hlt (c.2.2.2.2.1 h1).2)]
 . rw [show decide (n<=32)=false from qaj h3]
   simp only [qaf];refine zae rfl (zab ?_);rw [P.zcn (fun c=>h3 (c.2.2.2.2.1 h1).1)]
theorem zcl(k n m:Int)(hm:0<=m/\m<4294967296):F_r03_Size ((k,n,m,()),())=some ((P.zaP k n m,()),()):=by
 rw [ztm];dsimp only
 rw [zdT k n m hm,qaa];dsimp only;cases h:P.zaz k n m
 . rw [P.zsP h];rfl
 . have:=P.zay h
   rw [P.zcq h];have w:W (n+1)=n+1:=W_id (by omega)
   simp only [qbz,qaf,w]
theorem zgn(k n m:Int)(hm:0<=m/\m<4294967296):F_r03_Encode ((k,n,m,()),())=some ((P.encV k n m,P.encE k n m,()),()):=by
 rw [zpy];dsimp only
 rw [zdT k n m hm,qaa];dsimp only;unfold P.encV P.encE;cases h:P.zaz k n m
 . rfl
 . have c:=P.zay h;have hb:min (Int.toNat 16) IntKind.u64.bits=16:=rfl
   have e1:U k=k:=U_id (by omega)
   have e2:U (4*k)=4*k:=U_id (by omega)
   have e3:U n=n:=U_id (by omega)
   have e4:U (16*n)=16*n:=U_id (by omega)
   have e5:U m=m:=U_id (by omega)
   have e6:U (m*2 ^ 16)=m*65536:=by rw [show (2:Int) ^ 16=65536 by decide];exact U_id (by omega)
   rw [hb,e1,e2,e3,e4,e5,e6,U_id (n:=1+4*k) (by omega),U_id (n:=1+4*k+16*n) (by omega),U_id (by omega)]
   simp only [qbz,qaf,if_true];refine congrArg some ?_;rw [show P.zd8 k n m=1+4*k+16*n+m*65536 by unfold P.zd8;omega]
theorem zwe(pw np k n m:Int)(hm:0<=m/\m<4294967296):Tot (fun r=>r.1.1=P.zk7 pw np k n m) (F_r07_Asks ((pw,np,()),(k,n,m,()),())):=by
 rw [ztc];dsimp only
 rw [zdT k n m hm,qaa];dsimp only;refine zac (fun h=>zac (fun h0=>?_) fun h0=>zab ?_) fun h=>zab ?_
 . rw [zcl k n m hm,qaa];dsimp only;refine zad (zgH pw np _) fun r hr=>zab ?_
   rw [P.zx5 (by simpa using h0),hr]
 . rw [P.zx4 (by simpa using h0)]
 . unfold P.zk7;rw [h];rfl
theorem zf2{h:P.Hp}(k:P.okH h=true):P.okP h=true:=by
 unfold P.okP;rw [P.zeB];exact k
theorem zt3(h:HpD)(hw:HpW h)(hp:P.okH (toHp h)=true)(n:Int)(hn:1<=n/\n<=100000):
 Tot (fun r=>r.1.2.2.1=P.zb9 (toHp h) n/\(r.1.2.2.1=true->toHp r.1.1=P.zlQ (toHp h) n/\r.1.2.1=P.zlR (toHp h) n)) (F_r07_small (h,n,())):=by
 have hP:=zf2 hp;have hpl:=P.PlOK7.of hP;obtain ⟨p1,p2,p3,p4,p5,p6⟩:=P.zaN hP;obtain ⟨c1,c2⟩:=P.conf_prod p1;have c3:=P.zaj p1;obtain ⟨⟨pw,np,_⟩,ws,ps,sp,bu,_⟩:=h;have hlm:(ps.map toPg).length=ps.length:=qai ..
 simp only [toHp]at p1 p2 p3 p4 p5 p6 c1 c2 c3;rw [hlm]at p3;have hps:ps.length<=1000000:=by omega
 have hb:=hpl.bump;have hsp:=hpl.sp;simp only [toHp]at hb hsp;rw [zaB,hlm]at hb;generalize hB:ps.getD bu.toNat PG0=B at *
 obtain ⟨bk,bs,bx,bp,_⟩:=B;have hnb:P.newB (toHp ((pw,np,()),ws,ps,sp,bu,())) n=(decide (bu<0) || (!(bs == sp)) || decide (bx+n > pw) || decide ((P.zbd (ps.map toPg):Int) > P.zg4 pw np)):=by
  rw [qa9];unfold P.newB;rw [qab];unfold P.zkC;simp only [toHp];rw [zaB,hB];simp only [toPg];simp [or_assoc]
 rw [zre];dsimp only
 rw [hB];dsimp only;simp only [cor];refine zae (zak.2 (by omega)) (zad (zmY pw np) fun r0 h0=>zad (zmZ ps (by omega)) fun r1 h1=>?_)
 obtain ⟨⟨(lim:Int),_⟩,_⟩:=r0;obtain ⟨⟨(use:Int),_⟩,_⟩:=r1;dsimp only at h0 h1 ⊢
 rw [<-h0,<-h1]at hnb;have hin:¬bu<0->inB bu ps.length=true:=fun h=>zaf.2 (by omega)
 have hwb:¬bu<0->W (bx+n)=bx+n:=fun h=>W_id (by
  have:=hb.2 (by omega)
  simp only [toPg]at this;omega)
 have hcond:(decide (bu<0) || ((bs != sp) || (decide (W (bx+n) > pw) || decide (use > lim))))=P.newB (toHp ((pw,np,()),ws,ps,sp,bu,())) n:=by
  rw [hnb];by_cases q:bu<0
  . simp [q]
  . rw [hwb q];simp [q,Bool.or_assoc,bne]
 rw [hcond];have ho1:(decide (bu<0) || inB bu ps.length)=true:=by
  by_cases q:bu<0
  . simp [q]
  . simp [hin q]
 have ho2:(decide (bu<0) || (bs != sp || inB bu ps.length))=true:=by
  by_cases q:bu<0
  . simp [q]
  . simp [hin q]
 refine zae ho1 (zae ho2 (zac (fun hc=>?_) fun hc=>?_))
 . refine zad (zhA ps 1 hps) fun r2 h2=>?_
   obtain ⟨⟨(K':Int),_⟩,_⟩:=r2;dsimp only at h2 ⊢
   have hfull:P.zdE (toHp ((pw,np,()),ws,ps,sp,bu,()))=(decide (K'<0) || decide (use >= lim)):=by
    rw [qa9];unfold P.zdE;rw [qab];simp only [toHp];rw [<-h2,<-h1,<-h0];simp
   rw [<-hfull];refine zac (fun h3=>zab ?_) fun h3=>?_
   . rw [P.zvG hc h3];exact ⟨rfl,fun c=>by cases c⟩
   obtain ⟨K,e1,e2,e3,e4,⟨y,e5,e5'⟩,e6,e7,e8,e9⟩:=P.zqV hpl hc h3;rw [e6,e7,e9];simp only [toHp]at e1 e2 e3 e4 e5 e8 ⊢;rw [hlm]at e2;have hK:K'=K:=by rw [h2,e1]
   subst hK;have hf:P.zcw (ps.map toPg) K 1=true:=by
    have:=P.zck (ps:=ps.map toPg) (i:=K) (k:=0) (x:=y) (by rw [qa7];exact e5)
    rw [P.zcV,e5']at this;simpa using this
   refine zad (ziJ ps K sp hps hsp (by omega) hf) fun r3 h4=>?_
   obtain ⟨⟨(qs:List PgD),_,_⟩,_⟩:=r3;dsimp only at h4 ⊢
   obtain ⟨h4,-⟩:=h4;rw [e4]at h4;have hql:qs.length=ps.length:=by
    have:=congrArg List.length h4
    simpa using this
   have hqk:toPg (qs.getD K PG0)=⟨1,sp,0,0⟩:=by
    rw [<-zaB,h4,qay,qaZ,if_pos rfl,if_pos (by rw [hlm];exact e2)];rfl
   rw [qac];generalize qs.getD K PG0=G at *
   obtain ⟨g1,g2,g3,g4,_⟩:=G;simp only [toPg,P.Pg.mk.injEq]at hqk;obtain ⟨q1,q2,q3,q4⟩:=hqk;subst q1 q2 q3 q4;have hkin:inB (K:Int) qs.length=true:=zaf.2 ⟨by omega,by omega⟩
   obtain ⟨a1,a2⟩:=P.zgm (K:=K) (o:=0) p1 (by omega) (by omega) (by omega)
   have kp:=P.zaR p1 (p:=(K:Int)) (by omega) (by omega)
   have v1:W ((K:Int)*pw)=K*pw:=W_id (by omega)
   have v2:W (4096+(K:Int)*pw)=4096+K*pw:=W_id (by omega)
   have v3:W (4096+(K:Int)*pw+0)=4096+K*pw+0:=W_id (by omega)
   have v4:U (4096+(K:Int)*pw+0)=4096+K*pw+0:=U_id (by omega)
   have v5:W (0+n)=0+n:=W_id (by omega)
   refine zae hkin (zae hkin (zae hkin (zab ?_)));dsimp only;rw [v1,v2,v3,v4,v5,a2];refine ⟨rfl,fun _=>⟨?_,rfl⟩⟩
   rw [qa6,h4];rfl
 . obtain ⟨K,x,e1,e2,e3,e4,e5,e6,e7⟩:=P.zon hpl hn.1 hc;rw [e4,e5,e7];simp only [toHp]at e1 e2 e6 ⊢;subst e1;have hK:K<ps.length:=by
    have:=(qar.1 e2).1
    rwa [hlm]at this
   rw [zaH hK]at e2;rw [qac]at hB ⊢
   rw [hB]at e2;have e2:=(Option.some.inj e2).symm;subst e2;have hkin:inB (K:Int) ps.length=true:=zaf.2 ⟨by omega,by omega⟩
   have hun:=qa3 hc;unfold P.zkC at hun;simp only [toHp]at hun;rw [qac,zaB,hB]at hun;simp only [toPg]at e3 e6 e7 hun ⊢;obtain ⟨a1,a2⟩:=P.zgm (K:=K) (o:=bx) p1 (by omega) (by omega) (by omega)
   have kp:=P.zaR p1 (p:=(K:Int)) (by omega) (by omega)
   have v1:W ((K:Int)*pw)=K*pw:=W_id (by omega)
   have v2:W (4096+(K:Int)*pw)=4096+K*pw:=W_id (by omega)
   have v3:W (4096+(K:Int)*pw+bx)=4096+K*pw+bx:=W_id (by omega)
   have v4:U (4096+(K:Int)*pw+bx)=4096+K*pw+bx:=U_id (by omega)
   have v5:W (bx+n)=bx+n:=W_id (by omega)
   refine zae hkin (zae hkin (zae hkin (zab ?_)));rw [v1,v2,v3,v4,v5,a2];refine ⟨rfl,fun _=>⟨?_,rfl⟩⟩
   rw [qa6];rfl
end Go.VI
namespace Go.VI
open Go
theorem zt4(h:HpD)(hw:HpW h)(hp:P.okH (toHp h)=true)(n k:Int)(hk:P.zat (toHp h).pw (toHp h).np n=k)(h1:1<=k):
 Tot (fun r=>r.1.2.2.1=P.zis (toHp h) k/\(r.1.2.2.1=true->toHp r.1.1=P.zoD (toHp h) n k/\r.1.2.1=P.zoE (toHp h) k)) (F_r07_large (h,n,k,())):=by
 have hP:=zf2 hp;have hpl:=P.PlOK7.of hP;obtain ⟨p1,p2,p3,p4,p5,p6⟩:=P.zaN hP;obtain ⟨c1,c2⟩:=P.conf_prod p1;have c3:=P.zaj p1;have k4:=P.zf9 (toHp h).pw (toHp h).np n;obtain ⟨⟨pw,np,_⟩,ws,ps,sp,bu,_⟩:=h;have hlm:(ps.map toPg).length=ps.length:=qai ..
 simp only [toHp]at p1 p2 p3 p4 p5 p6 c1 c2 c3 k4 hk;rw [hlm]at p3;have hps:ps.length<=1000000:=by omega
 have hsp:=hpl.sp;simp only [toHp]at hsp;rw [zrf];dsimp only
 refine zad (zhA ps k hps) fun r hr=>?_
 obtain ⟨⟨(K:Int),_⟩,_⟩:=r;dsimp only at hr ⊢
 have huse:=P.zit (ps.map toPg);rw [hlm]at huse;have hlok:P.zis (toHp ((pw,np,()),ws,ps,sp,bu,())) k=true↔¬(K<0\/P.zg4 pw np<P.zbd (ps.map toPg)+k):=by
  unfold P.zis;rw [qab];simp only [toHp];rw [<-hr]
 refine zac (fun h2=>zab ?_) fun h2=>zad (zmZ ps (by omega)) fun r1 hr1=>zad (zmY pw np) fun r2 hr2=>?_
 . simp only [qab]at h2;refine ⟨?_,fun c=>by cases c⟩
   symm
   rw [<-qbu,hlok];exact fun c=>c (.inl h2)
 obtain ⟨⟨(use:Int),_⟩,_⟩:=r1;obtain ⟨⟨(lim:Int),_⟩,_⟩:=r2;dsimp only at hr1 hr2 ⊢
 simp only [qag]at h2;have w1:W (use+k)=use+k:=W_id (by omega)
 rw [w1];refine zac (fun h3=>zab ?_) fun h3=>?_
 . simp only [qab]at h3;refine ⟨?_,fun c=>by cases c⟩
   symm
   rw [<-qbu,hlok];exact fun c=>c (.inr (by omega))
 simp only [qag]at h3;have hsp1:=P.zdB (ps:=ps.map toPg) (k:=k) (by omega)
 rw [<-hr,hlm]at hsp1;refine zad (zt7 pw np ps K sp n hps (by omega)) fun r3 hr3=>zab ?_
 obtain ⟨K,rfl⟩:=qaM (show 0<=K by omega)
 have kp:=P.zaR p1 (p:=(K:Int)) (by omega) (by omega)
 have v1:W ((K:Int)*pw)=K*pw:=W_id (by omega)
 have v2:W (4096+(K:Int)*pw)=4096+K*pw:=W_id (by omega)
 have v4:U (4096+(K:Int)*pw)=4096+K*pw:=U_id (by omega)
 dsimp only;rw [v1,v2,v4];refine ⟨(hlok.2 (by omega)).symm,fun _=>⟨?_,?_⟩⟩
 . unfold P.zoD;simp only [toHp];rw [<-hr,<-hr3.1]
 . unfold P.zoE;simp only [toHp];rw [<-hr]
theorem zjY(ws:List Int)(a:Int)(n:Nat)(hl:ws.length<=100000000)(ha:0<=a/\a<18446744073709551616):Tot (fun r=>r.1.2.1=P.okA ws.length a n/\(r.1.2.1=true->r.1.1=a-4096)) (F_r02_span (ws,a,(n:Int),())):=by
 rw [ztn];dsimp only
 simp only [cor];have w1:U (ws.length:Int)=ws.length:=U_id (by omega)
 have w2:U (4096+(ws.length:Int))=4096+ws.length:=U_id (by omega)
 rw [w1,w2];refine zac (fun h=>zab ?_) fun h=>zab ?_
 . simp only [qaY,qab]at h;refine ⟨?_,fun c=>by cases c⟩
   unfold P.okA;exact (qaj (by omega)).symm
 . simp only [qaP,qag]at h;have w3:U (a-4096)=a-4096:=U_id (by omega)
   have w4:W (a-4096)=a-4096:=W_id (by omega)
   have w5:W ((ws.length:Int)-(a-4096))=ws.length-(a-4096):=W_id (by omega)
   dsimp only;rw [w3,w4,w5];refine ⟨?_,fun _=>rfl⟩
   unfold P.okA;rw [qa9,qab,qab];omega
theorem zfh(ws:List Int)(a:Int)(l:List Int)(hl:ws.length<=100000000)(hl2:l.length<=100000000)(ha:0<=a/\a<18446744073709551616):Tot (fun r=>r.1.1=P.zaC ws a l/\r.1.2.1=P.zdo ws a l) (F_r02_Write (ws,a,l,())):=by
 rw [zrn];dsimp only
 refine zad (zjY ws a l.length hl ha) fun r hr=>?_
 obtain ⟨⟨(i:Int),(b:Bool),_⟩,_⟩:=r;dsimp only at hr ⊢
 refine zac (fun h=>zab ?_) fun h=>zae (zak.2 (by omega)) ?_
 . simp only [qao]at h;obtain ⟨e1,e2⟩:=P.zyn (hr.1.symm.trans h);rw [e1,e2];exact ⟨rfl,rfl⟩
 simp only [qaw]at h;have hok:=hr.1.symm.trans h;have hi:=hr.2 h;have hb:=P.zav.1 hok;obtain ⟨j,hj⟩:=qaM (show 0<=a-4096 by omega)
 have ha4:a=4096+(j:Int):=by omega
 rw [hj]at hi;subst hi ha4;obtain ⟨e1,e2⟩:=P.zym hok;rw [e1,e2];have hjl:j+l.length<=ws.length:=by omega
 refine zad (P:=fun r=>r.2.2.1=P.wrow ws l j l.length) (zai (fun x=>∃ n:Nat,x.1.1=(n:Int)/\n<=l.length/\x.2.2.1=P.wrow ws l j n) (fun x=>((l.length:Int)-x.1.1).toNat) ⟨0,rfl,by omega,(P.zqF ws l j).symm⟩ ?_) fun r hr=>zab ⟨by dsimp only;rw [hr];exact P.zuw (qan _),rfl⟩
 rintro ⟨⟨(m:Int),_⟩,_,(out:List Int),_⟩ ⟨n,q1,q2,q3⟩;dsimp only at q1 q3 ⊢
 subst q1 q3;refine zac (fun h4=>?_) fun h4=>zab ?_
 . simp only [qab]at h4;have hnl:n<l.length:=by omega
   have w1:W ((j:Int)+n)=((j+n:Nat):Int):=by rw [W_id (by omega)];omega
   have w2:W ((n:Int)+1)=n+1:=W_id (by omega)
   rw [w1,w2,qac,qac,P.zo1 hjl];refine zae (zaf.2 ⟨by omega,h4⟩) (zae (zaf.2 ⟨by omega,by omega⟩) (zab ?_))
   simp only [qal];refine ⟨⟨n+1,by omega,by omega,?_⟩,by omega⟩
   have hx:l[n]?=some (l.getD n 0):=by rw [qay,qas hnl];rfl
   exact P.zuv hjl hx
 . simp only [qag]at h4;simp only [qak];rw [show n=l.length by omega]
theorem zwf(h:HpD)(hw:HpW h)(a k n m:Int)(ha:0<=a/\a<18446744073709551616)(hm:0<=m/\m<4294967296):Tot (fun r=>r.1.2.1=P.zjK (toHp h) a k n m/\toHp r.1.1=P.zmu (toHp h) a k n m) (F_r05_Init (h,a,(k,n,m,()),())):=by
 obtain ⟨⟨pw,np,_⟩,ws,ps,sp,bu,_⟩:=h;have hwl:=hw.wl;dsimp only at hwl
 rw [ztg];dsimp only
 rw [zgn k n m hm,qaa];dsimp only;refine zad (za3 _ hw) fun r hr=>?_
 obtain ⟨⟨(b:Bool),_⟩,_⟩:=r;have hb:b=P.okH (toHp ((pw,np,()),ws,ps,sp,bu,())):=hr
 subst hb;dsimp only;simp only [cor];have bad:P.zjK (toHp ((pw,np,()),ws,ps,sp,bu,())) a k n m≠0->toHp H0=P.zmu (toHp ((pw,np,()),ws,ps,sp,bu,())) a k n m:=fun h=>by
  unfold P.zmu;rw [if_neg h];rfl
 refine zac (fun h=>zab ?_) fun h=>?_
 . have:P.zjK (toHp ((pw,np,()),ws,ps,sp,bu,())) a k n m=1:=by
    unfold P.zjK;rw [if_neg];rintro ⟨c1,c2⟩;rw [c2]at h;unfold P.encE at h;rw [if_pos c1]at h;cases h
   exact ⟨this.symm,bad (by rw [this];decide)⟩
 simp only [qaP,qaw,qaA]at h;obtain ⟨h1,h2⟩:=h;have hv:P.zaz k n m=true:=by
  unfold P.encE at h2;cases hv:P.zaz k n m
  . rw [hv]at h2;cases h2
  . rfl
 have c:=P.zay hv;have he:P.encV k n m=P.zd8 k n m:=by unfold P.encV;rw [if_pos hv]
 have hE:P.zjK (toHp ((pw,np,()),ws,ps,sp,bu,())) a k n m=P.zdo ws a (P.zhs k n m):=by
  unfold P.zjK;rw [if_pos ⟨hv,h1⟩];rfl
 have hL:[P.encV k n m]++List.replicate n.toNat (0:Int)=P.zhs k n m:=by rw [he];rfl
 rw [hL];refine zae (qad c.2.2.1) (zae (zak.2 (by simp only [qaF,qby];omega)) (zad (zfh ws a _ hwl (by rw [P.zmv];omega) ha) fun r2 h3=>zac (fun h4=>zab ?_) fun h4=>zab ?_))
 . simp only [qaC,ne_eq]at h4;refine ⟨by rw [hE];exact h3.2,bad (by rw [hE,<-h3.2];exact h4)⟩
 . simp only [qaA]at h4;have h0:P.zjK (toHp ((pw,np,()),ws,ps,sp,bu,())) a k n m=0:=by rw [hE,<-h3.2];exact h4
   refine ⟨h0.symm,?_⟩;unfold P.zmu;rw [if_pos h0];simp only [toHp];rw [h3.1]
theorem HpW.of{h h':HpD}(hw:HpW h)(hp:P.okP (toHp h')=true)(e:(toHp h').words=(toHp h).words):HpW h':=by
 obtain ⟨p1,p2,p3,p4,p5,p6⟩:=P.zaN hp;have c3:=P.zaj p1;have e':h'.2.1=h.2.1:=e
 refine ⟨by rw [e'];exact hw.wl,?_,by rw [e'];exact hw.wb⟩
 have:(h'.2.2.1.map toPg).length=h'.2.2.1.length:=qai ..
 simp only [toHp]at p3 c3;omega
theorem zar(h:HpD):((h.1.1,h.1.2.1,()),h.2.1,h.2.2.1,h.2.2.2.1,h.2.2.2.2.1,())=h:=rfl
theorem zsd(h:HpD)(hw:HpW h)(k n m:Int)(hm:0<=m/\m<4294967296):Tot (fun r=>r.1.2.2.1=P.zcL (toHp h) k n m/\toHp r.1.1=P.zdq (toHp h) k n m/\r.1.2.1=P.ziG (toHp h) k n m) (F_r07_New (h,(k,n,m,()),())):=by
 have bad:∀ c:Int,¬c=0->P.zcL (toHp h) k n m=c->Tot (fun r:(HpD×Int×Int×Unit)×Unit=>r.1.2.2.1=P.zcL (toHp h) k n m/\toHp r.1.1=P.zdq (toHp h) k n m/\r.1.2.1=P.ziG (toHp h) k n m) (some ((H0,0,c,()),())):=fun c h0 he=>by
  refine zab ⟨he.symm,?_,?_⟩
  . unfold P.zdq;rw [if_neg (by rw [he];exact h0)];rfl
  . unfold P.ziG;rw [if_neg (by rw [he];exact h0)]
 rw [zvM];dsimp only
 try rw [zar]
 refine zad (za3 _ hw) fun r hr=>?_
 obtain ⟨⟨(b:Bool),_⟩,_⟩:=r;have hb:b=P.okH (toHp h):=hr
 subst hb;dsimp only;refine zac (fun h1=>bad 1 (by decide) ?_) fun h1=>zad (zwe h.1.1 h.1.2.1 k n m hm) fun r1 hr1=>?_
 . simp only [qao]at h1;unfold P.zcL P.zks;rw [h1];rfl
 simp only [qaw]at h1;obtain ⟨⟨(b:Bool),_⟩,_⟩:=r1;dsimp only at hr1 ⊢
 subst hr1;refine zac (fun h2=>bad 1 (by decide) ?_) fun h2=>?_
 . simp only [qao]at h2;unfold P.zcL P.zks;rw [h1,show P.zk7 (toHp h).pw (toHp h).np k n m=false from h2];rfl
 simp only [qaw]at h2;have hP:=zf2 h1;have hask:P.zks (toHp h) k n m=true:=by
  unfold P.zks;rw [h1,show P.zk7 (toHp h).pw (toHp h).np k n m=true from h2];rfl
 have h2':=h2;unfold P.zk7 at h2'
 simp only [qae,qab]at h2'
 obtain ⟨⟨hv,hk0⟩,hne⟩:=h2';have c:=P.zay hv;have hsz:=P.zcq hv;rw [zcl k n m hm,qaa];dsimp only;obtain ⟨q1,q2,q3⟩:=P.zqW (toHp h) k n m;have fin:∀ (g:HpD) (a:Int),P.ze8 (toHp h) (P.zaP k n m)=true->toHp g=P.zdL (toHp h) (P.zaP k n m)->a=P.zd2 (toHp h) (P.zaP k n m) ->
  Tot (fun r:(HpD×Int×Int×Unit)×Unit=>r.1.2.2.1=P.zcL (toHp h) k n m/\toHp r.1.1=P.zdq (toHp h) k n m/\r.1.2.1=P.ziG (toHp h) k n m) ((F_r05_Init (g,a,(k,n,m,()),())).bind fun (r:AJ)=>some ((((r.1.1.1.1,r.1.1.1.2.1,()),r.1.1.2.1,r.1.1.2.2.1,r.1.1.2.2.2.1,r.1.1.2.2.2.2.1,()),a,0,()),())):=fun g a hok hg hga=>by
  obtain ⟨z1,z2,z3,z4⟩:=P.zkn hP (show 1<=P.zaP k n m by omega) hne hok
  rw [<-hg]at z1 z2;rw [<-hga]at z3;have hE:P.zcL (toHp h) k n m=0:=by unfold P.zcL;rw [if_pos hask,if_pos (by rw [q1];exact hok)]
  refine zad (zwf g (HpW.of hw z1 z2) a k n m z3 hm) fun r hr=>zab ?_
  dsimp only;try rw [zar]
  refine ⟨hE.symm,?_,?_⟩
  . rw [hr.2,hg,hga];unfold P.zdq;rw [if_pos hE,q2,q3]
  . rw [hga];unfold P.ziG;rw [if_pos hE,q3]
 refine zad (zgH h.1.1 h.1.2.1 _) fun r2 hr2=>zad (zt3 h hw h1 _ (by omega)) fun r3 hr3=>?_
 obtain ⟨⟨(nd:Int),_⟩,_⟩:=r2;have hnd:nd=P.zat (toHp h).pw (toHp h).np (P.zaP k n m):=hr2
 dsimp only;refine zac (fun h3=>?_) fun h3=>?_
 . simp only [qab]at h3;have hpos:0<P.zat (toHp h).pw (toHp h).np (P.zaP k n m):=by omega
   refine zad (zt4 h hw h1 _ _ hnd.symm (by omega)) fun r4 hr4=>?_
   have hOK:P.ze8 (toHp h) (P.zaP k n m)=r4.1.2.2.1:=by unfold P.ze8;rw [if_pos hpos,hr4.1,hnd]
   refine zac (fun h4=>bad 3 (by decide) ?_) fun h4=>?_
   . simp only [qao]at h4;unfold P.zcL;rw [if_pos hask,q1,hOK,h4];rfl
   . simp only [qaw]at h4;obtain ⟨y1,y2⟩:=hr4.2 h4;exact fin _ _ (hOK.trans h4) (by unfold P.zdL;rw [if_pos hpos,<-hnd];exact y1) (by unfold P.zd2;rw [if_pos hpos,<-hnd];exact y2)
 . simp only [qag]at h3;have hpos:¬0<P.zat (toHp h).pw (toHp h).np (P.zaP k n m):=by omega
   have hOK:P.ze8 (toHp h) (P.zaP k n m)=r3.1.2.2.1:=by unfold P.ze8;rw [if_neg hpos,hr3.1]
   refine zac (fun h4=>bad 3 (by decide) ?_) fun h4=>?_
   . simp only [qao]at h4;unfold P.zcL;rw [if_pos hask,q1,hOK,h4];rfl
   . simp only [qaw]at h4;obtain ⟨y1,y2⟩:=hr3.2 h4;exact fin _ _ (hOK.trans h4) (by unfold P.zdL;rw [if_neg hpos];exact y1) (by unfold P.zd2;rw [if_neg hpos];exact y2)
end Go.VI
namespace Go.VI
open Go
theorem zqd(a b:Nat)(ha:a<18446744073709551616)(hb:b<18446744073709551616):zcg IntKind.u64 (fun (x1 x2:BitVec IntKind.u64.bits)=>x1 &&& x2) (a:Int) (b:Int)=((a &&& b:Nat):Int):=by
 have hx:a &&& b<2 ^ 64:=Nat.and_lt_two_pow _ (by omega)
 show IntKind.u64.wrap ((BitVec.ofInt 64 (a:Int) &&& BitVec.ofInt 64 (b:Int)).toNat:Int)=_
 have e:∀ c:Nat,c<18446744073709551616->(BitVec.ofInt 64 (c:Int)).toNat=c:=fun c hc=>by
  rw [BitVec.toNat_ofInt];omega
 rw [BitVec.toNat_and,e a ha,e b hb,IntKind.wrap_u64];omega
theorem zdS(x k:Nat)(hk:0<k):(x:Int).fdiv (k:Int)=((x / k:Nat):Int):=by
 rw [Int.fdiv_eq_ediv_of_nonneg _ (by omega)];exact (Int.natCast_ediv x k).symm
def toHd(x:A7):P.Hd:=⟨x.1,x.2.1,x.2.2.1⟩
theorem zgo(x:Nat)(hx:x<18446744073709551616):Tot (fun r=>r.1.2.1=P.okD x/\r.1.1=(P.decK x,P.decN x,P.decM x,())) (F_r03_Decode ((x:Int),())):=by
 have d1:(2:Int) ^ min (Int.toNat 2) IntKind.u64.bits=((4:Nat):Int):=by decide
 have d2:(2:Int) ^ min (Int.toNat 4) IntKind.u64.bits=((16:Nat):Int):=by decide
 have d3:(2:Int) ^ min (Int.toNat 16) IntKind.u64.bits=((65536:Nat):Int):=by decide
 have k1:W (zcg IntKind.u64 (fun (x1 x2:BitVec IntKind.u64.bits)=>x1 &&& x2) ((x:Int).fdiv (2 ^ min (Int.toNat 2) IntKind.u64.bits)) 3)=(P.dK x:Int):=by
  have e:=zqd (x / 4) 3 (by omega) (by omega)
  rw [show (x / 4) &&& 3=(x / 4) % 4 from qck _ 2]at e
  rw [d1,zdS x 4 (by omega)]
  unfold P.dK;exact (congrArg W e).trans (W_id (by omega))
 have k2:W (zcg IntKind.u64 (fun (x1 x2:BitVec IntKind.u64.bits)=>x1 &&& x2) ((x:Int).fdiv (2 ^ min (Int.toNat 4) IntKind.u64.bits)) 4095)=(P.dN x:Int):=by
  have e:=zqd (x / 16) 4095 (by omega) (by omega)
  rw [show (x / 16) &&& 4095=(x / 16) % 4096 from qck _ 12]at e
  rw [d2,zdS x 16 (by omega)]
  unfold P.dN;exact (congrArg W e).trans (W_id (by omega))
 have k3:U32 ((x:Int).fdiv (2 ^ min (Int.toNat 16) IntKind.u64.bits))=(P.dM x:Int):=by
  rw [d3,zdS x 65536 (by omega)]
  unfold P.dM;rw [U32,IntKind.wrap_u32];omega
 have hmb:(0:Int)<=(P.dM x:Int)/\(P.dM x:Int)<4294967296:=by unfold P.dM;omega
 rw [zpz];dsimp only
 rw [k1,k2,k3,zgn _ _ _ hmb,qaa];dsimp only;simp only [cor];refine zae (by decide) (zae (by decide) (zae (by decide) ?_))
 by_cases hv:P.zaz (P.dK x) (P.dN x) (P.dM x)=true
 . have e1:P.encE (P.dK x) (P.dN x) (P.dM x)=0:=by unfold P.encE;rw [if_pos hv]
   have e2:P.encV (P.dK x) (P.dN x) (P.dM x)=P.zd8 (P.dK x) (P.dN x) (P.dM x):=by unfold P.encV;rw [if_pos hv]
   rw [e1,e2];by_cases hw:P.zd8 (P.dK x) (P.dN x) (P.dM x)=x
   . have hok:P.okD x=true:=P.zo2.2 ⟨hv,hw⟩
     rw [hw];obtain ⟨f1,f2,f3⟩:=P.zrY hok;refine zac (fun c=>by simp at c) fun _=>zab ?_
     rw [hok,f1,f2,f3];exact ⟨rfl,rfl⟩
   . have hok:P.okD x=false:=by rw [<-qbu];exact fun c=>hw (P.zo2.1 c).2
     obtain ⟨f1,f2,f3⟩:=P.zrZ hok;refine zac (fun _=>zab ?_) fun c=>?_
     . rw [hok,f1,f2,f3];exact ⟨rfl,rfl⟩
     . simp only [qaP,qaA]at c;exact absurd c.2 hw
 . have e1:P.encE (P.dK x) (P.dN x) (P.dM x)=1:=by unfold P.encE;rw [if_neg hv]
   have hok:P.okD x=false:=by rw [<-qbu];exact fun c=>hv (P.zo2.1 c).1
   obtain ⟨f1,f2,f3⟩:=P.zrZ hok;rw [e1];refine zac (fun _=>zab ?_) fun c=>by simp at c
   rw [hok,f1,f2,f3];exact ⟨rfl,rfl⟩
theorem ziK(pw np a:Int)(ha:0<=a/\a<18446744073709551616):Tot (fun r=>r.1.1=P.ofI pw np a/\r.1.2.1=P.ofK pw np a/\r.1.2.2.1=P.ofE pw np a) (F_r04_Of ((pw,np,()),a,())):=by
 rw [zxy];dsimp only
 rw [zbg,qaa];dsimp only;simp only [cor];refine zac (fun h=>zab ?_) fun h=>?_
 . obtain ⟨e1,e2,e3⟩:=P.zyU (pw:=pw) (np:=np) (a:=a) (by simpa [zaF] using h)
   rw [e1,e2,e3];exact ⟨rfl,rfl,rfl⟩
 simp only [qaw]at h;have hc:P.confB pw np=true:=by rw [zaF];exact h
 obtain ⟨c1,c2⟩:=P.conf_prod hc;have c3:=P.zaj hc;have w1:W (np*pw)=np*pw:=W_id (by omega)
 have w2:W (4096+np*pw)=4096+np*pw:=W_id (by omega)
 have w3:U (4096+np*pw)=4096+np*pw:=U_id (by omega)
 rw [w1,w2,w3];refine zac (fun h1=>zab ?_) fun h1=>?_
 . simp only [qaY,qab]at h1;obtain ⟨e1,e2,e3⟩:=P.zf3 (a:=a) hc (by unfold P.inAr;exact qaj (by omega))
   rw [e1,e2,e3];exact ⟨rfl,rfl,rfl⟩
 simp only [qaP,qag]at h1;obtain ⟨e1,e2,e3⟩:=P.zl7 (a:=a) hc (by unfold P.inAr;exact qad (by omega))
 have w4:U (a-4096)=a-4096:=U_id (by omega)
 have w5:W (a-4096)=a-4096:=W_id (by omega)
 have hpw:(!pw == 0)=true:=by simp;omega
 rw [w4,w5];refine zae hpw (zae hpw (zab ?_));rw [e1,e2,e3];refine ⟨?_,?_,rfl⟩
 . dsimp only;rw [qbE (by omega)]
   have hd:=Int.ediv_le_self (a:=a-4096) pw (by omega)
   have hd0:=qbT (a:=a-4096) (b:=pw) (by omega) (by omega)
   exact W_id (by omega)
 . dsimp only;exact qcc (by omega)
theorem zcY(ws:List Int)(a:Int)(hl:ws.length<=100000000)(ha:0<=a/\a<18446744073709551616):Tot (fun r=>r.1.1=P.zaq ws a/\r.1.2.1=P.zgS ws a) (F_r02_Load (ws,a,())):=by
 have h68:Tot (fun r=>r.1.1=P.zmw ws.length a/\r.1.2.1=P.zmx ws.length a) (F_r02_Index (ws,a,())):=by
  rw [zrp];dsimp only
  refine zad (zjY ws a 1 hl ha) fun r hr=>?_
  obtain ⟨⟨(i:Int),(b:Bool),_⟩,_⟩:=r;dsimp only at hr ⊢
  unfold P.zmw P.zmx;refine zac (fun h=>zab ?_) fun h=>zab ?_
  . simp only [qao]at h;have:=hr.1.symm.trans h
    rw [this];exact ⟨rfl,rfl⟩
  . simp only [qaw]at h;have:=hr.1.symm.trans h
    rw [this];exact ⟨hr.2 h,rfl⟩
 rw [ztq];dsimp only
 refine zad h68 fun r hr=>?_
 obtain ⟨⟨(i:Int),(e:Int),_⟩,_⟩:=r;dsimp only at hr ⊢
 obtain ⟨h1,h2⟩:=hr;subst h1 h2;unfold P.zmw P.zmx P.zaq P.zgS;cases h:P.okA ws.length a 1
 . exact zab ⟨rfl,rfl⟩
 . have:=P.zav.1 h
   simp only [if_true];refine zac (fun c=>by simp at c) fun _=>zae (zaf.2 ⟨by omega,by omega⟩) (zab ⟨rfl,rfl⟩)
theorem zhB(ws:List Int)(a v:Int)(hl:ws.length<=100000000)(ha:0<=a/\a<18446744073709551616):Tot (fun r=>r.1.1=P.zaC ws a [v]/\r.1.2.1=P.zdo ws a [v]) (F_r02_Store (ws,a,v,())):=by
 rw [zro];dsimp only
 exact zad (zfh ws a [v] hl (by simp) ha) fun r hr=>zab hr
end Go.VI
namespace Go.VI
open Go
def atBx(gk gu o:Int)(y:Nat):Bool:=decide (gk=1\/gk=2)&&decide (o<gu)&&P.okD y&&(if gk=1 then decide (o+((P.dN y:Int)+1)<=gu) else decide (o=0/\(P.dN y:Int)+1=gu))
theorem zgG(h:HpD)(hw:HpW h)(a:Int)(ha:0<=a/\a<18446744073709551616):Tot (fun r=>r.1.2.1=P.atE (toHp h) a/\toHd r.1.1=P.atH (toHp h) a) (F_r05_At (h,a,())):=by
 obtain ⟨⟨pw,np,_⟩,ws,ps,sp,bu,_⟩:=h;have hwl:=hw.wl;have hwb:=hw.wb;dsimp only at hwl hwb
 have hlm:(ps.map toPg).length=ps.length:=qai ..
 rw [zxx];dsimp only
 refine zad (za3 _ hw) fun r hr=>?_
 obtain ⟨⟨(b:Bool),_⟩,_⟩:=r;have hb:b=P.okH (toHp ((pw,np,()),ws,ps,sp,bu,())):=hr
 subst hb;dsimp only;simp only [cor,cand];refine zac (fun h1=>zab ?_) fun h1=>zad (ziK pw np a ha) fun r2 hr2=>?_
 . obtain ⟨e1,e2⟩:=P.ztU (h:=toHp ((pw,np,()),ws,ps,sp,bu,())) (a:=a) (by simpa using h1)
   rw [e1,e2];exact ⟨rfl,rfl⟩
 simp only [qaw]at h1;obtain ⟨p1,p2,p3,p4,p5,p6⟩:=P.zaN (zf2 h1);obtain ⟨c1,c2⟩:=P.conf_prod p1;have c3:=P.zaj p1;simp only [toHp]at p1 p2 p3 c1 c2 c3;rw [hlm]at p3;obtain ⟨⟨(i:Int),(o:Int),(e:Int),_⟩,_⟩:=r2;dsimp only at hr2 ⊢
 obtain ⟨g1,g2,g3⟩:=hr2;refine zac (fun h2=>zab ?_) fun h2=>?_
 . simp only [qaC,ne_eq]at h2;obtain ⟨e1,e2⟩:=P.zjV (a:=a) h1 (by show ¬P.ofE pw np a=0;rw [<-g3];exact h2)
   rw [e1,e2];exact ⟨rfl,rfl⟩
 simp only [qaA]at h2;have hof:P.ofE pw np a=0:=by rw [<-g3];exact h2
 have hin:P.inAr pw np a=true:=by
  cases hq:P.inAr pw np a
  . have:=(P.zf3 (a:=a) p1 hq).2.2
    rw [this]at hof;cases hof
  . rfl
 obtain ⟨q1,q2,q3⟩:=P.zl7 p1 hin;have hia:=qat hin;have hiN:0<=i/\i<ps.length:=by
  rw [g1,q1];refine ⟨qbT (by omega) (by omega),?_⟩
  rw [p3];exact qcl (by omega) (by omega)
 have hoN:0<=o/\o<pw:=by
  rw [g2,q2];exact ⟨Int.emod_nonneg _ (by omega),Int.emod_lt_of_pos _ (by omega)⟩
 refine zae (zaf.2 hiN) (zad (zcY ws a hwl ha) fun r3 hr3=>?_)
 obtain ⟨⟨(x:Int),(e3:Int),_⟩,_⟩:=r3;dsimp only at hr3 ⊢
 have hld:x=ws.getD (a-4096).toNat 0:=by
  rw [hr3.1];unfold P.zaq;rw [if_pos (P.zav.2 (by omega))]
 have hxb:0<=x/\x<18446744073709551616:=by
  rw [hld];exact WBo.getD hwb _
 obtain ⟨y,hy⟩:=qaM hxb.1;have hwa:P.za1 (toHp ((pw,np,()),ws,ps,sp,bu,())) a=y:=by
  unfold P.za1;show (ws.getD (a-4096).toNat 0).toNat=y
  rw [<-hld,hy];rfl
 subst hy;refine zad (zgo y (by omega)) fun r4 hr4=>?_
 obtain ⟨⟨⟨(dk:Int),(dn:Int),(dm:Int),_⟩,(db:Bool),_⟩,_⟩:=r4;dsimp only at hr4 ⊢
 obtain ⟨hd1,hd2⟩:=hr4;simp only [Prod.mk.injEq,qbn]at hd2;obtain ⟨hk,hn,hm⟩:=hd2;have hpg:P.zb0 (toHp ((pw,np,()),ws,ps,sp,bu,())) a=toPg (ps.getD i.toNat PG0):=by
  unfold P.zb0;show (ps.map toPg).getD (P.ofI pw np a).toNat P.Pg.zero=_
  rw [zaB,<-g1]
 have hatB:P.atB (toHp ((pw,np,()),ws,ps,sp,bu,())) a=atBx (P.zb0 (toHp ((pw,np,()),ws,ps,sp,bu,())) a).kind (P.zb0 (toHp ((pw,np,()),ws,ps,sp,bu,())) a).used (P.ofK pw np a) (P.za1 (toHp ((pw,np,()),ws,ps,sp,bu,())) a):=rfl
 rw [hpg,hwa,<-g2]at hatB;have hH:P.atH (toHp ((pw,np,()),ws,ps,sp,bu,())) a=if P.atB (toHp ((pw,np,()),ws,ps,sp,bu,())) a then P.hdOf y else P.Hd.zero:=by
  cases hq:P.atB (toHp ((pw,np,()),ws,ps,sp,bu,())) a
  . rw [(P.zr8 h1 hof hq).2];rfl
  . rw [(P.zoS h1 hof hq).2,hwa];rfl
 have hE:P.atE (toHp ((pw,np,()),ws,ps,sp,bu,())) a=if P.atB (toHp ((pw,np,()),ws,ps,sp,bu,())) a then 0 else 19:=by
  cases hq:P.atB (toHp ((pw,np,()),ws,ps,sp,bu,())) a
  . rw [(P.zr8 h1 hof hq).1];rfl
  . rw [(P.zoS h1 hof hq).1];rfl
 rw [hH,hE,hatB];generalize ps.getD i.toNat PG0=G
 obtain ⟨gk,gs,gu,gp,_⟩:=G;have hab:atBx (toPg (gk,gs,gu,gp,())).kind (toPg (gk,gs,gu,gp,())).used o y=atBx gk gu o y:=rfl
 rw [hab];clear hab;have bad:∀ c:Bool,c=false->Tot (fun r:Au×Unit=>r.1.2.1=(if c=true then (0:Int) else 19)/\toHd r.1.1=if c=true then P.hdOf y else P.Hd.zero) (some (((0,0,0,()),19,()),())):=fun c hc=>by
  subst hc;exact zab ⟨rfl,rfl⟩
 have c19:(bif gk != 1 then gk != 2 || (decide (o >= gu) || !db) else (decide (o >= gu) || !db))=((gk != 1&&gk != 2) || (decide (o >= gu) || !db)):=by
  cases (gk != 1) <;> rfl
 rw [c19];refine zac (fun h3=>bad _ ?_) fun h3=>?_
 . unfold atBx;rw [<-hd1];simp only [qaY,qae,qaC,ne_eq,qab,qao]at h3;rcases h3 with h3 | h3 | h3
   . rw [show decide (gk=1\/gk=2)=false from qaj (by omega)];rfl
   . rw [show decide (o<gu)=false from qaj (by omega)];simp
   . rw [h3];simp
 simp only [qaP,qbC,qaA,qag,qaw]at h3;obtain ⟨h3a,h3b,h3c⟩:=h3;have hokD:P.okD y=true:=by rw [<-hd1];exact h3c
 obtain ⟨d1,d2,d3⟩:=P.zct hokD;obtain ⟨f1,f2,f3⟩:=P.zrY hokD;rw [f1]at hk;rw [f2]at hn;rw [f3]at hm;subst hk hn hm;have hmb:(0:Int)<=(P.dM y:Int)/\(P.dM y:Int)<4294967296:=by unfold P.dM;omega
 have vp:=P.zay d3;rw [zcl _ _ _ hmb,qaa,P.zcq d3];dsimp only;have hwo:W (o+((P.dN y:Int)+1))=o+((P.dN y:Int)+1):=W_id (by omega)
 unfold atBx;rw [hwo,hokD,show decide (gk=1\/gk=2)=true from qad h3a,show decide (o<gu)=true from qad (by omega)]
 simp only [qaU];refine zac (fun h4=>bad _ ?_) fun h4=>zab ?_
 . by_cases k1:gk=1
   . subst k1;rw [if_pos rfl];simp at h4
     exact qaj (by omega)
   . rw [if_neg k1];have k2:gk=2:=by omega
     subst k2;simp at h4
     exact qaj (by omega)
 . have:(if gk=1 then decide (o+((P.dN y:Int)+1)<=gu) else decide (o=0/\(P.dN y:Int)+1=gu))=true:=by
    by_cases k1:gk=1
    . subst k1;rw [if_pos rfl];simp at h4
      exact qad (by omega)
    . rw [if_neg k1];have k2:gk=2:=by omega
      subst k2;simp at h4
      exact qad (by omega)
   rw [this];exact ⟨rfl,rfl⟩
theorem ziI(h:HpD)(hw:HpW h)(a:Int)(ha:0<=a/\a<18446744073709551616):Tot (fun r=>r.1.2.1=P.getE (toHp h) a/\toHd r.1.1=P.getH (toHp h) a) (F_r05_Get (h,a,())):=by
 rw [zvO];dsimp only
 try rw [zar]
 have out:∀ (c:Int),¬c=0->P.getE (toHp h) a=c->Tot (fun r:Au×Unit=>r.1.2.1=P.getE (toHp h) a/\toHd r.1.1=P.getH (toHp h) a) (some (((0,0,0,()),c,()),())):=fun c h0 he=>by
  refine zab ⟨he.symm,?_⟩;unfold P.getH;rw [if_neg (by rw [he];exact h0)];rfl
 refine zad (za3 _ hw) fun r hr=>?_
 obtain ⟨⟨(b:Bool),_⟩,_⟩:=r;have hb:b=P.okH (toHp h):=hr
 subst hb;dsimp only;refine zac (fun h1=>out 1 (by decide) ?_) fun h1=>zac (fun h2=>out 5 (by decide) ?_) fun h2=>zad (zgG h hw a ha) fun r hr=>?_
 . simp only [qao]at h1;unfold P.getE;rw [h1];rfl
 . simp only [qaw]at h1;simp only [qax]at h2;unfold P.getE;rw [if_pos h1,if_pos h2]
 simp only [qaw]at h1;simp only [qaO,ne_eq]at h2;obtain ⟨⟨⟨(k:Int),(n:Int),(m:Int),_⟩,(e:Int),_⟩,_⟩:=r;dsimp only at hr ⊢
 have hg:P.getE (toHp h) a=if P.atE (toHp h) a=0/\(P.atH (toHp h) a).k=0 then 4 else P.atE (toHp h) a:=by
  unfold P.getE;rw [if_pos h1,if_neg h2]
 rw [<-hr.1,<-hr.2]at hg;simp only [cand];refine zac (fun h3=>out 4 (by decide) ?_) fun h3=>zab ?_
 . simp only [qae,qax]at h3;exact hg.trans (if_pos h3)
 . have h3':¬(e=0/\k=0):=fun c=>by rw [c.1,c.2]at h3;cases h3
   have hg:P.getE (toHp h) a=e:=hg.trans (if_neg h3')
   refine ⟨hg.symm,?_⟩;unfold P.getH;rw [hg,<-hr.2];by_cases he:e=0
   . rw [if_pos he]
   . rw [if_neg he,hr.2];unfold P.atH;rw [if_neg (by rw [<-hr.1];exact he)]
end Go.VI
namespace Go.VI
open Go
theorem zrL{h:HpD}{a i:Int}(ha:0<=a/\a<18446744073709551616)(hg:P.getE (toHp h) a=0)(h0:0<=i)(h1:i<(P.getH (toHp h) a).n):a<100000/\i<100000:=by
 have hok:P.okH (toHp h)=true:=by
  cases hq:P.okH (toHp h)
  . unfold P.getE at hg;rw [hq]at hg;cases hg
  . rfl
 obtain ⟨p1,p2,p3,p4,p5,p6⟩:=P.zaN (zf2 hok);obtain ⟨c1,c2⟩:=P.conf_prod p1;have hat:P.atE (toHp h) a=0:=by
  unfold P.getE at hg;rw [if_pos hok]at hg;split at hg
  . cases hg
  . split at hg
    . cases hg
    . exact hg
 have hof:P.ofE (toHp h).pw (toHp h).np a=0:=by
  unfold P.atE at hat;rw [if_pos hok]at hat;split at hat
  . assumption
  . cases hat
 have hin:P.inAr (toHp h).pw (toHp h).np a=true:=by
  cases hq:P.inAr (toHp h).pw (toHp h).np a
  . have:=(P.zf3 (a:=a) p1 hq).2.2
    rw [this]at hof;cases hof
  . rfl
 have hia:=qat hin;have hH:P.getH (toHp h) a=P.hdOf (P.za1 (toHp h) a):=by
  unfold P.getH;rw [if_pos hg];unfold P.atH;rw [if_pos hat]
 rw [hH]at h1;simp only [P.hdOf]at h1;have:P.dN (P.za1 (toHp h) a)<4096:=by unfold P.dN;omega
 omega
theorem zt5(h:HpD)(hw:HpW h)(a i:Int)(ha:0<=a/\a<18446744073709551616):Tot (fun r=>r.1.1=P.zzD (toHp h) a i/\r.1.2.1=P.zky (toHp h) a i) (F_r05_Field (h,a,i,())):=by
 rw [zrg];dsimp only
 try rw [zar]
 refine zad (ziI h hw a ha) fun r hr=>?_
 obtain ⟨⟨⟨(k:Int),(n:Int),(m:Int),_⟩,(e:Int),_⟩,_⟩:=r;dsimp only at hr ⊢
 obtain ⟨he,hH⟩:=hr;have hn:(P.getH (toHp h) a).n=n:=(congrArg P.Hd.n hH).symm
 unfold P.zzD P.zky;rw [hn,<-he];simp only [cor];refine zac (fun h1=>zab ?_) fun h1=>?_
 . simp only [qaC,ne_eq]at h1;rw [if_neg h1,if_neg h1];exact ⟨rfl,rfl⟩
 simp only [qaA]at h1;rw [if_pos h1,if_pos h1];refine zac (fun h2=>zab ?_) fun h2=>?_
 . simp only [qaY,qab]at h2;have:i<0\/n<=i:=by omega
   rw [if_pos this,if_pos this];exact ⟨rfl,rfl⟩
 . simp only [qaP,qag]at h2;have:¬(i<0\/n<=i):=by omega
   rw [if_neg this,if_neg this];obtain ⟨b1,b2⟩:=zrL ha (he.symm.trans h1) (show 0<=i by omega) (by rw [hn];omega)
   have w1:U (a+1)=a+1:=U_id (by omega)
   have w2:U i=i:=U_id (by omega)
   have w3:U (a+1+i)=a+1+i:=U_id (by omega)
   rw [w1,w2,w3];exact zad (zcY h.2.1 (a+1+i) hw.wl (by omega)) fun r hr=>zab hr
theorem zn3(h:HpD)(hw:HpW h)(a i v:Int)(ha:0<=a/\a<18446744073709551616):Tot (fun r=>toHp r.1.1=P.setV (toHp h) a i v/\r.1.2.1=P.setE (toHp h) a i) (F_r05_SetField (h,a,i,v,())):=by
 rw [zmg];dsimp only
 try rw [zar]
 refine zad (zt5 h hw a i ha) fun r hr=>?_
 obtain ⟨⟨(x:Int),(e:Int),_⟩,_⟩:=r;dsimp only at hr ⊢
 obtain ⟨-,he⟩:=hr;unfold P.setV P.setE;rw [<-he];refine zac (fun h1=>zab ?_) fun h1=>?_
 . simp only [qaC,ne_eq]at h1;rw [if_neg h1];exact ⟨rfl,rfl⟩
 simp only [qaA]at h1;have hf:=he.symm.trans h1;have hg:P.getE (toHp h) a=0:=by
  unfold P.zky at hf;split at hf
  . assumption
  . exact hf
 have hi:0<=i/\i<(P.getH (toHp h) a).n:=by
  unfold P.zky at hf;rw [if_pos hg]at hf;split at hf
  . cases hf
  . omega
 obtain ⟨b1,b2⟩:=zrL ha hg hi.1 hi.2;have w1:U (a+1)=a+1:=U_id (by omega)
 have w2:U i=i:=U_id (by omega)
 have w3:U (a+1+i)=a+1+i:=U_id (by omega)
 rw [w1,w2,w3,if_pos h1];refine zad (zhB h.2.1 (a+1+i) v hw.wl (by omega)) fun r hr=>zab ?_
 simp only [toHp];rw [hr.1];exact ⟨rfl,h1.symm⟩
theorem zoR(a b:Nat)(ha:a<4294967296)(hb:b<4294967296):zcg IntKind.u32 (fun (x1 x2:BitVec IntKind.u32.bits)=>x1 &&& x2) (a:Int) (b:Int)=((a &&& b:Nat):Int):=by
 have hx:a &&& b<2 ^ 32:=Nat.and_lt_two_pow _ (by omega)
 show IntKind.u32.wrap ((BitVec.ofInt 32 (a:Int) &&& BitVec.ofInt 32 (b:Int)).toNat:Int)=_
 have e:∀ c:Nat,c<4294967296->(BitVec.ofInt 32 (c:Int)).toNat=c:=fun c hc=>by
  rw [BitVec.toNat_ofInt];omega
 rw [BitVec.toNat_and,e a ha,e b hb,IntKind.wrap_u32];omega
theorem zfg(k n m i:Int)(hm:0<=m/\m<4294967296):Tot (fun r=>r.1.1=P.ptrB k n m i) (F_r03_Pointer ((k,n,m,()),i,())):=by
 rw [znK];dsimp only
 rw [zdT k n m hm,qaa];dsimp only;simp only [cor];unfold P.ptrB;refine zac (fun h=>zab ?_) fun h=>?_
 . symm
   simp only [qaY,qao,qab]at h;rcases h with h | h | h
   . rw [h];rfl
   . rw [qaj (show ¬0<=i by omega)];simp
   . rw [qaj (show ¬i<n by omega)];simp
 simp only [qaP,qaw,qag]at h;obtain ⟨hv,h0,h1⟩:=h;have c:=P.zay hv;have ui:U i=i:=U_id (by omega)
 rw [hv,qad (show 0<=i by omega),qad (show i<n by omega),ui]
 refine zae ?_ (zab ?_)
 . rw [qaj h0];cases (k == 2) <;> cases (k == 1) <;> rfl
 simp only [qaU];by_cases k2:k=2
 . subst k2;rfl
 by_cases k1:k=1
 . subst k1;obtain ⟨mm,rfl⟩:=qaM hm.1;obtain ⟨j,rfl⟩:=qaM (show 0<=i by omega)
   have hmin:min j IntKind.u32.bits=j:=by
    have:IntKind.u32.bits=32:=rfl
    have:=(c.2.2.2.2.1 rfl).1
    omega
   have hp:0<2 ^ j:=qce (by omega)
   have e1:(2:Int) ^ j=((2 ^ j:Nat):Int):=by rw [qci];rfl
   have hle:mm / 2 ^ j<=mm:=Nat.div_le_self _ _
   have e:=zoR (mm / 2 ^ j) 1 (by omega) (by omega)
   rw [Nat.and_one_is_mod]at e;have key:zcg IntKind.u32 (fun (x1 x2:BitVec IntKind.u32.bits)=>x1 &&& x2) ((mm:Int).fdiv (2 ^ min (Int.toNat (j:Int)) IntKind.u32.bits)) 1=((mm / 2 ^ j % 2:Nat):Int):=by
    rw [qac,hmin,e1,zdS mm (2 ^ j) hp];exact e
   simp only [qac]at key;simp only [qac];rw [key,Nat.testBit_eq_decide_div_mod_eq];have:(((1:Int) == 2)=false):=rfl
   rw [this,Bool.false_or];have:(((1:Int) == 1)=true):=rfl
   rw [this,qah];generalize mm / 2 ^ j % 2=z
   rw [qa9];simp
   omega
 . have e1:(k == 2)=false:=by simp [k2]
   have e2:(k == 1)=false:=by simp [k1]
   rw [e1,e2,qaj k2,qaj k1];rfl
theorem zkG(h:HpD)(hl:h.2.2.1.length<=100000000):Tot (fun r=>r.1.1=(P.zaZ (h.2.2.1.map toPg):Int)) (F_made_crowd (h,())):=by
 obtain ⟨⟨pw,np,_⟩,ws,ps,sp,bu,_⟩:=h;dsimp only at hl
 rw [zh7];dsimp only
 refine zad (P:=fun r=>r.1.1=(P.zaZ (ps.map toPg):Int)) (zai (fun x=>∃ k:Nat,x.1.2.1=(k:Int)/\k<=ps.length/\x.1.1=(P.zaZ ((ps.map toPg).take k):Int)) (fun x=>((ps.length:Int)-x.1.2.1).toNat) ⟨0,rfl,by omega,by simp [P.zaZ]⟩ ?_) fun r hr=>zab hr
 rintro ⟨⟨(n:Int),(i:Int),_⟩,_⟩ ⟨k,e,hk,e2⟩;dsimp only at e e2 ⊢
 subst e e2;have hle:=P.zr0 ((ps.map toPg).take k);rw [qau]at hle;refine zac (fun h=>?_) fun h=>zab ?_
 . simp only [qab]at h;have hk:k<ps.length:=by omega
   have w2:W ((k:Int)+1)=k+1:=W_id (by omega)
   have w1:W ((P.zaZ ((ps.map toPg).take k):Int)+1)=P.zaZ ((ps.map toPg).take k)+1:=W_id (by omega)
   have hin:inB (k:Int) ps.length=true:=zaf.2 ⟨by omega,h⟩
   refine zae hin (zae (zax fun _=>hin) (zab ?_))
   rw [w1,w2,qac];simp only [qal];refine ⟨⟨k+1,by omega,by omega,?_⟩,by omega⟩
   rw [P.zhy (zaH hk)];generalize ps.getD k PG0=G
   obtain ⟨gk,gs,gu,gp,_⟩:=G;have e1:(toPg (gk,gs,gu,gp,())).kind=gk:=rfl
   have e2:(toPg (gk,gs,gu,gp,())).pins=gp:=rfl
   rw [e1,e2];simp only [cand];by_cases hc:gk=1/\0<gp
   . rw [if_pos hc];obtain ⟨c1,c2⟩:=hc;simp [c1,c2]
   . rw [if_neg hc];have:(gk == 1&&decide (gp > 0))=false:=by
      rw [<-qbu];intro c;simp only [qae,qax,qab]at c;exact hc ⟨c.1,c.2⟩
     rw [this];rfl
 . simp only [qag]at h;simp only [qak];rw [qa2 (by rw [qai];omega)]
end Go.VI
namespace Go.VI
open Go
abbrev WdD:=HpD×List Int×List Int×Unit
def toWd(d:WdD):P.Wd:=⟨toHp d.1,d.2.1,d.2.2.1⟩
structure Mk (n:Nat) (d:WdD):Prop where
 made:P.Made n (toWd d)
 wb:WBo d.1.2.1
 n400:n<=400
theorem Mk.lens{n:Nat}{d:WdD}(h:Mk n d):P.Lens n (toWd d):=P.zxH n _ h.made h.n400
theorem Mk.hw{n:Nat}{d:WdD}(h:Mk n d):HpW d.1:=by
 have L:=h.lens;have c:=P.conf_prod L.conf;have c3:=P.zaj L.conf;have h1:=L.words;have h2:=L.pages;have e:(toWd d).h.pages.length=d.1.2.2.1.length:=qai ..
 rw [e]at h2;have h3:(d.1.2.1.length:Int)=(toWd d).h.np*(toWd d).h.pw:=h1
 exact ⟨by omega,by omega,h.wb⟩
theorem ziM(l:List Int)(a pw np:Int)(h0:0<=a)(h1:a<=100000000)(hc:confB pw np=true):
 Tot (fun (r:B0×A4×Unit)=>(1<=r.1.1.1/\r.1.1.1<=3/\0<=r.1.1.2.1/\r.1.1.2.1<=100/\0<=r.1.1.2.2.1/\r.1.1.2.2.1<4096)/\r.2.1.1=l/\a<=r.2.1.2.1/\r.2.1.2.1<=a+10) (F_made_Tape_Header ((l,a,()),(pw,np,()),())):=by
 have c:=zaT.1 hc;rw [zhl];dsimp only
 rw [zdj,qaa];dsimp only;have hq:W (pw.tdiv 4)=pw / 4:=by rw [qbE (by omega)];exact W_id (by omega)
 rw [hc,if_pos rfl,hq];have mask:∀ n:Int,0<=n->n<=100->∃ k:Nat,W (1*2 ^ min (U (if 12<if 32<n then 32 else n then 12 else if 32<n then 32 else n)).toNat IntKind.i64.bits)=((2 ^ k:Nat):Int)/\k<=12/\0<=U (if 12<if 32<n then 32 else n then 12 else if 32<n then 32 else n):=fun n n0 n1=>by
  obtain ⟨j,hj,hj2⟩:∃ j:Nat,(if 12<if 32<n then 32 else n then 12 else if 32<n then 32 else n)=(j:Int)/\j<=12:=by
   refine ⟨(if 12<if 32<n then 32 else n then 12 else if 32<n then 32 else n).toNat,?_,?_⟩ <;> (repeat' split) <;> omega
  rw [hj,U_id (by omega),qac]
  have hb:min j IntKind.i64.bits=j:=by
   have:IntKind.i64.bits=64:=rfl
   omega
  have e:(2:Int) ^ j=((2 ^ j:Nat):Int):=by rw [qci];rfl
  have hle:2 ^ j<=2 ^ 12:=qb5 (by omega) hj2
  have h12:(2:Nat) ^ 12=4096:=by decide
  refine ⟨j,?_,hj2,by omega⟩
  rw [hb,qbk,e];generalize 2 ^ j=z at hle ⊢
  exact W_id (by omega)
 have pk:∀ k:Nat,k<=12->((2 ^ k:Nat):Int)<=4096/\1<=((2 ^ k:Nat):Int):=fun k hk=>by
  have hle:2 ^ k<=2 ^ 12:=qb5 (by omega) hk
  have h12:(2:Nat) ^ 12=4096:=by decide
  have h0:0<2 ^ k:=qce (by omega)
  generalize 2 ^ k=z at hle h0 ⊢
  omega
 refine zad (zal l a (pw / 4) h0 (by omega) (by omega)) ?_
 rintro ⟨⟨(v1:Int),_⟩,⟨(l1:List Int),(a1:Int),_⟩,_⟩ g1;have q1:=g1.lo;have q2:=g1.hi (by omega);have q3:=g1.l;have q4:=g1.a0;have q5:=g1.a1
 dsimp only at q1 q2 q3 q4 q5 ⊢
 subst q3;refine zad (zal l1 a1 12 (by omega) (by omega) (by omega)) ?_
 rintro ⟨⟨(v2:Int),_⟩,⟨(l2:List Int),(a2:Int),_⟩,_⟩ g2;have r3:=g2.l;have r4:=g2.a0;have r5:=g2.a1
 dsimp only at r3 r4 r5 ⊢
 subst r3;refine zac (fun _=>?_) fun _=>?_
 . refine zad (zal l2 a2 pw (by omega) (by omega) (by omega)) ?_
   rintro ⟨⟨(v3:Int),_⟩,⟨(l3:List Int),(a3:Int),_⟩,_⟩ g3;have s1:=g3.lo;have s2:=g3.hi (by omega);have s3:=g3.l;have s4:=g3.a0;have s5:=g3.a1
   dsimp only at s1 s2 s3 s4 s5 ⊢
   subst s3;refine zad (zal l3 a3 4 (by omega) (by omega) (by omega)) ?_
   rintro ⟨⟨(v4:Int),_⟩,⟨(l4:List Int),(a4:Int),_⟩,_⟩ g4;have t3:=g4.l;have t4:=g4.a0;have t5:=g4.a1
   dsimp only at t3 t4 t5 ⊢
   subst t3;have w:W (pw / 4+v3)=pw / 4+v3:=W_id (by omega)
   rw [w];obtain ⟨k,m1,m2,m3⟩:=mask (pw / 4+v3) (by omega) (by omega)
   rw [m1];have hk:=pk k m2;obtain ⟨z,hz⟩:∃ z:Int,((2 ^ k:Nat):Int)=z:=⟨_,rfl⟩
   rw [hz]at hk ⊢
   refine zac (fun _=>zab ?_) fun _=>zac (fun _=>zab ?_) fun _=>zae ?_ ?_
   . exact ⟨⟨by dsimp only;omega,by dsimp only;omega,by dsimp only;omega,by dsimp only;omega,by dsimp only;omega,by dsimp only;omega⟩,rfl,by dsimp only;omega,by dsimp only;omega⟩
   . exact ⟨⟨by dsimp only;omega,by dsimp only;omega,by dsimp only;omega,by dsimp only;omega,by dsimp only;omega,by dsimp only;omega⟩,rfl,by dsimp only;omega,by dsimp only;omega⟩
   . simp only [qao,qag];omega
   refine zad (zal l4 a4 _ (by omega) (by omega) (by omega)) ?_
   rintro ⟨⟨(v5:Int),_⟩,⟨(l5:List Int),(a5:Int),_⟩,_⟩ g5;have u1:=g5.lo;have u2:=g5.hi (by omega);have u3:=g5.l;have u4:=g5.a0;have u5:=g5.a1
   dsimp only at u1 u2 u3 u4 u5 ⊢
   subst u3;have wu:U32 v5=v5:=by rw [U32,IntKind.wrap_u32];omega
   rw [wu];refine zab ?_;dsimp only;refine ⟨⟨by omega,by omega,?_,?_,by omega,by omega⟩,rfl,by omega,by omega⟩ <;> split <;> omega
 . refine zad (zal l2 a2 4 (by omega) (by omega) (by omega)) ?_
   rintro ⟨⟨(v4:Int),_⟩,⟨(l4:List Int),(a4:Int),_⟩,_⟩ g4;have t3:=g4.l;have t4:=g4.a0;have t5:=g4.a1
   dsimp only at t3 t4 t5 ⊢
   subst t3;obtain ⟨k,m1,m2,m3⟩:=mask v1 (by omega) (by omega)
   rw [m1];have hk:=pk k m2;obtain ⟨z,hz⟩:∃ z:Int,((2 ^ k:Nat):Int)=z:=⟨_,rfl⟩
   rw [hz]at hk ⊢
   refine zac (fun _=>zab ?_) fun _=>zac (fun _=>zab ?_) fun _=>zae ?_ ?_
   . exact ⟨⟨by dsimp only;omega,by dsimp only;omega,by dsimp only;omega,by dsimp only;omega,by dsimp only;omega,by dsimp only;omega⟩,rfl,by dsimp only;omega,by dsimp only;omega⟩
   . exact ⟨⟨by dsimp only;omega,by dsimp only;omega,by dsimp only;omega,by dsimp only;omega,by dsimp only;omega,by dsimp only;omega⟩,rfl,by dsimp only;omega,by dsimp only;omega⟩
   . simp only [qao,qag];omega
   refine zad (zal l4 a4 _ (by omega) (by omega) (by omega)) ?_
   rintro ⟨⟨(v5:Int),_⟩,⟨(l5:List Int),(a5:Int),_⟩,_⟩ g5;have u1:=g5.lo;have u2:=g5.hi (by omega);have u3:=g5.l;have u4:=g5.a0;have u5:=g5.a1
   dsimp only at u1 u2 u3 u4 u5 ⊢
   subst u3;have wu:U32 v5=v5:=by rw [U32,IntKind.wrap_u32];omega
   rw [wu];refine zab ?_;dsimp only;refine ⟨⟨by omega,by omega,?_,?_,by omega,by omega⟩,rfl,by omega,by omega⟩ <;> split <;> omega
theorem zbW(n:Nat)(d:WdD)(hm:Mk n d)(l:List Int)(a:Int)(h0:0<=a)(h1:a<=100000000):
 Tot (fun (r:Ag)=>r.1.1∈0::(d.2.1++d.2.2.1)/\(0<=r.1.1/\r.1.1<18446744073709551616)/\r.2.1.1=l/\a<=r.2.1.2.1/\r.2.1.2.1<=a+1) (F_made_World_pick (d,(l,a,()),())):=by
 obtain ⟨h,st,wk,_⟩:=d;have L:=hm.lens;have n4:=hm.n400;have s1:st.length<=n:=L.stn
 have s2:wk.length<=n:=L.wkn
 rw [zh8];dsimp only
 have hlen:(([0]:List Int)++st++wk).length=1+st.length+wk.length:=by simp;omega
 refine zae (zak.2 (by simp;omega)) (zae (zak.2 (by simp;omega)) (zad (zal l a ((([0]:List Int)++st++wk).length:Int) h0 (by omega) (by rw [hlen];omega)) ?_))
 rintro ⟨⟨(v:Int),_⟩,⟨(l1:List Int),(a1:Int),_⟩,_⟩ g;have q1:=g.lo;have q2:=g.hi (by rw [hlen];omega);have q3:=g.l;have q4:=g.a0;have q5:=g.a1
 dsimp only at q1 q2 q3 q4 q5 ⊢
 have hmem:(([0]:List Int)++st++wk).getD v.toNat 0∈([0]:List Int)++st++wk:=zaE (by rw [hlen]at q2 ⊢;omega)
 refine zae (zaf.2 ⟨q1,q2⟩) (zab ?_);generalize (([0]:List Int)++st++wk).getD v.toNat 0=z at hmem ⊢
 have hz:z∈0::(st++wk):=by simpa using hmem
 refine ⟨hz,?_,q3,q4,q5⟩;rcases qap.1 hz with e | e
 . subst e;dsimp only;omega
 . rcases qaq.1 e with e | e
   . exact L.st z e
   . exact L.wk z e
theorem zfw(n:Nat)(hn:n<400)(d:WdD)(hm:Mk n d)(k s m:Int)(h:1<=k/\k<=3/\0<=s/\s<=100/\0<=m/\m<4096):Tot (fun r=>Mk (n+1) r.1.1) (F_made_World_Put (d,(k,s,m,()),())):=by
 obtain ⟨g,st,wk,_⟩:=d;have L:=hm.lens;have s1:st.length<=n:=L.stn
 rw [zeI];dsimp only
 try rw [zar]
 have keep:Tot (fun r:(WdD×Unit)×Unit=>Mk (n+1) r.1.1) (some (((g,st,wk,()),()),())):=zab ⟨.step n _ _ hm.made (.none _),hm.wb,by omega⟩
 refine zad (zsd g hm.hw k s m (by omega)) ?_
 rintro ⟨⟨(g':HpD),(a:Int),(e:Int),_⟩,_⟩ ⟨h1,h2,h3⟩;dsimp only at h1 h2 h3 ⊢
 refine zae (zax fun _=>zak.2 (by omega)) (zae (zax fun _=>zak.2 (by simp;omega)) (zac (fun he=>zab ?_) fun _=>keep))
 simp only [qax]at he;have hE:P.zcL (toHp g) k s m=0:=by rw [<-h1];exact he
 have hst:=P.MStep.put (toWd (g,st,wk,())) k s m h.1 h.2.1 h.2.2.1 h.2.2.2.1 h.2.2.2.2.1 h.2.2.2.2.2 hE;have ew:toWd (g',st++[a],wk,())=P.putV (toWd (g,st,wk,())) k s m:=by
  unfold toWd P.putV;dsimp only;rw [h2,h3]
 refine ⟨?_,?_,by omega⟩
 . dsimp only;rw [ew];exact .step n _ _ hm.made hst
 . have hv:P.zaz k s m=true:=by
    unfold P.zcL P.zks P.zk7 at hE;cases hv:P.zaz k s m
    . rw [hv]at hE;simp at hE
    . rfl
   have hwds:(P.zmp (toHp g) k s m).words=g.2.1:=by
    unfold P.zmp;split <;> rfl
   show WBo (toHp g').words
   rw [h2];unfold P.zdq;rw [if_pos hE];unfold P.zmu;split
   . exact P.zhO (by rw [hwds];exact hm.wb) (P.zy7 hv (by omega))
   . exact P.WB.nil
end Go.VI
namespace Go.VI
open Go
theorem Mk.keep{n:Nat}(hn:n<400){d:WdD}(h:Mk n d):Mk (n+1) d:=⟨.step n _ _ h.made (.none _),h.wb,by omega⟩
theorem zj0(n:Nat)(hn:n<400)(d:WdD)(hm:Mk n d)(l:List Int)(a:Int)(h0:0<=a)(h1:a<=10000000):
 Tot (fun (r:(WdD×Unit)×A4×Unit)=>Mk (n+1) r.1.1/\r.2.1.1=l/\a<=r.2.1.2.1/\r.2.1.2.1<=a+20) (F_made_World_Link (d,(l,a,()),())):=by
 obtain ⟨g,st,wk,_⟩:=d;rw [zia];dsimp only
 try rw [zar]
 refine zad (zbW n _ hm l a h0 (by omega)) ?_
 rintro ⟨⟨(p:Int),_⟩,⟨(l1:List Int),(a1:Int),_⟩,_⟩ ⟨m1,m2,m3,m4,m5⟩;dsimp only at m1 m2 m3 m4 m5 ⊢
 subst m3;refine zad (zbW n _ hm l1 a1 (by omega) (by omega)) ?_
 rintro ⟨⟨(q:Int),_⟩,⟨(l2:List Int),(a2:Int),_⟩,_⟩ ⟨k1,k2,k3,k4,k5⟩;dsimp only at k1 k2 k3 k4 k5 ⊢
 subst k3;refine zad (zal l2 a2 8 (by omega) (by omega) (by omega)) ?_
 rintro ⟨⟨(v:Int),_⟩,⟨(l3:List Int),(a3:Int),_⟩,_⟩ g1;have q1:=g1.lo;have q2:=g1.hi (by omega);have q3:=g1.l;have q4:=g1.a0;have q5:=g1.a1
 dsimp only at q1 q2 q3 q4 q5 ⊢
 subst q3;refine zad (ziI g hm.hw p m2) ?_;rintro ⟨⟨⟨(hk:Int),(hn':Int),(hmm:Int),_⟩,(e:Int),_⟩,_⟩ ⟨he,hH⟩;dsimp only at he hH ⊢
 simp only [cor];refine zac (fun _=>zab ⟨hm.keep hn,rfl,by dsimp only;omega,by dsimp only;omega⟩) fun hc=>?_
 simp only [qaP,qaA,qaO,ne_eq]at hc;obtain ⟨c1,c2⟩:=hc;have hg:P.getE (toHp g) p=0:=he.symm.trans c1
 have ek:(P.getH (toHp g) p).k=hk:=(congrArg P.Hd.k hH).symm
 have en:(P.getH (toHp g) p).n=hn':=(congrArg P.Hd.n hH).symm
 have em:(P.getH (toHp g) p).m=hmm:=(congrArg P.Hd.m hH).symm
 have hdat:P.getH (toHp g) p=P.hdOf (P.za1 (toHp g) p):=by
  have hat:P.atE (toHp g) p=0:=by
   unfold P.getE at hg;split at hg
   . split at hg
     . cases hg
     . split at hg
       . cases hg
       . exact hg
   . cases hg
  unfold P.getH;rw [if_pos hg];unfold P.atH;rw [if_pos hat]
 have hpos:0<=hn'/\hn'<4096:=by
  rw [<-en,hdat];simp only [P.hdOf];unfold P.dN;omega
 have hmb:0<=hmm/\hmm<4294967296:=by
  rw [<-em,hdat];simp only [P.hdOf];unfold P.dM;omega
 have hi0:0<=v.tmod hn':=Int.tmod_nonneg _ q1
 have hi1:v.tmod hn'<hn':=Int.tmod_lt_of_pos _ (by omega)
 have fin:∀ (b:Int) (tp:A4),tp.1=l3->a<=tp.2.1->tp.2.1<=a+20->0<=b->b<18446744073709551616->(P.ptrB hk hn' hmm (v.tmod hn')=true->b∈0::(st++wk)) ->
  Tot (fun (r:(WdD×Unit)×A4×Unit)=>Mk (n+1) r.1.1/\r.2.1.1=l3/\a<=r.2.1.2.1/\r.2.1.2.1<=a+20) ((F_r05_SetField (g,p,v.tmod hn',b,())).bind fun (r:AJ)=>some (((((r.1.1.1.1,r.1.1.1.2.1,()),r.1.1.2.1,r.1.1.2.2.1,r.1.1.2.2.2.1,r.1.1.2.2.2.2.1,()),st,wk,()),()),(tp.1,tp.2.1,()),())):=fun b tp t1 t2 t3 b0 b1 hb=>by
  refine zad (zn3 g hm.hw p (v.tmod hn') b m2) fun r hr=>zab ?_
  obtain ⟨⟨(g':HpD),(e':Int),_⟩,_⟩:=r;dsimp only at hr ⊢
  try rw [zar]
  refine ⟨⟨?_,?_,by omega⟩,t1,t2,t3⟩
  . have hs:=P.MStep.link (toWd (g,st,wk,())) p (v.tmod hn') b m1 hg hi0 (by show _<(P.getH (toHp g) p).n;rw [en];exact hi1) b0 b1 (by
     show P.ptrB (P.getH (toHp g) p).k (P.getH (toHp g) p).n (P.getH (toHp g) p).m _=true->_
     rw [ek,en,em];exact hb)
    have ew:toWd (g',st,wk,())={ toWd (g,st,wk,()) with h:=P.setV (toWd (g,st,wk,())).h p (v.tmod hn') b }:=by
     unfold toWd;dsimp only;rw [hr.1]
    rw [ew];exact .step n _ _ hm.made hs
  . show WBo (toHp g').words
    rw [hr.1];unfold P.setV;split
    . refine P.zhO hm.wb fun x hx=>?_
      rw [qa0]at hx;subst hx;exact ⟨b0,b1⟩
    . exact P.WB.nil
 refine zae (by simp;exact c2) (zad (zfg hk hn' hmm (v.tmod hn') hmb) ?_)
 rintro ⟨⟨(pt:Bool),_⟩,_⟩ hpt;dsimp only at hpt ⊢
 refine zac (fun h2=>?_) fun h2=>?_
 . refine zad (zal l3 a3 1048576 (by omega) (by omega) (by omega)) ?_
   rintro ⟨⟨(u:Int),_⟩,⟨(l4:List Int),(a4:Int),_⟩,_⟩ g2;have r1:=g2.lo;have r2:=g2.hi (by omega);have r3:=g2.l;have r4:=g2.a0;have r5:=g2.a1
   dsimp only at r1 r2 r3 r4 r5 ⊢
   subst r3;have wu:U u=u:=U_id (by omega)
   rw [wu];exact fin u (l4,a4,()) rfl (by dsimp only;omega) (by dsimp only;omega) r1 (by omega) (fun c=>by rw [<-hpt]at c;rw [c]at h2;cases h2)
 . exact fin q (l3,a3,()) rfl (by dsimp only;omega) (by dsimp only;omega) k2.1 k2.2 (fun _=>k1)
theorem zk8(n:Nat)(hn:n<400)(d:WdD)(hm:Mk n d)(l:List Int)(a:Int)(h0:0<=a)(h1:a<=10000000):
 Tot (fun (r:(WdD×Unit)×A4×Unit)=>Mk (n+1) r.1.1/\r.2.1.1=l/\a<=r.2.1.2.1/\r.2.1.2.1<=a+20) (F_made_World_Pin (d,(l,a,()),())):=by
 obtain ⟨⟨⟨pw,np,_⟩,ws,ps,sp,bu,_⟩,st,wk,_⟩:=d;have L:=hm.lens;have hcf:P.confB pw np=true:=L.conf
 have c3:=P.zaj hcf;have hpl:=hm.hw.pl;dsimp only at hpl
 have hlm:(ps.map toPg).length=ps.length:=qai ..
 rw [zjz];dsimp only
 refine zad (zbW n _ hm l a h0 (by omega)) ?_
 rintro ⟨⟨(p:Int),_⟩,⟨(l1:List Int),(a1:Int),_⟩,_⟩ ⟨m1,m2,m3,m4,m5⟩;dsimp only at m1 m2 m3 m4 m5 ⊢
 subst m3;refine zad (ziK pw np p m2) ?_;rintro ⟨⟨(i:Int),(o:Int),(e:Int),_⟩,_⟩ ⟨g1,g2,g3⟩;dsimp only at g1 g2 g3 ⊢
 refine zac (fun _=>zab ⟨hm.keep hn,rfl,by dsimp only;omega,by dsimp only;omega⟩) fun he=>zae (zak.2 (by omega)) ?_
 simp only [qaA]at he;have hof:P.ofE pw np p=0:=g3.symm.trans he
 have hin:P.inAr pw np p=true:=by
  cases hq:P.inAr pw np p
  . have:=(P.zf3 (a:=p) hcf hq).2.2
    rw [this]at hof;cases hof
  . rfl
 obtain ⟨q1,q2,q3⟩:=P.zl7 hcf hin;have hia:=qat hin;have hpn:(ps.length:Int)=np:=by have:=L.pages;rw [<-hlm];exact this
 have hiN:0<=i/\i<ps.length:=by
  rw [g1,q1];refine ⟨qbT (by omega) (by omega),?_⟩
  rw [hpn];exact qcl (by omega) (by omega)
 obtain ⟨j,rfl⟩:=qaM hiN.1;have hj:j<ps.length:=by omega
 rw [qac];have hat:=zaH hj;have hpin:=L.pins (toPg (ps.getD j PG0)) (qba hat);generalize hG:ps.getD j PG0=G at *
 obtain ⟨gk,gs,gu,gp,_⟩:=G;have hpin:0<=gp/\gp<=n:=hpin
 have n4:=hm.n400;dsimp only;have wm:W (gp-1)=gp-1:=W_id (by omega)
 have wp:W (gp+1)=gp+1:=W_id (by omega)
 rw [wm,wp];have step:∀ (z:Int) (tp:A4),tp.1=l1->a<=tp.2.1->tp.2.1<=a+20->((0<gp/\z=gp-1)\/(z=gp+1/\(0<gp\/gk=2\/(P.zaZ (ps.map toPg):Int)<np / 4))) ->
  Tot (fun (r:(WdD×Unit)×A4×Unit)=>Mk (n+1) r.1.1/\r.2.1.1=l1/\a<=r.2.1.2.1/\r.2.1.2.1<=a+20) (some (((((pw,np,()),ws,ps.set j (gk,gs,gu,z,()),sp,bu,()),st,wk,()),()),(tp.1,tp.2.1,()),())):=fun z tp t1 t2 t3 hz=>by
  refine zab ⟨⟨?_,hm.wb,by omega⟩,t1,t2,t3⟩
  have hs:=P.MStep.pin (toWd (((pw,np,()),ws,ps,sp,bu,()),st,wk,())) p j (toPg (gk,gs,gu,gp,())) z m1 hof g1.symm hat hz;have ew:toWd (((pw,np,()),ws,ps.set j (gk,gs,gu,z,()),sp,bu,()),st,wk,())={ toWd (((pw,np,()),ws,ps,sp,bu,()),st,wk,()) with h:={ (toWd (((pw,np,()),ws,ps,sp,bu,()),st,wk,())).h with pages:=(ps.map toPg).set j ⟨gk,gs,gu,z⟩ } }:=by
   unfold toWd toHp;dsimp only;rw [qa6];rfl
  dsimp only;rw [ew];exact .step n _ _ hm.made hs
 have same:∀ (tp:A4),tp.1=l1->a<=tp.2.1->tp.2.1<=a+20 ->
  Tot (fun (r:(WdD×Unit)×A4×Unit)=>Mk (n+1) r.1.1/\r.2.1.1=l1/\a<=r.2.1.2.1/\r.2.1.2.1<=a+20) (some (((((pw,np,()),ws,ps,sp,bu,()),st,wk,()),()),(tp.1,tp.2.1,()),())):=fun tp t1 t2 t3=>zab ⟨hm.keep hn,t1,t2,t3⟩
 have hq4:W (np.tdiv 4)=np / 4:=by rw [qbE (by omega)];exact W_id (by omega)
 rw [hq4];have more:∀ (tp:A4),tp.1=l1->a<=tp.2.1->tp.2.1<=a+20->Tot (fun (r:(WdD×Unit)×A4×Unit)=>Mk (n+1) r.1.1/\r.2.1.1=l1/\a<=r.2.1.2.1/\r.2.1.2.1<=a+20)
  (bif decide (gp > 0) then some (((((pw,np,()),ws,ps.set j (gk,gs,gu,gp+1,()),sp,bu,()),st,wk,()),()),(tp.1,tp.2.1,()),())
  else bif gk == 2 then some (((((pw,np,()),ws,ps.set j (gk,gs,gu,gp+1,()),sp,bu,()),st,wk,()),()),(tp.1,tp.2.1,()),())
  else (F_made_crowd (((pw,np,()),ws,ps,sp,bu,()),())).bind
   fun (r_2:Aa)=>
   bif !(4:Int) == 0 then
   bif decide (r_2.1.1<np / 4) then some (((((pw,np,()),ws,ps.set j (gk,gs,gu,gp+1,()),sp,bu,()),st,wk,()),()),(tp.1,tp.2.1,()),())
   else some (((((pw,np,()),ws,ps,sp,bu,()),st,wk,()),()),(tp.1,tp.2.1,()),())
   else none):=fun tp t1 t2 t3=>by
  refine zac (fun h2=>step _ tp t1 t2 t3 (.inr ⟨rfl,.inl (by simpa using h2)⟩)) fun _=>zac (fun h2=>step _ tp t1 t2 t3 (.inr ⟨rfl,.inr (.inl (by simpa using h2))⟩)) fun _=>zad (zkG _ hpl) ?_
  rintro ⟨⟨(cr:Int),_⟩,_⟩ hcr;dsimp only at hcr ⊢
  exact zae rfl (zac (fun h2=>step _ tp t1 t2 t3 (.inr ⟨rfl,.inr (.inr (by rw [<-hcr];simpa using h2))⟩)) fun _=>same tp t1 t2 t3)
 refine zae (zaf.2 ⟨by omega,by omega⟩) (zac (fun h2=>?_) fun _=>more (l1,a1,()) rfl (by dsimp only;omega) (by dsimp only;omega))
 simp only [qab]at h2;refine zad (zal l1 a1 2 (by omega) (by omega) (by omega)) ?_
 rintro ⟨⟨(v:Int),_⟩,⟨(l2:List Int),(a2:Int),_⟩,_⟩ g4;have r3:=g4.l;have r4:=g4.a0;have r5:=g4.a1
 dsimp only at r3 r4 r5 ⊢
 subst r3;exact zac (fun _=>step _ (l2,a2,()) rfl (by dsimp only;omega) (by dsimp only;omega) (.inl ⟨h2,rfl⟩)) fun _=>more (l2,a2,()) rfl (by dsimp only;omega) (by dsimp only;omega)
theorem zj1(n:Nat)(hn:n<400)(d:WdD)(hm:Mk n d)(l:List Int)(a:Int)(h0:0<=a)(h1:a<=10000000):
 Tot (fun (r:(WdD×Unit)×A4×Unit)=>Mk (n+1) r.1.1/\r.2.1.1=l/\a<=r.2.1.2.1/\r.2.1.2.1<=a+20) (F_made_World_Drop (d,(l,a,()),())):=by
 obtain ⟨g,st,wk,_⟩:=d;have L:=hm.lens;have n4:=hm.n400;have s1:st.length<=n:=L.stn
 have s2:wk.length<=n:=L.wkn
 rw [zib];dsimp only
 try rw [zar]
 refine zac (fun h2=>?_) fun _=>zab ⟨hm.keep hn,rfl,by dsimp only;omega,by dsimp only;omega⟩
 simp only [qab]at h2;refine zad (zal l a (st.length:Int) h0 (by omega) (by omega)) ?_
 rintro ⟨⟨(v:Int),_⟩,⟨(l1:List Int),(a1:Int),_⟩,_⟩ g1;have q1:=g1.lo;have q2:=g1.hi (by omega);have q3:=g1.l;have q4:=g1.a0;have q5:=g1.a1
 dsimp only at q1 q2 q3 q4 q5 ⊢
 subst q3;refine zad (zal l1 a1 3 (by omega) (by omega) (by omega)) ?_
 rintro ⟨⟨(u:Int),_⟩,⟨(l2:List Int),(a2:Int),_⟩,_⟩ g2;have r3:=g2.l;have r4:=g2.a0;have r5:=g2.a1
 dsimp only at r3 r4 r5 ⊢
 subst r3;obtain ⟨j,rfl⟩:=qaM q1;have hj:j<st.length:=by omega
 have w1:W ((j:Int)+1)=((j+1:Nat):Int):=by rw [W_id (by omega)];omega
 rw [w1];simp only [qac,Int.toNat_zero,qbV];have hx:st[j]?=some (st.getD j 0):=by rw [qay,qas hj];rfl
 have et:st.take st.length=st:=List.take_length
 rw [et];have l1':(List.take j st).length=j:=by rw [qau];omega
 have l2':(List.drop (j+1) st).length=st.length-(j+1):=qaI
 refine zae (zax fun _=>zak.2 (by omega)) (zae (zax fun _=>zaf.2 ⟨by omega,by omega⟩) (zae (zax fun _=>zak.2 (by simp;omega)) (zac (fun _=>?_) fun _=>?_)))
 all_goals refine zae (qad (by omega)) (zae (zak.2 (by omega)) (zae (qad (by omega)) (zae (zak.2 (by omega)) (zab ⟨⟨?_,hm.wb,by omega⟩,rfl,by dsimp only;omega,by dsimp only;omega⟩))))
 . exact .step n _ _ hm.made (.drop (toWd (g,st,wk,())) j _ true hx)
 . exact .step n _ _ hm.made (.drop (toWd (g,st,wk,())) j _ false hx)
end Go.VI
namespace Go.VI
open Go
theorem zoV(ws:List Int)(a n:Int)(hl:ws.length<=100000000)(ha:0<=a/\a<18446744073709551616):Tot (fun r=>r.1.1=P.zlX ws a n/\r.1.2.1=P.zpf ws a n) (F_r02_Read (ws,a,n,())):=by
 rw [zto];dsimp only
 refine zac (fun h=>zab ?_) fun h=>?_
 . obtain ⟨e1,e2⟩:=P.zyB (xs:=ws) (a:=a) (n:=n) (by simpa using h)
   rw [e1,e2];exact ⟨rfl,rfl⟩
 simp only [qag]at h;obtain ⟨k,rfl⟩:=qaM (show 0<=n by omega)
 refine zad (zjY ws a k hl ha) ?_;rintro ⟨⟨(i:Int),(b:Bool),_⟩,_⟩ ⟨h1,h2⟩;dsimp only at h1 h2 ⊢
 refine zac (fun h3=>zab ?_) fun h3=>?_
 . simp only [qao]at h3;obtain ⟨e1,e2⟩:=P.read_no (h1.symm.trans h3);rw [e1,e2];exact ⟨rfl,rfl⟩
 simp only [qaw]at h3;have hok:=h1.symm.trans h3;have hi:=h2 h3;have hb:=P.zav.1 hok;obtain ⟨j,hj⟩:=qaM (show 0<=a-4096 by omega)
 have ha4:a=4096+(j:Int):=by omega
 rw [hj]at hi;subst hi ha4;obtain ⟨e1,e2⟩:=P.read_ok hok;have w:W ((j:Int)+k)=((j+k:Nat):Int):=by rw [W_id (by omega)];omega
 rw [e1,e2,w];simp only [qac,qaQ];have hd:List.drop j (List.take (j+k) ws)=List.take k (List.drop j ws):=by rw [qbI];congr 1;omega
 rw [hd];refine zae (qad (by omega)) (zae (zak.2 ?_) (zab ⟨rfl,rfl⟩))
 rw [qau,qaI];omega
theorem zwi(ws:List Int)(t f n:Int)(hl:ws.length<=100000000)(ht:0<=t/\t<18446744073709551616)(hf:0<=f/\f<18446744073709551616):Tot (fun r=>r.1.1=P.zdw ws t f n/\r.1.2.1=P.zvS ws t f n) (F_r02_Move (ws,t,f,n,())):=by
 rw [ztp];dsimp only
 refine zad (zoV ws f n hl hf) ?_;rintro ⟨⟨(l:List Int),(e:Int),_⟩,_⟩ ⟨h1,h2⟩;dsimp only at h1 h2 ⊢
 unfold P.zlX at h1;unfold P.zpf at h2;unfold P.zdw P.zvS;by_cases hn:n<0
 . rw [if_pos hn]at h1 h2;subst h1 h2;rw [if_pos hn,if_pos hn];exact zac (fun _=>zab ⟨rfl,rfl⟩) fun c=>by simp at c
 rw [if_neg hn]at h1 h2;rw [if_neg hn,if_neg hn];cases hb:P.okA ws.length f n.toNat
 . rw [hb]at h1 h2;simp only [qbl,qbf]at h1 h2;subst h1 h2;simp only [qbl,and_false,qbf];exact zac (fun _=>zab ⟨rfl,rfl⟩) fun c=>by simp at c
 rw [hb]at h1 h2;simp only [if_true]at h1 h2;subst h2;have hbb:=P.zav.1 hb;have hll:l.length=n.toNat:=by rw [h1,qau,qaI];omega
 refine zac (fun c=>by simp at c) fun _=>zad (zfh ws t l hl (by omega) ht) fun r hr=>zab ?_
 obtain ⟨r1,r2⟩:=hr;rw [r1,r2];unfold P.zaC P.zdo;rw [hll];cases hc:P.okA ws.length t n.toNat
 . simp
 . simp [h1]
theorem zkF(x:Nat)(hx:x<18446744073709551616):Tot (fun r=>r.1.1=P.tgtV x/\r.1.2.1=P.okT x) (F_r03_Target ((x:Int),())):=by
 have d1:(2:Int) ^ min (Int.toNat 2) IntKind.u64.bits=((4:Nat):Int):=by decide
 rw [zpx];dsimp only
 rw [d1,zdS x 4 (by omega),qcc (by omega)]
 simp only [cor];refine zae rfl (zae ?_ (zac (fun h=>zab ?_) fun h=>zae (by decide) (zab ?_)))
 . simp
 . simp only [qaY,qaC,ne_eq,qab]at h;have hn:P.okT x=false:=by
    unfold P.okT;rw [qbC,qag,qag];omega
   rw [hn,P.tgt_no hn];exact ⟨rfl,rfl⟩
 . simp only [qaP,qaA,qag]at h;have hn:P.okT x=true:=by
    unfold P.okT;rw [qae,qab,qab];omega
   rw [hn,P.tgt_ok hn];exact ⟨rfl,rfl⟩
theorem zqj(a:Int)(ha:0<=a/\a<18446744073709551616):Tot (fun r=>r.1.1=P.fwdV a/\r.1.2.1=P.fwdE a) (F_r03_Forward (a,())):=by
 rw [znL];dsimp only
 unfold P.fwdV P.fwdE;refine zac (fun h=>zab ?_) fun h=>zab ?_
 . simp only [qab]at h;rw [if_neg (by omega),if_neg (by omega)];exact ⟨rfl,rfl⟩
 . simp only [qag]at h;rw [if_pos (by omega),if_pos (by omega)]
   have w1:U (4*a)=4*a:=U_id (by omega)
   have w2:U (4*a+2)=4*a+2:=U_id (by omega)
   dsimp only;rw [w1,w2];exact ⟨rfl,rfl⟩
theorem zn4(k n m:Int)(hm:0<=m/\m<4294967296)(hn:n<=1000000):Tot (fun r=>r.1.1=P.zgM k n m) (F_r03_Pointers ((k,n,m,()),())):=by
 rw [zmh];dsimp only
 rw [zdT k n m hm];cases hv:P.zaz k n m
 . rw [P.zw8 hv];refine zad (P:=fun r=>r.2.1.1=[]) (zai (fun x=>x.2.1.1=[]) (fun _=>0) rfl ?_) fun r hr=>zab hr
   rintro ⟨⟨_,(i:Int),_⟩,⟨(l:List Int),_⟩,_⟩ e;dsimp only at e ⊢
   exact zac (fun _=>zab e) fun _=>zab e
 . have c:=P.zay hv;rw [P.zsU hv];refine zad (P:=fun r=>r.2.1.1=P.zdc k n m n.toNat) (zai (fun x=>∃ j:Nat,x.1.2.1=(j:Int)/\j<=n.toNat/\x.2.1.1=P.zdc k n m j/\x.2.1.1.length<=j) (fun x=>(n-x.1.2.1).toNat) ⟨0,rfl,by omega,rfl,by simp⟩ ?_) fun r hr=>zab hr
   rintro ⟨⟨_,(i:Int),_⟩,⟨(l:List Int),_⟩,_⟩ ⟨j,e1,e2,e3,e4⟩;dsimp only at e1 e2 e3 e4 ⊢
   subst e1;refine zac (fun h=>?_) fun h=>zab ?_
   . simp only [qab]at h;rw [qaa];dsimp only;have w:W ((j:Int)+1)=j+1:=W_id (by omega)
     rw [w];refine zac (fun _=>zad (zfg k n m j hm) ?_) fun c=>by cases c
     rintro ⟨⟨(b:Bool),_⟩,_⟩ hb;dsimp only at hb ⊢
     have hs:=P.zlY k n m j;rw [<-hb]at hs;refine zae (zax fun _=>zak.2 (by simp;omega)) (zac (fun h2=>zab ?_) fun h2=>zab ?_)
     . rw [if_pos h2]at hs;simp only [qal];exact ⟨⟨j+1,by omega,by omega,by rw [hs,e3],by simp;omega⟩,by omega⟩
     . rw [if_neg (by rw [h2];decide)]at hs
       simp only [qal];exact ⟨⟨j+1,by omega,by omega,by rw [hs,e3],by omega⟩,by omega⟩
   . simp only [qag]at h;simp only [qak];rw [e3,show j=n.toNat by omega]
end Go.VI
namespace Go.VI
open Go
theorem ziL(pw np p o:Int):Tot (fun r=>r.1.1=P.zbj pw np p o/\r.1.2.1=P.zmV pw np p o) (F_r04_Address ((pw,np,()),p,o,())):=by
 rw [znJ];dsimp only
 rw [zbg,qaa];dsimp only;simp only [cor];refine zac (fun h=>zab ?_) fun h=>?_
 . obtain ⟨e1,e2⟩:=P.addr_no (pw:=pw) (np:=np) (p:=p) (o:=o) (by simpa [zaF] using h)
   rw [e1,e2];exact ⟨rfl,rfl⟩
 simp only [qaw]at h;have hc:P.confB pw np=true:=by rw [zaF];exact h
 obtain ⟨c1,c2⟩:=P.conf_prod hc;have c3:=P.zaj hc;refine zac (fun h1=>zab ?_) fun h1=>zab ?_
 . simp only [qaY,qab]at h1;obtain ⟨e1,e2⟩:=P.zqh (p:=p) (o:=o) hc (by unfold P.inPg;exact qaj (by omega))
   rw [e1,e2];exact ⟨rfl,rfl⟩
 . simp only [qaP,qag]at h1;obtain ⟨e1,e2⟩:=P.zhz (p:=p) (o:=o) hc (by unfold P.inPg;exact qad (by omega))
   have kp:=P.zaR hc (p:=p) (by omega) (by omega)
   have v1:W (p*pw)=p*pw:=W_id (by omega)
   have v2:W (4096+p*pw)=4096+p*pw:=W_id (by omega)
   have v3:W (4096+p*pw+o)=4096+p*pw+o:=W_id (by omega)
   have v4:U (4096+p*pw+o)=4096+p*pw+o:=U_id (by omega)
   dsimp only;rw [v1,v2,v3,v4,e1,e2];exact ⟨rfl,rfl⟩
theorem zwP{pw np:Int}{ps:List P.Pg}{i:Nat}{x:P.Pg}(hc:P.confB pw np=true)(h:P.zbs pw np ps=true)(hx:ps[i]?=some x)(hk:x.kind=1\/x.kind=2):0<=x.used/\x.used<=1000:=by
 have c3:=P.zaj hc;have:=P.za5.1 h i x hx
 unfold P.zbo at this;rcases hk with hk | hk
 . obtain ⟨-,b,-⟩:=P.zlr h hx hk;omega
 . rw [if_neg (by omega),if_neg (by omega),if_pos hk]at this
   unfold P.zcv at this;simp only [qae,qab]at this;obtain ⟨⟨⟨⟨_,a2⟩,_⟩,_⟩,_⟩:=this;have h4:=P.zf9 pw np x.used;have h1:1<=x.used:=by
    by_cases hq:1<=x.used
    . exact hq
    . rw [P.zhp (.inr (by omega))]at a2;omega
   rw [P.zho hc h1]at a2 h4;have hb:=P.zuU (pw:=pw) (n:=x.used) (by omega)
   have:P.zeO pw x.used*pw<=4*64:=by
    calc P.zeO pw x.used*pw<=4*pw:=qaV h4 (by omega)
     _<=4*64:=by omega
   omega
theorem zjX(h:HpD)(hw:HpW h)(i:Int):Tot (fun r=>r.1.1=P.zaK (toHp h) i/\r.1.2.1=P.zbp (toHp h) i) (F_r06_Page (h,i,())):=by
 rw [ztf];dsimp only
 try rw [zar]
 refine zad (za3 _ hw) fun r hr=>?_
 obtain ⟨⟨(b:Bool),_⟩,_⟩:=r;have hb:b=P.okH (toHp h):=hr
 subst hb;dsimp only;simp only [cor];have hlm:(toHp h).pages.length=h.2.2.1.length:=qai ..
 refine zac (fun h1=>zab ?_) fun h1=>zac (fun h2=>zab ?_) fun h2=>?_
 . obtain ⟨e1,e2⟩:=P.zpl (i:=i) (show P.okH (toHp h)=false by simpa using h1)
   rw [e1,e2];exact ⟨rfl,rfl⟩
 . simp only [qaw]at h1;simp only [qaY,qab]at h2;obtain ⟨e1,e2⟩:=P.zpk (i:=i) h1 (by rw [hlm];omega)
   rw [e1,e2];exact ⟨rfl,rfl⟩
 simp only [qaw]at h1;simp only [qaP,qag]at h2;have hin:¬(i<0\/(toHp h).pages.length<=i):=by rw [hlm];omega
 obtain ⟨j,rfl⟩:=qaM (show 0<=i by omega)
 obtain ⟨p1,p2,p3,p4,p5,p6⟩:=P.zaN (zf2 h1);have hj:j<h.2.2.1.length:=by omega
 have hat:(toHp h).pages[j]?=some (toPg (h.2.2.1.getD j PG0)):=zaH hj
 have hpg:P.pgAt (toHp h) (j:Int)=toPg (h.2.2.1.getD j PG0):=by
  unfold P.pgAt;rw [qac];exact P.zao hat
 rw [qac];have hub:=fun hk=>zwP p1 p6 hat hk
 generalize hG:h.2.2.1.getD j PG0=G at hpg hub
 obtain ⟨gk,gs,gu,gp,_⟩:=G;have hk:(P.pgAt (toHp h) (j:Int)).kind=gk:=by rw [hpg];rfl
 have hu:(P.pgAt (toHp h) (j:Int)).used=gu:=by rw [hpg];rfl
 have hub:gk=1\/gk=2->0<=gu/\gu<=1000:=hub
 dsimp only;refine zae (zaf.2 ⟨by omega,by omega⟩) (zac (fun h3=>zab ?_) fun h3=>?_)
 . simp only [qaY,qax]at h3;obtain ⟨e1,e2⟩:=P.zfX h1 hin (by rw [hk];exact h3)
   rw [e1,e2];exact ⟨rfl,rfl⟩
 simp only [qaP,qaO,ne_eq]at h3;have hnk:¬((P.pgAt (toHp h) (j:Int)).kind=0\/(P.pgAt (toHp h) (j:Int)).kind=3):=by rw [hk];omega
 have hk12:gk=1\/gk=2:=by
  have:=P.za5.1 p6 j _ hat
  rw [hG]at this;unfold P.zbo at this;have e:(toPg (gk,gs,gu,gp,())).kind=gk:=rfl
  rw [e]at this;by_cases k1:gk=1
  . exact .inl k1
  . by_cases k2:gk=2
    . exact .inr k2
    . rw [if_neg h3.1,if_neg k1,if_neg k2,if_neg h3.2]at this;cases this
 have hgu:=hub hk12;have hW:P.zeE (toHp h) (j:Int)=P.zcG (toHp h) j (decide (gk=2)) gu.toNat 0:=by
  unfold P.zeE;rw [hk,hu]
 refine zad (P:=fun r=>match r with
  | .inl x=>x.1.1=[]/\x.1.2.1=19/\P.zeE (toHp h) (j:Int)=none
  | .inr y=>P.zeE (toHp h) (j:Int)=some y.2.1.1) (zai (fun x=>∃ o:Nat,x.1.2.2.2.1=(o:Int)/\P.zcM (toHp h) j (decide (gk=2)) gu.toNat o x.2.1.1/\x.2.1.1.length<=o/\o<=2000) (fun x=>(gu-x.1.2.2.2.1).toNat) ⟨0,rfl,P.zcM.start _ _ _ _,by simp,by omega⟩ ?_) ?_
 . rintro ⟨⟨q1,q2,_,(o':Int),_⟩,⟨(acc:List Int),_⟩,_⟩ ⟨o,e1,e2,e3,e4⟩;dsimp only at e1 e2 e3 ⊢
   subst e1;refine zac (fun h4=>?_) fun h4=>zab ?_
   . simp only [qab]at h4;have hlt:o<gu.toNat:=by omega
     refine zad (ziL h.1.1 h.1.2.1 j o) ?_;rintro ⟨⟨(a:Int),_,_⟩,_⟩ ⟨ha,-⟩;dsimp only at ha ⊢
     have ha':a=P.zbj (toHp h).pw (toHp h).np j o:=ha
     have hab:=P.zmU (toHp h).pw (toHp h).np j o;rw [<-ha']at hab;refine zad (zgG h hw a hab) ?_;rintro ⟨⟨⟨(k:Int),(n:Int),(m:Int),_⟩,(e:Int),_⟩,_⟩ ⟨he,hH⟩;dsimp only at he hH ⊢
     refine zac (fun h5=>zab ?_) fun h5=>zae (zak.2 (by simp;omega)) ?_
     . simp only [qaC,ne_eq]at h5;simp only [qak];refine ⟨by trivial,by trivial,?_⟩
       rw [hW];exact e2.bad hlt (by rw [<-ha',<-he];exact h5)
     . simp only [qaA]at h5;have he0:P.atE (toHp h) a=0:=he.symm.trans h5
       have he0':=he0;rw [ha']at he0'
       refine zac (fun h6=>zab ?_) fun h6=>?_
       . simp only [qax]at h6;rw [show decide (gk=2)=true from qad h6]at e2 hW
         simp only [qak];rw [hW,e2.big hlt he0',ha']
       . simp only [qaO,ne_eq]at h6;have hdf:decide (gk=2)=false:=qaj h6
         obtain ⟨-,a2,a3,a4,a5,a6⟩:=P.zjU he0;have ek:(P.atH (toHp h) a).k=k:=(congrArg P.Hd.k hH).symm
         have en:(P.atH (toHp h) a).n=n:=(congrArg P.Hd.n hH).symm
         have em:(P.atH (toHp h) a).m=m:=(congrArg P.Hd.m hH).symm
         rw [ek,en,em]at a2;rw [em]at a3 a4;rw [en]at a5 a6;rw [zcl k n m ⟨a3,a4⟩,qaa,P.zcq a2];dsimp only;have w:W ((o:Int)+(n+1))=((o+(n.toNat+1):Nat):Int):=by rw [W_id (by omega)];omega
         rw [w];have hs:=e2;rw [hdf]at hs;have hs:=hs.step hlt he0';rw [<-ha',en]at hs;refine zab ?_;simp only [qal];exact ⟨⟨o+(n.toNat+1),rfl,by rw [hdf];exact hs,by simp;omega,by omega⟩,by omega⟩
   . simp only [qag]at h4;simp only [qak];rw [hW];exact e2.fin (by omega)
 . rintro r hr;refine zaQ (fun x hx=>?_) fun y hy=>?_
   . subst hx;obtain ⟨g1,g2,g3⟩:=hr;obtain ⟨e1,e2⟩:=P.zq1 h1 hin hnk g3;exact zab (by rw [e1,e2];exact ⟨g1,g2⟩)
   . subst hy;obtain ⟨e1,e2⟩:=P.zq0 h1 hin hnk hr;exact zab (by rw [e1,e2];exact ⟨rfl,rfl⟩)
end Go.VI
namespace Go.VI
open Go
theorem getD_some{l:List Int}{k:Nat}(h:k<l.length):l[k]?=some (l.getD k 0):=by
 rw [qay,qas h];rfl
theorem zse(h:HpD)(hw:HpW h):Tot (fun r=>r.1.1=P.zaW (toHp h)/\r.1.2.1=P.zb1 (toHp h)) (F_r06_Starts (h,())):=by
 rw [zpt];dsimp only
 try rw [zar]
 refine zad (za3 _ hw) fun r hr=>?_
 obtain ⟨⟨(b:Bool),_⟩,_⟩:=r;have hb:b=P.okH (toHp h):=hr
 subst hb;dsimp only;have hlm:(toHp h).pages.length=h.2.2.1.length:=qai ..
 refine zac (fun h1=>zab ?_) fun h1=>?_
 . obtain ⟨e1,e2⟩:=P.zoe (show P.okH (toHp h)=false by simpa using h1)
   rw [e1,e2];exact ⟨rfl,rfl⟩
 simp only [qaw]at h1;have hpl:=hw.pl;refine zad (P:=fun r=>match r with
  | .inl x=>x.1.1=[]/\x.1.2.1=P.zb1 (toHp h)/\P.zaW (toHp h)=[]
  | .inr y=>P.zb1 (toHp h)=0/\P.zaW (toHp h)=y.2.1.1) (zai (fun x=>∃ k:Nat,x.1.2.2.2.1=(k:Int)/\k<=h.2.2.1.length/\x.2.1.1=P.zby (toHp h) k/\∀ t:Nat,t<k->P.zbp (toHp h) t=0) (fun x=>((h.2.2.1.length:Int)-x.1.2.2.2.1).toNat) ⟨0,rfl,by omega,rfl,fun t ht=>by omega⟩ ?_) ?_
 . rintro ⟨⟨q1,q2,_,(k':Int),_⟩,⟨(acc:List Int),_⟩,_⟩ ⟨k,e1,e2,e3,e4⟩;dsimp only at e1 e3 ⊢
   subst e1 e3;refine zac (fun h4=>?_) fun h4=>zab ?_
   . simp only [qab]at h4;have hk:k<h.2.2.1.length:=by omega
     refine zad (zjX h hw k) ?_;rintro ⟨⟨(l:List Int),(e:Int),_⟩,_⟩ ⟨hl,he⟩;dsimp only at hl he ⊢
     have w:W ((k:Int)+1)=((k+1:Nat):Int):=by rw [W_id (by omega)];omega
     rw [w];refine zac (fun h5=>zab ?_) fun h5=>zae (zak.2 ?_) (zab ?_)
     . simp only [qaC,ne_eq]at h5;rw [he]at h5;have h19:P.zbp (toHp h) k=19:=P.zxh h1 (by rw [hlm];omega) h5
       obtain ⟨s1,s2⟩:=P.zqM h1 (by rw [hlm];exact hk) h5
       simp only [qak];exact ⟨by trivial,by rw [he,h19,s1],s2⟩
     . have l1:=P.zfQ h1 k;have l2:=P.zfY (i:=(k:Int)) h1
       rw [<-hl]at l2;omega
     . simp only [qaA]at h5;simp only [qal];refine ⟨⟨k+1,rfl,by omega,by rw [P.ze5,hl],fun t ht=>?_⟩,by omega⟩
       by_cases htk:t=k
       . subst htk;rw [<-he];exact h5
       . exact e4 t (by omega)
   . simp only [qag]at h4;simp only [qak];have hk:k=h.2.2.1.length:=by omega
     obtain ⟨s1,s2⟩:=P.zfO h1 (fun t ht=>e4 t (by rw [hlm]at ht;omega))
     rw [s1,s2,hlm,hk];exact ⟨rfl,rfl⟩
 . rintro r hr;refine zaQ (fun x hx=>?_) fun y hy=>?_
   . subst hx;exact zab ⟨by rw [hr.2.2];exact hr.1,hr.2.1⟩
   . subst hy;exact zab ⟨hr.2.symm,hr.1.symm⟩
theorem zeU(l:List Int)(a:Int)(hl:l.length<=100000000):Tot (fun r=>r.1.1=decide (a∈l)) (F_r06_Has (l,a,())):=by
 rw [zvN];dsimp only
 refine zad (P:=fun r=>match r with
  | .inl x=>x.1.1=true/\a∈l
  | .inr _=>¬a∈l) (zai (fun x=>∃ k:Nat,x.1.2.1=(k:Int)/\k<=l.length/\¬a∈l.take k) (fun x=>((l.length:Int)-x.1.2.1).toNat) ⟨0,rfl,by omega,by simp⟩ ?_) ?_
 . rintro ⟨⟨(b:Bool),(k':Int),_⟩,_⟩ ⟨k,e1,e2,e3⟩;dsimp only at e1 ⊢
   subst e1;refine zac (fun h4=>?_) fun h4=>zab ?_
   . simp only [qab]at h4;have hk:k<l.length:=by omega
     have w:W ((k:Int)+1)=((k+1:Nat):Int):=by rw [W_id (by omega)];omega
     rw [w,qac];refine zae (zaf.2 ⟨by omega,h4⟩) (zac (fun h5=>zab ?_) fun h5=>zab ?_)
     . simp only [qax]at h5;simp only [qak];exact ⟨by trivial,by rw [<-h5];exact zaE hk⟩
     . simp only [qaO,ne_eq]at h5;simp only [qal];refine ⟨⟨k+1,rfl,by omega,?_⟩,by omega⟩
       rw [P.zbc (getD_some hk),qaq,qa0];rintro (c | c)
       . exact e3 c
       . exact h5 c.symm
   . simp only [qag]at h4;simp only [qak];rwa [qa2 (by omega)]at e3
 . rintro r hr;refine zaQ (fun x hx=>?_) fun y hy=>zab ?_
   . subst hx;exact zab (by rw [qad hr.2];exact hr.1)
   . subst hy;exact (qaj hr).symm
theorem zff(h:HpD)(hw:HpW h):Tot (fun r=>r.1.1=P.zag (toHp h)/\r.1.2.1=P.zb1 (toHp h)) (F_r06_Objects (h,())):=by
 rw [znH];dsimp only
 try rw [zar]
 refine zad (zse h hw) ?_;rintro ⟨⟨(l:List Int),(e:Int),_⟩,_⟩ ⟨hl,he⟩;dsimp only at hl he ⊢
 have hlb:=P.zcP (toHp h);have hwb:=P.zof (toHp h);rw [<-hl]at hlb hwb;have hO:P.zag (toHp h)=P.zci (toHp h) l:=by unfold P.zag;rw [hl]
 rw [hO];refine zad (P:=fun r=>r.2.1.1=P.zci (toHp h) l) (zai (fun x=>∃ k:Nat,x.1.2.1=(k:Int)/\k<=l.length/\x.2.1.1=P.zci (toHp h) (l.take k)) (fun x=>((l.length:Int)-x.1.2.1).toNat) ⟨0,rfl,by omega,rfl⟩ ?_) fun r hr=>zab ⟨hr,he⟩
 rintro ⟨⟨_,(k':Int),_⟩,⟨(acc:List Int),_⟩,_⟩ ⟨k,e1,e2,e3⟩;dsimp only at e1 e3 ⊢
 subst e1 e3;refine zac (fun h4=>?_) fun h4=>zab ?_
 . simp only [qab]at h4;have hk:k<l.length:=by omega
   have w:W ((k:Int)+1)=((k+1:Nat):Int):=by rw [W_id (by omega)];omega
   have hx:=getD_some hk;rw [w,qac];have hin:inB (k:Int) l.length=true:=zaf.2 ⟨by omega,h4⟩
   refine zae hin (zad (zgG h hw (l.getD k 0) (hwb _ (zaE hk))) ?_);rintro ⟨⟨⟨(hk':Int),(n:Int),(m:Int),_⟩,(e':Int),_⟩,_⟩ ⟨-,hH⟩;dsimp only at hH ⊢
   have ek:(P.atH (toHp h) (l.getD k 0)).k=hk':=(congrArg P.Hd.k hH).symm
   have hol:=P.zyW (toHp h) l k;refine zae (zax fun _=>hin) (zae (zax fun _=>zak.2 (by simp;omega)) (zac (fun h5=>zab ?_) fun h5=>zab ?_))
   . simp only [qaC,ne_eq]at h5;simp only [qal];exact ⟨⟨k+1,rfl,by omega,(P.objs_in hx (by rw [ek];exact h5)).symm⟩,by omega⟩
   . simp only [qaA]at h5;simp only [qal];exact ⟨⟨k+1,rfl,by omega,(P.zyV hx (by rw [ek];exact h5)).symm⟩,by omega⟩
 . simp only [qag]at h4;simp only [qak];rw [qa2 (by omega)]
theorem zsf(h:HpD)(hw:HpW h)(a:Int)(ha:0<=a/\a<18446744073709551616):Tot (fun r=>r.1.1=P.zbB (toHp h) a/\r.1.2.1=P.zxY (toHp h) a) (F_r05_Fields (h,a,())):=by
 rw [zpu];dsimp only
 try rw [zar]
 refine zad (ziI h hw a ha) ?_;rintro ⟨⟨⟨(k:Int),(n:Int),(m:Int),_⟩,(e:Int),_⟩,_⟩ ⟨he,hH⟩;dsimp only at he hH ⊢
 have en:(P.getH (toHp h) a).n=n:=(congrArg P.Hd.n hH).symm
 unfold P.zbB P.zxY;rw [<-he,en];refine zac (fun h1=>zab ?_) fun h1=>?_
 . simp only [qaC,ne_eq]at h1;rw [if_neg h1,if_neg h1];exact ⟨rfl,rfl⟩
 . simp only [qaA]at h1;rw [if_pos h1,if_pos h1];obtain ⟨-,-,-,-,-,g6,g7,-,-,-⟩:=P.ztD (he.symm.trans h1);have w:U (a+1)=a+1:=U_id (by omega)
   rw [w];exact zad (zoV h.2.1 (a+1) n hw.wl (by omega)) fun r hr=>zab hr
end Go.VI
namespace Go.VI
open Go
theorem zpj(h:HpD)(j:Nat):P.pgAt (toHp h) (j:Int)=toPg (h.2.2.1.getD j PG0):=by
 unfold P.pgAt;rw [qac];exact zaB _ _
theorem zt1(h:HpD)(hw:HpW h)(hok:P.okH (toHp h)=true)(j:Nat)(hj:j<h.2.2.1.length)(l:List Int)(hl:l.length<=100000)(hlw:P.WB l):Tot (fun r=>r.1.1=P.clsV (toHp h) j l) (F_r09_class (h,(j:Int),l,())):=by
 obtain ⟨p1,p2,p3,p4,p5,p6⟩:=P.zaN (zf2 hok);have hcf:confB h.1.1 h.1.2.1=true:=by rw [<-zaF];exact p1
 have c3:=zaT.1 hcf;rw [zrc];dsimp only
 try rw [zar]
 refine zad (P:=fun r=>match r with
  | .inl x=>x.1.1=P.clsV (toHp h) j l
  | .inr _=>P.clsV (toHp h) j l=0) (zai (fun x=>∃ k:Nat,x.1.2.1=(k:Int)/\k<=l.length/\P.zmD (P.clsB (toHp h) j) (l.drop k)=P.clsV (toHp h) j l) (fun x=>((l.length:Int)-x.1.2.1).toNat) ⟨0,rfl,by omega,rfl⟩ ?_) ?_
 . rintro ⟨⟨(b:Int),(k':Int),_⟩,_⟩ ⟨k,e1,e2,e3⟩;dsimp only at e1 ⊢
   subst e1;refine zac (fun h4=>?_) fun h4=>zab ?_
   . simp only [qab]at h4;have hk:k<l.length:=by omega
     have w:W ((k:Int)+1)=((k+1:Nat):Int):=by rw [W_id (by omega)];omega
     rw [P.zvc (getD_some hk)]at e3;rw [w,qac];have hin:inB (k:Int) l.length=true:=zaf.2 ⟨by omega,h4⟩
     have hinp:inB (j:Int) h.2.2.1.length=true:=zaf.2 ⟨by omega,by omega⟩
     refine zae hin (zad (zgG h hw (l.getD k 0) (hlw _ (zaE hk))) ?_);rintro ⟨⟨⟨(hk':Int),(n:Int),(m:Int),_⟩,(e':Int),_⟩,_⟩ ⟨-,hH⟩;dsimp only at hH ⊢
     have ek:(P.atH (toHp h) (l.getD k 0)).k=hk':=(congrArg P.Hd.k hH).symm
     have en:(P.atH (toHp h) (l.getD k 0)).n=n:=(congrArg P.Hd.n hH).symm
     have em:(P.atH (toHp h) (l.getD k 0)).m=m:=(congrArg P.Hd.m hH).symm
     have hmb:=P.atH_m (toHp h) (l.getD k 0);rw [em]at hmb;rw [zcl hk' n m hmb,qaa];dsimp only;rw [zdj,qaa];dsimp only;have hq:W (h.1.1.tdiv 4)=h.1.1 / 4:=by rw [qbE (by omega)];exact W_id (by omega)
     have hsm:P.zev (toHp h).pw (toHp h).np=h.1.1 / 4:=P.zo8 p1
     rw [hcf,if_pos rfl,hq,hinp,hin,qac];have hC:P.clsB (toHp h) j (l.getD k 0)=((h.2.2.1.getD j PG0).1 == 1 && !decide (P.zaP hk' n m<=h.1.1 / 4) || ((h.2.2.1.getD j PG0).1 == 2&&hk' == 0)):=by
      unfold P.clsB;rw [hsm,ek,en,em,zpj]
      rfl
     rw [hC]at e3;generalize (h.2.2.1.getD j PG0).1=gk at e3 ⊢
     refine zae rfl (zae ?_ (zae ?_ (zae ?_ (zac (fun h5=>zab ?_) fun h5=>zab ?_))))
     . cases (gk == 1) <;> cases (decide (P.zaP hk' n m<=h.1.1 / 4)) <;> rfl
     . cases (gk == 1) <;> rfl
     . cases (gk == 1) <;> cases (gk == 2) <;> cases (decide (P.zaP hk' n m<=h.1.1 / 4)) <;> cases (hk' == 0) <;> rfl
     . simp only [qak];have:((gk == 1 && !decide (P.zaP hk' n m<=h.1.1 / 4)) || (gk == 2&&hk' == 0))=true:=by
        revert h5
        cases (gk == 1) <;> cases (gk == 2) <;> cases (decide (P.zaP hk' n m<=h.1.1 / 4)) <;> cases (hk' == 0) <;> simp
       rw [if_pos this]at e3;exact e3
     . simp only [qal];have:((gk == 1 && !decide (P.zaP hk' n m<=h.1.1 / 4)) || (gk == 2&&hk' == 0))=false:=by
        revert h5
        cases h1:(gk == 1) <;> cases h2:(gk == 2) <;> cases (decide (P.zaP hk' n m<=h.1.1 / 4)) <;> cases (hk' == 0) <;> simp
        all_goals (simp only [qax]at h1 h2;omega)
       rw [if_neg (by rw [this];decide)]at e3
       exact ⟨⟨k+1,rfl,by omega,e3⟩,by omega⟩
   . simp only [qag]at h4;rw [P.zrT (by omega)]at e3
     simp only [qak];exact e3.symm
 . rintro r hr;refine zaQ (fun x hx=>?_) fun y hy=>zab ?_
   . subst hx;exact zab hr
   . subst hy;exact hr.symm
theorem zwc(h:HpD)(hw:HpW h)(hok:P.okH (toHp h)=true)(j:Nat)(hj:j<h.2.2.1.length):Tot (fun r=>r.1.1=(P.zbJ (toHp h).pages j:Int)) (F_r09_head (h,(j:Int),())):=by
 have hz:=P.zxR hok;have hpl:=hw.pl;have hpd:∀ t:Nat,((toHp h).pages.getD t P.Pg.zero).kind=(h.2.2.1.getD t PG0).1:=fun t=>by
  show ((h.2.2.1.map toPg).getD t P.Pg.zero).kind=_
  rw [zaB];rfl
 rw [zs9];dsimp only
 refine zad (P:=fun r=>r.1.1=(P.zbJ (toHp h).pages j:Int)) (zai (fun x=>∃ k:Nat,x.1.1=(k:Int)/\k<=j/\P.zbJ (toHp h).pages k=P.zbJ (toHp h).pages j) (fun x=>x.1.1.toNat) ⟨j,rfl,by omega,rfl⟩ ?_) fun r hr=>zab hr
 rintro ⟨⟨(k':Int),_⟩,_⟩ ⟨k,e1,e2,e3⟩;dsimp only at e1 ⊢
 subst e1;rw [qac];refine zae (zaf.2 ⟨by omega,by omega⟩) (zac (fun h4=>zab ?_) fun h4=>zab ?_)
 . simp only [qax]at h4;cases k with
   | zero=>rw [hpd]at hz;exact absurd h4 hz
   | succ k=>
    have w:W (((k+1:Nat):Int)-1)=(k:Int):=by rw [W_id (by omega)];omega
    rw [w];simp only [qal];refine ⟨⟨k,rfl,by omega,?_⟩,by omega⟩
    rw [<-e3,P.zbJ,if_pos (by rw [hpd];exact h4)]
 . simp only [qaO,ne_eq]at h4;simp only [qak];rw [<-e3];cases k with
   | zero=>rfl
   | succ k=>rw [P.zbJ,if_neg (by rw [hpd];exact h4)]
theorem zwa(h:HpD)(hw:HpW h)(hok:P.okH (toHp h)=true)(j:Nat)(hj:j<h.2.2.1.length)(l:List Int)(hl:l.length<=100000)(hla:∀ a∈l,P.atE (toHp h) a=0):Tot (fun r=>r.1.1=P.zhb (toHp h) j l) (F_r09_used (h,(j:Int),l,())):=by
 obtain ⟨p1,p2,p3,p4,p5,p6⟩:=P.zaN (zf2 hok);have c3:16<=h.1.1/\h.1.1<=64/\h.1.1 % 4=0/\8<=h.1.2.1/\h.1.2.1<=64:=P.zaj p1
 have hlm:(toHp h).pages.length=h.2.2.1.length:=qai ..
 have hjn:(j:Int)<h.1.2.1:=by
  have:((toHp h).pages.length:Int)=h.1.2.1:=p3
  omega
 obtain ⟨kp1,kp2⟩:=P.zaR (p:=(j:Int)) (show P.confB h.1.1 h.1.2.1=true from p1) (by omega) hjn
 obtain ⟨cp1,cp2⟩:=P.conf_prod (show P.confB h.1.1 h.1.2.1=true from p1)
 have epw:(toHp h).pw=h.1.1:=rfl
 rw [zs7];dsimp only
 try rw [zar]
 refine zae (qad (by omega)) (zae (zak.2 (by omega)) (zad (P:=fun r=>r.2.2.1=P.zhb (toHp h) j l) (zai (fun x=>∃ k:Nat,x.1.1=(k:Int)/\k<=l.length/\x.2.2.1=P.zhb (toHp h) j (l.take k)) (fun x=>((l.length:Int)-x.1.1).toNat) ⟨0,rfl,by omega,(P.zwQ (toHp h) j).symm⟩ ?_) fun r hr=>zab hr))
 rintro ⟨⟨(k':Int),_⟩,_,(us:List Bool),_⟩ ⟨k,e1,e2,e3⟩;dsimp only at e1 e3 ⊢
 subst e1 e3;refine zac (fun h4=>?_) fun h4=>zab ?_
 . simp only [qab]at h4;have hk:k<l.length:=by omega
   have w:W ((k:Int)+1)=((k+1:Nat):Int):=by rw [W_id (by omega)];omega
   have hin:inB (k:Int) l.length=true:=zaf.2 ⟨by omega,h4⟩
   have hx:=getD_some hk;have hat:=hla _ (zaE (d:=0) hk)
   have hbd:=P.ztT hat;rw [w,qac,hin];generalize l.getD k 0=a at hx hat hbd
   refine zae rfl (zad (zgG h hw a (by omega)) ?_)
   rintro ⟨⟨⟨(hk':Int),(n:Int),(m:Int),_⟩,(e':Int),_⟩,_⟩ ⟨-,hH⟩;dsimp only at hH ⊢
   have ek:(P.atH (toHp h) a).k=hk':=(congrArg P.Hd.k hH).symm
   have en:(P.atH (toHp h) a).n=n:=(congrArg P.Hd.n hH).symm
   have em:(P.atH (toHp h) a).m=m:=(congrArg P.Hd.m hH).symm
   have hmb:=P.atH_m (toHp h) a;rw [em]at hmb;rw [zcl hk' n m hmb,qaa];dsimp only;have hZ:(bif hk' == 0 then 1 else P.zaP hk' n m)=P.zd9 (toHp h) a:=by
    unfold P.zd9;rw [ek,en,em];by_cases q:hk'=0
    . rw [if_pos q,show (hk' == 0)=true by simp [q]];rfl
    . rw [if_neg q,show (hk' == 0)=false by simp [q]];rfl
   have hzb:=P.zyo (toHp h) a;rw [hZ];refine zad (P:=fun r=>r.2.2.1=P.zhb (toHp h) j (l.take (k+1))) (zai (fun x=>∃ z:Nat,x.1.1=(z:Int)/\(z:Int)<=P.zd9 (toHp h) a/\x.2.2.1=P.zjg (toHp h) j (l.take k) a z) (fun x=>(P.zd9 (toHp h) a-x.1.1).toNat) ⟨0,rfl,by omega,(P.zvu (toHp h) j (l.take k) a).symm⟩ ?_) fun r hr=>zab ?_
   . rintro ⟨⟨(z':Int),_⟩,_,(us:List Bool),_⟩ ⟨z,f1,f2,f3⟩;dsimp only at f1 f3 ⊢
     subst f1 f3;refine zac (fun h5=>?_) fun h5=>zab ?_
     . simp only [qab]at h5;have wz:W ((z:Int)+1)=((z+1:Nat):Int):=by rw [W_id (by omega)];omega
       have t1:W a=a:=W_id (by omega)
       have t2:W (a-4096)=a-4096:=W_id (by omega)
       have t3:W (a-4096+z)=a-4096+z:=W_id (by omega)
       have t4:W ((j:Int)*h.1.1)=j*h.1.1:=W_id (by omega)
       have t5:W (a-4096+z-(j:Int)*h.1.1)=a-4096+z-j*h.1.1:=W_id (by omega)
       rw [wz,t1,t2,t3,t4,t5,P.zqK,epw];simp only [cand];refine zae rfl (zae (zax fun hc=>?_) (zac (fun hc=>zab ?_) fun hc=>zab ?_))
       . simp only [qae,qab]at hc;exact zaf.2 ⟨by omega,hc.2⟩
       . simp only [qae,qab]at hc;obtain ⟨T,hT⟩:=qaM (show 0<=a-4096+z-(j:Int)*h.1.1 by omega)
         rw [hT,qac];simp only [qal];refine ⟨⟨z+1,rfl,by omega,?_⟩,by omega⟩
         exact P.zyp (by rw [epw];omega) (by rw [epw];omega)
       . simp only [qbC,qag]at hc;simp only [qal];refine ⟨⟨z+1,rfl,by omega,?_⟩,by omega⟩
         exact (P.zwR (by rw [epw];omega)).symm
     . simp only [qag]at h5;simp only [qak];rw [P.zbc hx];exact P.zwS (by omega)
   . simp only [qal];exact ⟨⟨k+1,rfl,by omega,hr⟩,by omega⟩
 . simp only [qag]at h4;simp only [qak];rw [qa2 (by omega)]
end Go.VI
namespace Go.VI
open Go
def toFd(x:A7):P.Fd:=⟨x.1,x.2.1,x.2.2.1⟩
theorem zwd(h:HpD)(hw:HpW h)(hok:P.okH (toHp h)=true)(j:Nat)(hj:j<h.2.2.1.length):Tot (fun r=>r.1.1=P.zhw (toHp h) j) (F_r09_dirt (h,(j:Int),())):=by
 obtain ⟨p1,p2,p3,p4,p5,p6⟩:=P.zaN (zf2 hok);have c3:16<=h.1.1/\h.1.1<=64/\h.1.1 % 4=0/\8<=h.1.2.1/\h.1.2.1<=64:=P.zaj p1
 have hlm:(toHp h).pages.length=h.2.2.1.length:=qai ..
 have hjn:(j:Int)<h.1.2.1:=by
  have:((toHp h).pages.length:Int)=h.1.2.1:=p3
  omega
 obtain ⟨kp1,kp2⟩:=P.zaR (p:=(j:Int)) (show P.confB h.1.1 h.1.2.1=true from p1) (by omega) hjn
 obtain ⟨cp1,cp2⟩:=P.conf_prod (show P.confB h.1.1 h.1.2.1=true from p1)
 rw [zta];dsimp only
 try rw [zar]
 refine zad (zwc h hw hok j hj) ?_;rintro ⟨⟨(q:Int),_⟩,_⟩ hq;dsimp only at hq ⊢
 subst hq;refine zad (zjX h hw _) ?_;rintro ⟨⟨(l:List Int),(e:Int),_⟩,_⟩ ⟨hl,-⟩;dsimp only at hl ⊢
 subst hl;refine zad (zwa h hw hok j hj _ (by have:=P.zfY (i:=(P.zbJ (toHp h).pages j:Int)) hok;omega) (fun a ha=>P.ze9 ha)) ?_
 rintro ⟨⟨(us:List Bool),_⟩,_⟩ hus;dsimp only at hus ⊢
 have hul:us.length=h.1.1.toNat:=by rw [hus];exact P.zlI _ _ _
 have hD:P.zhw (toHp h) j=P.zdf (toHp h) j 0 us:=by unfold P.zhw;rw [hus]
 rw [hD];refine zad (P:=fun r=>match r with
  | .inl x=>x.1.1=P.zdf (toHp h) j 0 us
  | .inr _=>P.zdf (toHp h) j 0 us=0) (zai (fun x=>∃ k:Nat,x.1.2.1=(k:Int)/\k<=us.length/\P.zdf (toHp h) j k (us.drop k)=P.zdf (toHp h) j 0 us) (fun x=>((us.length:Int)-x.1.2.1).toNat) ⟨0,rfl,by omega,rfl⟩ ?_) ?_
 . rintro ⟨⟨(b:Int),(k':Int),_⟩,_⟩ ⟨k,e1,e2,e3⟩;dsimp only at e1 ⊢
   subst e1;refine zac (fun h4=>?_) fun h4=>zab ?_
   . simp only [qab]at h4;have hk:k<us.length:=by omega
     have w:W ((k:Int)+1)=((k+1:Nat):Int):=by rw [W_id (by omega)];omega
     have hx:us[k]?=some (us.getD k false):=by rw [qay,qas hk];rfl
     rw [P.dirt_at hx]at e3;rw [w,qac];generalize us.getD k false=u at e3 ⊢
     refine zae (zaf.2 ⟨by omega,h4⟩) (zac (fun h5=>?_) fun h5=>zab ?_)
     . simp only [qao]at h5;subst h5;have h142:Tot (fun r=>r.1.1=P.zkS (toHp h) j k) (F_r06_Word (h,(j:Int),(k:Int),())):=by
        rw [zte];dsimp only
        try rw [zar]
        rw [ztd];dsimp only
        refine zad (P:=fun r=>r.1.1=P.zkS (toHp h) j k) ?_ fun r hr=>zab hr
        refine zad (ziL h.1.1 h.1.2.1 j k) ?_;rintro ⟨⟨(a:Int),_,_⟩,_⟩ ⟨ha,-⟩;dsimp only at ha ⊢
        have hab:=P.zmU (toHp h).pw (toHp h).np j k;have ha':a=P.zbj (toHp h).pw (toHp h).np j k:=ha
        rw [<-ha']at hab;refine zad (zcY h.2.1 a hw.wl hab) fun r hr=>zab ?_
        unfold P.zkS;rw [<-ha'];exact hr.1
       refine zad h142 ?_;rintro ⟨⟨(v:Int),_⟩,_⟩ hv;dsimp only at hv ⊢
       rw [<-hv]at e3;refine zac (fun h6=>?_) fun h6=>zab ?_
       . simp only [qaC,ne_eq]at h6;rw [if_pos ⟨rfl,h6⟩]at e3;rw [znG];dsimp only
         rw [qaa];have v1:W ((j:Int)*h.1.1)=j*h.1.1:=W_id (by omega)
         have v2:W (4096+(j:Int)*h.1.1)=4096+j*h.1.1:=W_id (by omega)
         have v3:W (4096+(j:Int)*h.1.1+k)=4096+j*h.1.1+k:=W_id (by omega)
         have v4:U (4096+(j:Int)*h.1.1+k)=4096+j*h.1.1+k:=U_id (by omega)
         dsimp only;rw [v1,v2,v3,v4];refine zab ?_;simp only [qak];exact e3
       . simp only [qaA]at h6;rw [if_neg (fun c=>c.2 h6)]at e3
         simp only [qal];exact ⟨⟨k+1,rfl,by omega,e3⟩,by omega⟩
     . simp only [qaw]at h5;rw [if_neg (fun c=>by rw [h5]at c;cases c.1)]at e3
       simp only [qal];exact ⟨⟨k+1,rfl,by omega,e3⟩,by omega⟩
   . simp only [qag]at h4;rw [P.zzc (by omega)]at e3
     simp only [qak];exact e3.symm
 . rintro r hr;refine zaQ (fun x hx=>?_) fun y hy=>zab ?_
   . subst hx;exact zab hr
   . subst hy;exact hr.symm
theorem zwb(h:HpD)(hw:HpW h)(hok:P.okH (toHp h)=true)(j:Nat)(hj:j<h.2.2.1.length):Tot (fun r=>toFd r.1.1=P.zed (toHp h) j) (F_r09_page (h,(j:Int),())):=by
 rw [zs8];dsimp only
 try rw [zar]
 rw [qac];have hin:inB (j:Int) h.2.2.1.length=true:=zaf.2 ⟨by omega,by omega⟩
 have hk:(P.pgAt (toHp h) (j:Int)).kind=(h.2.2.1.getD j PG0).1:=by rw [zpj];rfl
 have hs:(P.pgAt (toHp h) (j:Int)).space=(h.2.2.1.getD j PG0).2.1:=by rw [zpj];rfl
 have esp:(toHp h).space=h.2.2.2.1:=rfl
 unfold P.zed;rw [hk,hs,esp];generalize h.2.2.1.getD j PG0=G
 obtain ⟨gk,gs,gu,gp,_⟩:=G;dsimp only;simp only [cand];refine zae hin (zae (zax fun _=>hin) (zac (fun h1=>zab ?_) fun h1=>?_))
 . simp only [qae,qaC,ne_eq]at h1;rw [if_pos h1];rfl
 have h1':¬(¬gk=0/\¬gs=h.2.2.2.1):=by
  rintro ⟨c1,c2⟩;rw [show (gk != 0)=true by simp [c1],show (gs != h.2.2.2.1)=true by simp [c2]]at h1
  cases h1
 rw [if_neg h1'];refine zad (zjX h hw j) ?_;rintro ⟨⟨(l:List Int),(e:Int),_⟩,_⟩ ⟨hl,he⟩;dsimp only at hl he ⊢
 rw [<-he,<-hl];refine zac (fun h2=>zab ?_) fun h2=>?_
 . simp only [qaC,ne_eq]at h2;rw [if_pos h2];rfl
 simp only [qaA]at h2;rw [if_neg (fun c=>c h2)]
 have hll:=P.zfY (i:=(j:Int)) hok
 have hlw:=P.zuK (toHp h) (j:Int);rw [<-hl]at hll hlw;refine zad (zt1 h hw hok j hj l (by omega) hlw) ?_
 rintro ⟨⟨(c:Int),_⟩,_⟩ hc;dsimp only at hc ⊢
 rw [<-hc];refine zac (fun h3=>zab ?_) fun h3=>?_
 . simp only [qaC,ne_eq]at h3;rw [if_pos h3];rfl
 simp only [qaA]at h3;rw [if_neg (fun c=>c h3)]
 refine zad (zwd h hw hok j hj) ?_;rintro ⟨⟨(dv:Int),_⟩,_⟩ hdv;dsimp only at hdv ⊢
 rw [<-hdv];refine zac (fun h4=>zab ?_) fun h4=>zab ?_
 . simp only [qaC,ne_eq]at h4;rw [if_pos h4];rfl
 . simp only [qaA]at h4;rw [if_neg (fun c=>c h4)];rfl
theorem zn2(h:HpD)(hw:HpW h):Tot (fun r=>toFd r.1.1=P.zbu (toHp h)) (F_r09_pointers (h,())):=by
 rw [zmf];dsimp only
 try rw [zar]
 refine zad (zff h hw) ?_;rintro ⟨⟨(l:List Int),_,_⟩,_⟩ ⟨hl,-⟩;dsimp only at hl ⊢
 have hO:P.zbu (toHp h)=P.zbZ (toHp h) l l:=by unfold P.zbu;rw [<-hl]
 have hll:l.length<=4096/\∀ a∈l,P.atE (toHp h) a=0:=by
  rw [hl];unfold P.zag P.zci;refine ⟨qaB (qbN _ _) (P.zcP _),fun a ha=>P.zeu (qbM.1 ha).1⟩
 rw [hO];refine zad (P:=fun r=>match r with
  | .inl x=>toFd x.2.2.1=P.zbZ (toHp h) l l
  | .inr _=>P.zbZ (toHp h) l l=P.Fd.none) (zai (fun x=>∃ k:Nat,x.1.1=(k:Int)/\k<=l.length/\P.zbZ (toHp h) l (l.drop k)=P.zbZ (toHp h) l l) (fun x=>((l.length:Int)-x.1.1).toNat) ⟨0,rfl,by omega,rfl⟩ ?_) ?_
 . rintro ⟨⟨(k':Int),_⟩,_,fd,_⟩ ⟨k,e1,e2,e3⟩;dsimp only at e1 ⊢
   subst e1;refine zac (fun h4=>?_) fun h4=>zab ?_
   . simp only [qab]at h4;have hk:k<l.length:=by omega
     have w:W ((k:Int)+1)=((k+1:Nat):Int):=by rw [W_id (by omega)];omega
     have hin:inB (k:Int) l.length=true:=zaf.2 ⟨by omega,h4⟩
     rw [P.zw9 (getD_some hk)]at e3;rw [w,qac,hin];have hat:=hll.2 _ (zaE (d:=0) hk)
     have hbd:=P.ztT hat;generalize l.getD k 0=a at e3 hat hbd ⊢
     refine zae rfl (zad (ziI h hw a (by omega)) ?_)
     rintro ⟨⟨⟨(hk':Int),(n:Int),(m:Int),_⟩,(e':Int),_⟩,_⟩ ⟨-,hH⟩;dsimp only at hH ⊢
     have hmb:=P.getH_m (toHp h) a;rw [<-hH]at e3 hmb;have hmb:0<=m/\m<4294967296:=hmb
     refine zae rfl (zad (zsf h hw a (by omega)) ?_)
     rintro ⟨⟨(fs:List Int),_,_⟩,_⟩ ⟨hfs,-⟩;dsimp only at hfs ⊢
     have hfl:=P.ztJ (toHp h) a;have hwl:(toHp h).words.length<=100000000:=hw.wl
     rw [<-hfs]at e3 hfl;refine zad (P:=fun r=>match r with
      | .inl x=>∃ t:Nat,P.za0 l (toHd (hk',n,m,())) 0 fs=some t/\toFd x.2.2.1=P.zsV (toHp h) (a+1+t)
      | .inr _=>P.za0 l (toHd (hk',n,m,())) 0 fs=none) (zai (fun x=>∃ t:Nat,x.1.1=(t:Int)/\t<=fs.length/\P.za0 l (toHd (hk',n,m,())) t (fs.drop t)=P.za0 l (toHd (hk',n,m,())) 0 fs) (fun x=>((fs.length:Int)-x.1.1).toNat) ⟨0,rfl,by omega,rfl⟩ ?_) ?_
     . rintro ⟨⟨(t':Int),_⟩,_,fd2,_⟩ ⟨t,f1,f2,f3⟩;dsimp only at f1 ⊢
       subst f1;refine zac (fun h5=>?_) fun h5=>zab ?_
       . simp only [qab]at h5;have ht:t<fs.length:=by omega
         have wt:W ((t:Int)+1)=((t+1:Nat):Int):=by rw [W_id (by omega)];omega
         have hin2:inB (t:Int) fs.length=true:=zaf.2 ⟨by omega,h5⟩
         rw [P.bad_at (getD_some ht)]at f3;rw [wt,qac,hin2];generalize fs.getD t 0=f at f3 ⊢
         refine zad (zfg hk' n m t hmb) ?_;rintro ⟨⟨(pt:Bool),_⟩,_⟩ hpt;dsimp only at hpt ⊢
         have hpt':P.ptrB (toHd (hk',n,m,())).k (toHd (hk',n,m,())).n (toHd (hk',n,m,())).m t=pt:=hpt.symm
         rw [hpt']at f3;have next:(¬(pt=true/\¬f=0/\¬f∈l))->Tot (Sum.elim (fun x':Aw×Unit×A7×Unit=>(∃ t:Nat,x'.1.1=(t:Int)/\t<=fs.length/\P.za0 l (toHd (hk',n,m,())) t (fs.drop t)=P.za0 l (toHd (hk',n,m,())) 0 fs)/\((fs.length:Int)-x'.1.1).toNat<((fs.length:Int)-(t:Int)).toNat) fun (r:A6)=>match r with
          | .inl x=>∃ t:Nat,P.za0 l (toHd (hk',n,m,())) 0 fs=some t/\toFd x.2.2.1=P.zsV (toHp h) (a+1+t)
          | .inr _=>P.za0 l (toHd (hk',n,m,())) 0 fs=none) (some (Sum.inl ((((t+1:Nat):Int),()),(),(fd2.1,fd2.2.1,fd2.2.2.1,()),()))):=fun hno=>by
          rw [if_neg hno]at f3;refine zab ?_;simp only [qal];exact ⟨⟨t+1,rfl,by omega,f3⟩,by omega⟩
         refine zae (zax fun _=>rfl) (zae (zax fun _=>zax fun _=>rfl) (zac (fun h6=>zac (fun h7=>?_) fun h7=>next ?_) fun h6=>next ?_))
         . simp only [qaC,ne_eq]at h7;refine zad (zeU l f (by omega)) ?_
           rintro ⟨⟨(bb:Bool),_⟩,_⟩ hbb;dsimp only at hbb ⊢
           refine zae (zax fun _=>rfl) (zac (fun h8=>?_) fun h8=>next ?_)
           . simp only [qao]at h8;rw [h8]at hbb;have hnm:¬f∈l:=qa3 hbb.symm;rw [if_pos ⟨h6,h7,hnm⟩]at f3;have u1:U (a+1)=a+1:=U_id (by omega)
             have u2:U (t:Int)=t:=U_id (by omega)
             have u3:U (a+1+(t:Int))=a+1+t:=U_id (by omega)
             rw [u1,u2,u3];refine zad (ziK h.1.1 h.1.2.1 (a+1+t) (by omega)) ?_
             rintro ⟨⟨(pi:Int),_,_,_⟩,_⟩ ⟨hpi,-,-⟩;dsimp only at hpi ⊢
             refine zab ?_;simp only [qak];refine ⟨t,f3.symm,?_⟩;unfold P.zsV;rw [show (toHp h).pw=h.1.1 from rfl,show (toHp h).np=h.1.2.1 from rfl,<-hpi];rfl
           . simp only [qaw]at h8;rw [h8]at hbb;exact fun c=>c.2.2 (qat hbb.symm)
         . simp only [qaA]at h7;exact fun c=>c.2.1 h7
         . exact fun c=>by rw [c.1]at h6;cases h6
       . simp only [qag]at h5;rw [P.bad_end (by omega)]at f3
         simp only [qak];exact f3.symm
     . rintro r hr;refine zaQ (fun x hx=>zab ?_) fun y hy=>zab ?_
       . subst hx;obtain ⟨t,ht,hfd⟩:=hr;rw [ht]at e3;simp only [qak];exact hfd.trans e3
       . subst hy;have hr:P.za0 l (toHd (hk',n,m,())) 0 fs=none:=hr
         rw [hr]at e3;simp only [qal];exact ⟨⟨k+1,rfl,by omega,e3⟩,by omega⟩
   . simp only [qag]at h4;rw [P.zuH (by omega)]at e3
     simp only [qak];exact e3.symm
 . rintro r hr;refine zaQ (fun x hx=>zab ?_) fun y hy=>zab ?_
   . subst hx;exact hr
   . subst hy;exact hr.symm
end Go.VI
namespace Go.VI
open Go
theorem zt2(h:HpD)(hw:HpW h):Tot (fun r=>toFd r.1.1=P.zeT (toHp h)) (F_r09_Check (h,())):=by
 rw [zrd];dsimp only
 try rw [zar]
 refine zad (za3 _ hw) fun r hr=>?_
 obtain ⟨⟨(b:Bool),_⟩,_⟩:=r;have hb:b=P.okH (toHp h):=hr
 subst hb;dsimp only;unfold P.zeT;refine zac (fun h1=>zab ?_) fun h1=>?_
 . simp only [qao]at h1;rw [if_neg (by rw [h1];decide)];rfl
 simp only [qaw]at h1;rw [if_pos h1];have hlm:(toHp h).pages.length=h.2.2.1.length:=qai ..
 have hpl:=hw.pl;rw [hlm];refine zad (P:=fun r=>match r with
  | .inl x=>toFd x.2.2.1=P.zaD (toHp h) 0 h.2.2.1.length/\¬(toFd x.2.2.1).fault=0
  | .inr _=>P.zaD (toHp h) 0 h.2.2.1.length=P.Fd.none) (zai (fun x=>∃ k:Nat,x.1.1=(k:Int)/\k<=h.2.2.1.length/\P.zaD (toHp h) k (h.2.2.1.length-k)=P.zaD (toHp h) 0 h.2.2.1.length) (fun x=>((h.2.2.1.length:Int)-x.1.1).toNat) ⟨0,rfl,by omega,rfl⟩ ?_) ?_
 . rintro ⟨⟨(k':Int),_⟩,_,fd,_⟩ ⟨k,e1,e2,e3⟩;dsimp only at e1 ⊢
   subst e1;refine zac (fun h4=>?_) fun h4=>zab ?_
   . simp only [qab]at h4;have hk:k<h.2.2.1.length:=by omega
     have w:W ((k:Int)+1)=((k+1:Nat):Int):=by rw [W_id (by omega)];omega
     rw [w];rw [show h.2.2.1.length-k=(h.2.2.1.length-(k+1))+1 by omega,P.zaD]at e3
     refine zad (zwb h hw h1 k hk) ?_;rintro ⟨⟨⟨(f1:Int),(f2:Int),(f3:Int),_⟩,_⟩,_⟩ hf;dsimp only at hf ⊢
     rw [<-hf]at e3;have hff:(toFd (f1,f2,f3,())).fault=f1:=rfl
     refine zac (fun h5=>zab ?_) fun h5=>zab ?_
     . simp only [qaC,ne_eq]at h5;have e3:=(if_pos (show ¬(toFd (f1,f2,f3,())).fault=0 from h5)).symm.trans e3
       simp only [qak];exact ⟨e3,h5⟩
     . simp only [qaA]at h5;have e3:=(if_neg (show ¬¬(toFd (f1,f2,f3,())).fault=0 from fun c=>c h5)).symm.trans e3
       simp only [qal];exact ⟨⟨k+1,rfl,by omega,e3⟩,by omega⟩
   . simp only [qag]at h4;rw [show h.2.2.1.length-k=0 by omega,P.zaD]at e3
     simp only [qak];exact e3.symm
 . rintro r hr;refine zaQ (fun x hx=>zab ?_) fun y hy=>?_
   . subst hx;obtain ⟨g1,g2⟩:=hr;rw [<-g1,if_pos g2]
   . subst hy;have hr:P.zaD (toHp h) 0 h.2.2.1.length=P.Fd.none:=hr
     rw [hr,if_neg (fun c=>c rfl)]
     refine zad (zn2 h hw) ?_;rintro ⟨⟨⟨(f1:Int),(f2:Int),(f3:Int),_⟩,_⟩,_⟩ hf;dsimp only at hf ⊢
     rw [<-hf];refine zac (fun h5=>zab ?_) fun h5=>?_
     . simp only [qaC,ne_eq]at h5;exact (if_pos (show ¬(toFd (f1,f2,f3,())).fault=0 from h5)).symm
     simp only [qaA]at h5;have e4:∀ z:P.Fd,(if ¬(toFd (f1,f2,f3,())).fault=0 then toFd (f1,f2,f3,()) else z)=z:=fun z=>if_neg (show ¬¬(toFd (f1,f2,f3,())).fault=0 from fun c=>c h5)
     rw [e4];obtain ⟨p1,p2,p3,p4,p5,p6⟩:=P.zaN (zf2 h1);have c3:16<=h.1.1/\h.1.1<=64/\h.1.1 % 4=0/\8<=h.1.2.1/\h.1.2.1<=64:=P.zaj p1
     have hq4:W (h.1.2.1.tdiv 4)=h.1.2.1 / 4:=by rw [qbE (by omega)];exact W_id (by omega)
     have hcl:=zkG h hpl;rw [zh7]at hcl;dsimp only at hcl
     obtain ⟨r0,hr0,hv0⟩:=hcl;rw [qbv]at hr0;obtain ⟨r1,hr1,hr1'⟩:=hr0;refine zad (P:=fun r=>r.1.1=(P.zaZ (h.2.2.1.map toPg):Int)) ⟨r1,hr1,?_⟩ ?_
     . have:=Option.some.inj hr1'
       rw [<-this]at hv0;exact hv0
     . rintro ⟨⟨(c:Int),_⟩,_⟩ hc;dsimp only at hc ⊢
       rw [hq4];have enp:(toHp h).np=h.1.2.1:=rfl
       have epg:(toHp h).pages=h.2.2.1.map toPg:=rfl
       rw [enp,epg];refine zae rfl (zac (fun h6=>zab ?_) fun h6=>zab ?_)
       . simp only [qab]at h6;rw [if_pos (by omega)];rfl
       . simp only [qag]at h6;rw [if_neg (by omega)];rfl
theorem zjW(h:HpD)(hw:HpW h):Tot (fun r=>r.1.1=P.zgT (toHp h)) (F_r09_Good (h,())):=by
 rw [ztb];dsimp only
 try rw [zar]
 refine zad (zt2 h hw) ?_;rintro ⟨⟨⟨(f1:Int),(f2:Int),(f3:Int),_⟩,_⟩,_⟩ hf;dsimp only at hf ⊢
 refine zab ?_;unfold P.zgT;by_cases h0:(P.zeT (toHp h)).fault=0
 . rw [qad h0];have hn:=P.zoQ h0;rw [<-hf]at hn;simp only [toFd,P.Fd.none,P.Fd.mk.injEq]at hn;obtain ⟨a1,a2,a3⟩:=hn;subst a1 a2 a3
   rfl
 . rw [qaj h0];rw [<-hf]at h0;have h0:¬f1=0:=h0
   simp [h0]
theorem zkE(h:HpD)(hw:HpW h)(l:List Int)(hl:l.length<=100000000):Tot (fun r=>r.1.1=P.zjn (toHp h) l) (F_r09_Refers (h,l,())):=by
 rw [zps];dsimp only
 try rw [zar]
 unfold P.zjn;refine zad (zjW h hw) ?_;rintro ⟨⟨(b:Bool),_⟩,_⟩ hb;dsimp only at hb ⊢
 rw [<-hb];refine zac (fun h1=>zab ?_) fun h1=>zad (zff h hw) ?_
 . simp only [qao]at h1;rw [h1];rfl
 simp only [qaw]at h1;rw [h1,qaU];rintro ⟨⟨(all:List Int),_,_⟩,_⟩ ⟨hall,-⟩;dsimp only at hall ⊢
 have hal:all.length<=4096:=by
  rw [hall];unfold P.zag P.zci
  exact qaB (qbN _ _) (P.zcP _)
 rw [<-hall];refine zad (P:=fun r=>match r with
  | .inl x=>x.1.1=false/\(l.all fun x=>decide (x=0\/x∈all))=false
  | .inr _=>(l.all fun x=>decide (x=0\/x∈all))=true) (zai (fun x=>∃ k:Nat,x.1.2.1=(k:Int)/\k<=l.length/\((l.drop k).all fun x=>decide (x=0\/x∈all))=(l.all fun x=>decide (x=0\/x∈all))) (fun x=>((l.length:Int)-x.1.2.1).toNat) ⟨0,rfl,by omega,rfl⟩ ?_) ?_
 . rintro ⟨⟨(bb:Bool),(k':Int),_⟩,_⟩ ⟨k,e1,e2,e3⟩;dsimp only at e1 ⊢
   subst e1;refine zac (fun h4=>?_) fun h4=>zab ?_
   . simp only [qab]at h4;have hk:k<l.length:=by omega
     have w:W ((k:Int)+1)=((k+1:Nat):Int):=by rw [W_id (by omega)];omega
     have hin:inB (k:Int) l.length=true:=zaf.2 ⟨by omega,h4⟩
     rw [P.all_at (getD_some hk)]at e3;rw [w,qac,hin];generalize l.getD k 0=f at e3 ⊢
     have next:(f=0\/f∈all)->∀ q:Bool,Tot (Sum.elim (fun x':AS×Unit×Unit=>(∃ k:Nat,x'.1.2.1=(k:Int)/\k<=l.length/\((l.drop k).all fun x=>decide (x=0\/x∈all))=(l.all fun x=>decide (x=0\/x∈all)))/\((l.length:Int)-x'.1.2.1).toNat<((l.length:Int)-(k:Int)).toNat) fun (r:A8)=>match r with
      | .inl x=>x.1.1=false/\(l.all fun x=>decide (x=0\/x∈all))=false
      | .inr _=>(l.all fun x=>decide (x=0\/x∈all))=true) (some (Sum.inl ((q,((k+1:Nat):Int),()),(),()))):=fun hf q=>by
      rw [qad hf,qaU]at e3;refine zab ?_;simp only [qal];exact ⟨⟨k+1,rfl,by omega,e3⟩,by omega⟩
     refine zae rfl (zae (zax fun _=>rfl) (zac (fun h5=>?_) fun h5=>next ?_ _))
     . simp only [qaC,ne_eq]at h5;refine zad (zeU all f (by omega)) ?_
       rintro ⟨⟨(hb2:Bool),_⟩,_⟩ hhas;dsimp only at hhas ⊢
       refine zac (fun h6=>zab ?_) fun h6=>next ?_ _
       . simp only [qao]at h6;rw [h6]at hhas;have hnm:=qa3 hhas.symm;rw [qaj (show ¬(f=0\/f∈all) from fun c=>c.elim h5 hnm),Bool.false_and]at e3
         simp only [qak];exact ⟨by trivial,e3.symm⟩
       . simp only [qaw]at h6;rw [h6]at hhas;exact .inr (qat hhas.symm)
     . simp only [qaA]at h5;exact .inl h5
   . simp only [qag]at h4;rw [qbw (by omega)]at e3
     simp only [qak];exact e3.symm
 . rintro r hr;refine zaQ (fun x hx=>zab ?_) fun y hy=>zab ?_
   . subst hx;exact hr.1.trans hr.2.symm
   . subst hy;exact hr.symm
end Go.VI
namespace Go.VI
open Go
abbrev WkD:=HpD×List Int×List Int×List Int×Int×(Int×Int×Int×Int×Int×Int×Unit)×Unit
def toWk(d:WkD):P.Wk:=⟨toHp d.1,d.2.1,d.2.2.1,d.2.2.2.1,d.2.2.2.2.1,d.2.2.2.2.2.1.1,d.2.2.2.2.2.1.2.1,d.2.2.2.2.2.1.2.2.1,d.2.2.2.2.2.1.2.2.2.1,d.2.2.2.2.2.1.2.2.2.2.1,d.2.2.2.2.2.1.2.2.2.2.2.1⟩
theorem zkI(n:Int):W n=RowKit.wrap64 n:=by rw [W,IntKind.wrap_i64];unfold RowKit.wrap64;omega
theorem ztZ(d:WkD)(a:Int)(hl:d.2.2.1.length<=100000000):Tot (fun r=>r.1.1=decide (a∈d.2.2.1)) (F_r10_taken (d,a,())):=by
 obtain ⟨h,old,l,q,sc,rs,_⟩:=d;dsimp only at hl
 rw [zra];dsimp only
 refine zad (P:=fun r=>match r with
  | .inl x=>x.1.1=true/\a∈l
  | .inr _=>¬a∈l) (zai (fun x=>∃ k:Nat,x.1.2.1=(k:Int)/\k<=l.length/\¬a∈l.take k) (fun x=>((l.length:Int)-x.1.2.1).toNat) ⟨0,rfl,by omega,by simp⟩ ?_) ?_
 . rintro ⟨⟨(b:Bool),(k':Int),_⟩,_⟩ ⟨k,e1,e2,e3⟩;dsimp only at e1 ⊢
   subst e1;refine zac (fun h4=>?_) fun h4=>zab ?_
   . simp only [qab]at h4;have hk:k<l.length:=by omega
     have w:W ((k:Int)+1)=((k+1:Nat):Int):=by rw [W_id (by omega)];omega
     rw [w,qac];refine zae (zaf.2 ⟨by omega,h4⟩) (zac (fun h5=>zab ?_) fun h5=>zab ?_)
     . simp only [qax]at h5;simp only [qak];exact ⟨by trivial,by rw [<-h5];exact zaE hk⟩
     . simp only [qaO,ne_eq]at h5;simp only [qal];refine ⟨⟨k+1,rfl,by omega,?_⟩,by omega⟩
       rw [P.zbc (getD_some hk),qaq,qa0];rintro (c | c)
       . exact e3 c
       . exact h5 c.symm
   . simp only [qag]at h4;simp only [qak];rwa [qa2 (by omega)]at e3
 . rintro r hr;refine zaQ (fun x hx=>?_) fun y hy=>zab ?_
   . subst hx;exact zab (by rw [qad hr.2];exact hr.1)
   . subst hy;exact (qaj hr).symm
theorem zek(d:WkD)(i:Int)(hl:d.2.2.1.length<=100000000)(hp:d.1.2.2.1.length<=100000000):Tot (fun r=>r.1.1=P.zeC (toWk d) i) (F_r10_Promoted (d,i,())):=by
 rw [zme];dsimp only
 simp only [cor];have hpg:(toWk d).h.pages=d.1.2.2.1.map toPg:=rfl
 have hsp:(toWk d).h.space=d.1.2.2.2.1:=rfl
 have htk:(toWk d).taken=d.2.2.1:=rfl
 unfold P.zeC;refine zac (fun h1=>zab ?_) fun h1=>?_
 . simp only [qaY,qab]at h1;cases hg:(toWk d).h.pages[i.toNat]? with
   | none=>rfl
   | some g=>
    have hlt:=(qar.1 hg).1;rw [hpg,qai]at hlt;have:¬0<=i:=by omega
    simp [this]
 simp only [qaP,qag]at h1;obtain ⟨j,rfl⟩:=qaM (show 0<=i by omega)
 have hj:j<d.1.2.2.1.length:=by omega
 rw [hpg,qac,zaH hj,hsp,htk];generalize d.1.2.2.1.getD j PG0=G
 obtain ⟨gk,gs,gu,gp,_⟩:=G;dsimp only;have e1:(toPg (gk,gs,gu,gp,())).kind=gk:=rfl
 have e2:(toPg (gk,gs,gu,gp,())).space=gs:=rfl
 refine zae (zaf.2 ⟨by omega,by omega⟩) (zac (fun h2=>zac (fun h3=>?_) fun h3=>zab ?_) fun h2=>zab ?_)
 . refine zad (ztZ d j hl) ?_;rintro ⟨⟨(b:Bool),_⟩,_⟩ hb;dsimp only at hb ⊢
   refine zab ?_;simp only [qax]at h2;simp only [qaC,ne_eq]at h3;simp only [toPg];rw [hb];simp [h2,h3]
 . simp only [qaA]at h3;simp only [toPg];simp [h3]
 . simp only [qaO,ne_eq]at h2;simp only [toPg];simp [h2]
theorem zoU(d:WkD)(a:Int)(hl:d.2.2.2.1.length<=100000000):Tot (fun r=>toWk r.1.1=P.zei (toWk d) a) (F_r10_keep (d,a,())):=by
 rw [zs6];dsimp only
 refine zae (zak.2 (by omega)) (zae (zak.2 (by simp;omega)) (zab ?_))
 unfold toWk P.zei;dsimp only;rw [zkI]
theorem zmX(h:HpD)(hw:HpW h):Tot (fun r=>r.1.2.1=(if P.okH (toHp h) then (if P.zgT (toHp h) then 0 else 19) else 1)/\(r.1.2.1=0->toWk r.1.1=P.zbx (toHp h))) (F_r10_Begin (h,())):=by
 rw [zf4];dsimp only
 try rw [zar]
 refine zad (za3 _ hw) fun r hr=>?_
 obtain ⟨⟨(b:Bool),_⟩,_⟩:=r;have hb:b=P.okH (toHp h):=hr
 subst hb;dsimp only;refine zac (fun h1=>zab ?_) fun h1=>zad (zjW h hw) ?_
 . simp only [qao]at h1;rw [h1];exact ⟨rfl,fun c=>by cases c⟩
 simp only [qaw]at h1;rintro ⟨⟨(g:Bool),_⟩,_⟩ hg;dsimp only at hg ⊢
 rw [<-hg,if_pos h1];refine zac (fun h2=>zab ?_) fun h2=>zad (zff h hw) ?_
 . simp only [qao]at h2;rw [h2];exact ⟨rfl,fun c=>by cases c⟩
 simp only [qaw]at h2;rw [h2];rintro ⟨⟨(all:List Int),_,_⟩,_⟩ ⟨hall,-⟩;dsimp only at hall ⊢
 have hpl:=hw.pl;have hsp:0<=h.2.2.2.1/\h.2.2.2.1<=1:=P.zd1.1 (P.zaN (zf2 h1)).2.2.2.1
 have ws:W (1-h.2.2.2.1)=1-h.2.2.2.1:=W_id (by omega)
 rw [ws];refine zae (zak.2 (by omega)) (zad (P:=fun r=>r.2.2.1.map toPg=(P.zbx (toHp h)).h.pages) (zai (fun x=>∃ k:Nat,x.1.1=(k:Int)/\k<=h.2.2.1.length/\x.2.2.1.map toPg=P.bgPs (toHp h) k) (fun x=>((h.2.2.1.length:Int)-x.1.1).toNat) ⟨0,rfl,by omega,rfl⟩ ?_) fun r hr=>zab ⟨rfl,fun _=>?_⟩)
 . rintro ⟨⟨(k':Int),_⟩,_,(ps:List PgD),_⟩ ⟨k,e1,e2,e3⟩;dsimp only at e1 e3 ⊢
   subst e1;have hlp:ps.length=h.2.2.1.length:=by
    have:=congrArg List.length e3
    rw [P.ziE,qai]at this;exact this.trans (qai ..)
   refine zac (fun h4=>?_) fun h4=>zab ?_
   . simp only [qab]at h4;have hk:k<h.2.2.1.length:=by omega
     have w:W ((k:Int)+1)=((k+1:Nat):Int):=by rw [W_id (by omega)];omega
     have hin:inB (k:Int) ps.length=true:=zaf.2 ⟨by omega,h4⟩
     have hat:(toHp h).pages[k]?=some (toPg (h.2.2.1.getD k PG0)):=zaH hk
     have h5:=P.zqe (toHp h) k k _ hat;rw [if_neg (by omega),<-e3,zaH (by omega)]at h5
     have h5:toPg (ps.getD k PG0)=toPg (h.2.2.1.getD k PG0):=Option.some.inj h5
     have hD:(toHp h).pages.getD k P.Pg.zero=toPg (ps.getD k PG0):=by rw [P.zao hat,h5]
     have hB:P.bgB (toHp h) k=((ps.getD k PG0).1 == 1&&decide (0<(ps.getD k PG0).2.2.2.1)):=by
      unfold P.bgB;rw [hD,qa9,qae,qae,qab,qab,qab,qax];exact Iff.rfl
     have hbg:P.bgPs (toHp h) (k+1)=if P.bgB (toHp h) k then (P.bgPs (toHp h) k).set k ⟨((toHp h).pages.getD k P.Pg.zero).kind,1-(toHp h).space,((toHp h).pages.getD k P.Pg.zero).used,((toHp h).pages.getD k P.Pg.zero).pins⟩ else P.bgPs (toHp h) k:=rfl
     rw [hD,hB]at hbg;rw [w,qac];simp only [cand];refine zae hin (zae (zax fun _=>hin) (zac (fun h6=>zab ?_) fun h6=>zab ?_))
     . rw [if_pos h6]at hbg;simp only [qal];refine ⟨⟨k+1,rfl,by omega,?_⟩,by omega⟩
       rw [hbg,qa6,e3];rfl
     . rw [if_neg (fun c=>Bool.noConfusion (c.symm.trans h6))]at hbg
       simp only [qal];exact ⟨⟨k+1,rfl,by omega,by rw [hbg,e3]⟩,by omega⟩
   . simp only [qag]at h4;simp only [qak];rw [e3,<-P.zvm];have:(toHp h).pages.length=h.2.2.1.length:=qai ..
     rw [this,show k=h.2.2.1.length by omega]
 . unfold toWk;dsimp only;rw [hall];have e:toHp ((h.1.1,h.1.2.1,()),h.2.1,r.2.2.1,h.2.2.2.1,h.2.2.2.2.1,())={ toHp h with pages:=(P.zbx (toHp h)).h.pages }:=by
    unfold toHp;dsimp only;rw [hr];rfl
   rw [e]
   rfl
end Go.VI
namespace Go.VI
open Go
theorem zt0(d:WkD)(hx:P.PlOK (toWk d))(n:Int)(hn:0<=n/\n<=100000):
 Tot (fun r=>r.1.2.2.1=P.plB (toWk d) n/\(r.1.2.2.1=true->toWk r.1.1=P.plW (toWk d) n/\r.1.2.1=P.plA (toWk d) n)) (F_r10_place (d,n,())):=by
 obtain ⟨⟨⟨pw,np,_⟩,ws,ps,sp,bu,_⟩,old,taken,queue,sc,⟨r0,r1,r2,r3,r4,r5,_⟩,_⟩:=d;have x1:=hx.pw0;have x2:=hx.pw1;have x3:=hx.np0;have x4:=hx.np1;have x5:=hx.sp0;have x6:=hx.sp1;have x7:=hx.tk;have x8:=hx.last
 have hps:=fun hb=>P.zeD (n:=n) hx hb
 have hlm:(ps.map toPg).length=ps.length:=qai ..
 have hreu:P.zcI (toWk (((pw,np,()),ws,ps,sp,bu,()),old,taken,queue,sc,(r0,r1,r2,r3,r4,r5,()),())) n=(match taken.getLast? with | some l=>decide (((ps.map toPg).getD l.toNat P.Pg.zero).used+n<=pw) | none=>false):=rfl
 have hplB:P.plB (toWk (((pw,np,()),ws,ps,sp,bu,()),old,taken,queue,sc,(r0,r1,r2,r3,r4,r5,()),())) n=(P.zcI (toWk (((pw,np,()),ws,ps,sp,bu,()),old,taken,queue,sc,(r0,r1,r2,r3,r4,r5,()),())) n || decide (0<=P.zau (ps.map toPg) 1)):=rfl
 have hplJ:P.plJ (toWk (((pw,np,()),ws,ps,sp,bu,()),old,taken,queue,sc,(r0,r1,r2,r3,r4,r5,()),())) n=if P.zcI (toWk (((pw,np,()),ws,ps,sp,bu,()),old,taken,queue,sc,(r0,r1,r2,r3,r4,r5,()),())) n then taken.getLast?.getD (-1) else P.zau (ps.map toPg) 1:=rfl
 have hplPs:P.plPs (toWk (((pw,np,()),ws,ps,sp,bu,()),old,taken,queue,sc,(r0,r1,r2,r3,r4,r5,()),())) n=if P.zcI (toWk (((pw,np,()),ws,ps,sp,bu,()),old,taken,queue,sc,(r0,r1,r2,r3,r4,r5,()),())) n then ps.map toPg else P.zb2 (ps.map toPg) (P.zau (ps.map toPg) 1) (1-sp):=rfl
 have hplT:P.plT (toWk (((pw,np,()),ws,ps,sp,bu,()),old,taken,queue,sc,(r0,r1,r2,r3,r4,r5,()),())) n=if P.zcI (toWk (((pw,np,()),ws,ps,sp,bu,()),old,taken,queue,sc,(r0,r1,r2,r3,r4,r5,()),())) n then taken else taken++[P.zau (ps.map toPg) 1]:=rfl
 have hplW:P.plW (toWk (((pw,np,()),ws,ps,sp,bu,()),old,taken,queue,sc,(r0,r1,r2,r3,r4,r5,()),())) n=⟨⟨pw,np,ws,P.zgK (P.plPs (toWk (((pw,np,()),ws,ps,sp,bu,()),old,taken,queue,sc,(r0,r1,r2,r3,r4,r5,()),())) n) (P.plJ (toWk (((pw,np,()),ws,ps,sp,bu,()),old,taken,queue,sc,(r0,r1,r2,r3,r4,r5,()),())) n).toNat n,sp,bu⟩,old,P.plT (toWk (((pw,np,()),ws,ps,sp,bu,()),old,taken,queue,sc,(r0,r1,r2,r3,r4,r5,()),())) n,queue,sc,r0,r1,r2,r3,r4,r5⟩:=rfl
 have hplA:P.plA (toWk (((pw,np,()),ws,ps,sp,bu,()),old,taken,queue,sc,(r0,r1,r2,r3,r4,r5,()),())) n=4096+P.plJ (toWk (((pw,np,()),ws,ps,sp,bu,()),old,taken,queue,sc,(r0,r1,r2,r3,r4,r5,()),())) n*pw+((P.plPs (toWk (((pw,np,()),ws,ps,sp,bu,()),old,taken,queue,sc,(r0,r1,r2,r3,r4,r5,()),())) n).getD (P.plJ (toWk (((pw,np,()),ws,ps,sp,bu,()),old,taken,queue,sc,(r0,r1,r2,r3,r4,r5,()),())) n).toNat P.Pg.zero).used:=rfl
 generalize hX:toWk (((pw,np,()),ws,ps,sp,bu,()),old,taken,queue,sc,(r0,r1,r2,r3,r4,r5,()),())=X at *
 have x1:16<=pw:=by rw [<-hX]at x1;exact x1
 have x2:pw<=64:=by rw [<-hX]at x2;exact x2
 have x3:1<=ps.length:=by rw [<-hX]at x3;rw [<-hlm];exact x3
 have x4:ps.length<=64:=by rw [<-hX]at x4;rw [<-hlm];exact x4
 have x5:0<=sp:=by rw [<-hX]at x5;exact x5
 have x6:sp<=1:=by rw [<-hX]at x6;exact x6
 have x7:taken.length<=1000:=by rw [<-hX]at x7;exact x7
 have x8:∀ l,taken.getLast?=some l->∃ k:Nat,l=k/\∃ g,(ps.map toPg)[k]?=some g/\0<=g.used/\g.used<=pw:=by rw [<-hX]at x8;exact x8
 have hps:P.plB X n=true->∃ j:Nat,∃ y:P.Pg,P.plJ X n=j/\j<ps.length/\(P.plPs X n).length=ps.length/\(P.plPs X n)[j]?=some y/\0<=y.used/\y.used<=pw:=fun hb=>by
  obtain ⟨j,y,a1,a2,a3,a4,a5,a6,-⟩:=hps hb;have e1:X.h.pages.length=ps.length:=by rw [<-hX];exact hlm
  have e2:X.h.pw=pw:=by rw [<-hX];rfl
  rw [e1]at a2 a3;rw [e2]at a6;exact ⟨j,y,a1,a2,a3,a4,a5,a6⟩
 have hT:0<taken.length->∃ k:Nat,taken.getD (W ((taken.length:Int)-1)).toNat 0=(k:Int)/\k<ps.length/\taken.getLast?=some (k:Int)/\0<=(ps.getD k PG0).2.2.1/\(ps.getD k PG0).2.2.1<=pw:=fun h0=>by
  rcases qcw taken with e | ⟨pre,t,e⟩
  . rw [e]at h0;cases h0
  . rw [qcy]at e;have hl:taken.getLast?=some t:=by rw [e];simp
    obtain ⟨k,rfl,g,hg,g0,g1⟩:=x8 t hl;have hk:=(qar.1 hg).1;rw [hlm]at hk;rw [zaH hk]at hg;have hg:=Option.some.inj hg;have hlen:taken.length=pre.length+1:=by rw [e];simp
    have w:W ((taken.length:Int)-1)=pre.length:=by rw [W_id (by omega)];omega
    refine ⟨k,?_,hk,hl,?_,?_⟩
    . rw [w,qac,e,qay,qbH (qan _),qbQ];rfl
    . rw [<-hg]at g0;exact g0
    . rw [<-hg]at g1;exact g1
 have hC:(bif decide ((taken.length:Int) > 0) then decide (W ((ps.getD (taken.getD (W ((taken.length:Int)-1)).toNat 0).toNat PG0).2.2.1+n)<=pw) else false)=P.zcI X n:=by
  rw [hreu];by_cases h0:0<taken.length
  . obtain ⟨k,t1,t2,t3,t4,t5⟩:=hT h0;rw [t1,t3,qac,qad (show (taken.length:Int) > 0 by omega)]
    simp only [qah,qac];have w:W ((ps.getD k PG0).2.2.1+n)=(ps.getD k PG0).2.2.1+n:=W_id (by omega)
    have e:((ps.map toPg).getD k P.Pg.zero).used=(ps.getD k PG0).2.2.1:=by rw [zaB];rfl
    rw [w];exact qcf.2 (by rw [e])
  . have e:taken=[]:=qbR (by omega)
    rw [e];rfl
 have hG1:(bif decide ((taken.length:Int) > 0) then inB (W ((taken.length:Int)-1)) taken.length else true)=true:=zax fun h=>by
  simp only [qab]at h;rw [W_id (by omega)]
  exact zaf.2 ⟨by omega,by omega⟩
 have hG2:(bif decide ((taken.length:Int) > 0) then inB (taken.getD (W ((taken.length:Int)-1)).toNat 0) ps.length else true)=true:=zax fun h=>by
  simp only [qab]at h;obtain ⟨k,t1,t2,-⟩:=hT (by omega)
  rw [t1];exact zaf.2 ⟨by omega,by omega⟩
 have hpos:P.zcI X n=true->0<taken.length:=fun h=>by
  rw [<-hC]at h;by_cases h0:0<taken.length
  . exact h0
  . rw [qaj (show ¬(taken.length:Int) > 0 by omega)]at h;cases h
 rw [zrb];dsimp only
 rw [hC];refine zae (zak.2 (by omega)) (zae hG1 (zae hG2 (zae (zax fun h=>?_) (zac (fun hc=>?_) fun hc=>?_))))
 . have h0:=hpos h;rw [qad (show (taken.length:Int) > 0 by omega)]at hG1
   exact hG1
 . have h0:=hpos hc;have hb:P.plB X n=true:=by rw [hplB,hc];rfl
   obtain ⟨k,t1,t2,t3,t4,t5⟩:=hT h0;rw [t1,qac];have hin:inB (k:Int) ps.length=true:=zaf.2 ⟨by omega,by omega⟩
   have hkp:0<=(k:Int)*pw/\(k:Int)*pw<=4096:=⟨qbj (by omega) (by omega),by
    calc (k:Int)*pw<=64*pw:=qaV (by omega) (by omega)
     _<=4096:=by omega⟩
   have v1:W ((k:Int)*pw)=k*pw:=W_id (by omega)
   have v2:W (4096+(k:Int)*pw)=4096+k*pw:=W_id (by omega)
   have v3:W (4096+(k:Int)*pw+(ps.getD k PG0).2.2.1)=4096+k*pw+(ps.getD k PG0).2.2.1:=W_id (by omega)
   have v4:U (4096+(k:Int)*pw+(ps.getD k PG0).2.2.1)=4096+k*pw+(ps.getD k PG0).2.2.1:=U_id (by omega)
   have v5:W ((ps.getD k PG0).2.2.1+n)=(ps.getD k PG0).2.2.1+n:=W_id (by omega)
   have eJ:P.plJ X n=(k:Int):=by rw [hplJ,if_pos hc,t3];rfl
   have eP:P.plPs X n=ps.map toPg:=by rw [hplPs,if_pos hc]
   have eT:P.plT X n=taken:=by rw [hplT,if_pos hc]
   refine zae hin (zae hin (zae hin (zab ⟨hb.symm,fun _=>⟨?_,?_⟩⟩)))
   . rw [hplW,eJ,eP,eT,qac];unfold toWk toHp P.zgK;dsimp only;rw [qa6,zaB,v5];rfl
   . rw [hplA,eJ,eP,qac,zaB];dsimp only;rw [v1,v2,v3,v4];rfl
 . refine zad (zhA ps 1 (by omega)) ?_
   rintro ⟨⟨(K':Int),_⟩,_⟩ hK;dsimp only at hK ⊢
   refine zac (fun h1=>zab ?_) fun h1=>?_
   . simp only [qab]at h1;refine ⟨?_,fun c=>by cases c⟩
     rw [hplB,hc,<-hK,qaj (by omega)];rfl
   simp only [qag]at h1;have hb:P.plB X n=true:=by rw [hplB,<-hK,qad (show 0<=K' by omega),Bool.or_true]
   obtain ⟨K,rfl⟩:=qaM (show 0<=K' by omega)
   obtain ⟨j,y,a1,a2,a3,a4,a5,a6⟩:=hps hb;have eJ:P.plJ X n=(K:Int):=by rw [hplJ,if_neg (by rw [hc];decide),<-hK]
   have eP:P.plPs X n=P.zb2 (ps.map toPg) K (1-sp):=by rw [hplPs,if_neg (by rw [hc];decide),<-hK]
   have eT:P.plT X n=taken++[(K:Int)]:=by rw [hplT,if_neg (by rw [hc];decide),<-hK]
   have hj:j=K:=by rw [eJ]at a1;omega
   subst hj;obtain ⟨-,s1,s2⟩:=P.zdB (ps:=ps.map toPg) (k:=1) (by omega)
   rw [<-hK]at s1 s2;obtain ⟨z,hz,hz0⟩:=s2 j (by omega) (by omega)
   have hf:P.zcw (ps.map toPg) j 1=true:=by
    have:=P.zck (ps:=ps.map toPg) (i:=j) (k:=0) (x:=z) (by rw [qa7];exact hz)
    rw [P.zcV,hz0]at this;simpa using this
   have ws':W (1-sp)=1-sp:=W_id (by omega)
   rw [ws'];refine zad (ziJ ps j (1-sp) (by omega) (by omega) (by omega) hf) ?_
   rintro ⟨⟨(qs:List PgD),_,_⟩,_⟩ ⟨hqs,-⟩;dsimp only at hqs ⊢
   rw [<-hqs]at eP;rw [eP]at a3 a4;rw [qai]at a3;have hjq:j<qs.length:=by omega
   rw [zaH hjq]at a4;have a4:=Option.some.inj a4;rw [<-a4]at a5 a6;have a5:0<=(qs.getD j PG0).2.2.1:=a5
   have a6:(qs.getD j PG0).2.2.1<=pw:=a6
   rw [qac];have hin:inB (j:Int) qs.length=true:=zaf.2 ⟨by omega,by omega⟩
   have hkp:0<=(j:Int)*pw/\(j:Int)*pw<=4096:=⟨qbj (by omega) (by omega),by
    calc (j:Int)*pw<=64*pw:=qaV (by omega) (by omega)
     _<=4096:=by omega⟩
   have v1:W ((j:Int)*pw)=j*pw:=W_id (by omega)
   have v2:W (4096+(j:Int)*pw)=4096+j*pw:=W_id (by omega)
   have v3:W (4096+(j:Int)*pw+(qs.getD j PG0).2.2.1)=4096+j*pw+(qs.getD j PG0).2.2.1:=W_id (by omega)
   have v4:U (4096+(j:Int)*pw+(qs.getD j PG0).2.2.1)=4096+j*pw+(qs.getD j PG0).2.2.1:=U_id (by omega)
   have v5:W ((qs.getD j PG0).2.2.1+n)=(qs.getD j PG0).2.2.1+n:=W_id (by omega)
   refine zae (zak.2 (by omega)) (zae (zak.2 (by simp;omega)) (zae hin (zae hin (zae hin (zab ⟨hb.symm,fun _=>⟨?_,?_⟩⟩)))))
   . rw [hplW,eJ,eP,eT,qac];unfold toWk toHp P.zgK;dsimp only;rw [qa6,zaB,v5];rfl
   . rw [hplA,eJ,eP,qac,zaB];dsimp only;rw [v1,v2,v3,v4];rfl
end Go.VI
namespace Go.VI
open Go
abbrev WK0:WkD:=(H0,[],[],[],0,(0,0,0,0,0,0,()),())
theorem zfM:toWk WK0=P.Wk.zero:=rfl
theorem ziH(d:WkD)(hx:P.FwOK (toWk d))(hwb:WBo d.1.2.1)(hol:d.2.1.length<=100000000)(a:Int)(ha:0<=a/\a<18446744073709551616):
 Tot (fun r=>r.1.2.2.1=P.evE (toWk d) a/\r.1.2.1=P.evA (toWk d) a/\toWk r.1.1=P.evW (toWk d) a) (F_r10_Forward (d,a,())):=by
 obtain ⟨⟨⟨pw,np,_⟩,ws,ps,sp,bu,_⟩,old,taken,queue,sc,⟨r0,r1,r2,r3,r4,r5,_⟩,_⟩:=d;have hwl:ws.length<=100000:=hx.wl
 have hql:queue.length<=1000000:=hx.ql
 have htk:taken.length<=1000:=hx.pl.tk
 have hlm:(ps.map toPg).length=ps.length:=qai ..
 have hpl:ps.length<=64:=by rw [<-hlm];exact hx.pl.np1
 have hs0:0<=sp:=hx.pl.sp0
 have hs1:sp<=1:=hx.pl.sp1
 dsimp only at hwb hol
 generalize hX:toWk (((pw,np,()),ws,ps,sp,bu,()),old,taken,queue,sc,(r0,r1,r2,r3,r4,r5,()),())=X at *
 have Xq:X.queue=queue:=by rw [<-hX];rfl
 have Xo:X.old=old:=by rw [<-hX];rfl
 have Xw:X.h.words=ws:=by rw [<-hX];rfl
 have Xp:X.h.pages=ps.map toPg:=by rw [<-hX];rfl
 have Xpw:X.h.pw=pw:=by rw [<-hX];rfl
 have Xnp:X.h.np=np:=by rw [<-hX];rfl
 have Xs:X.h.space=sp:=by rw [<-hX];rfl
 have fin:∀ (e b:Int) (g:WkD) (c:Nat),P.evC X a=c->e=(match c with | 1=>19 | 3=>19 | 6=>3 | _=>0)->b=(match c with | 0=>a | 2=>P.tgtV (P.evWd X a).toNat | 4=>a | 5=>a | 7=>P.plA X (P.evN X a) | _=>0)->toWk g=(match c with | 0=>X | 2=>X | 4=>P.zei X a | 5=>P.zei (P.zcK X (P.evI X a).toNat) a | 7=>P.zbq X a | _=>P.Wk.zero) ->
  Tot (fun r:(WkD×Int×Int×Unit)×Unit=>r.1.2.2.1=P.evE X a/\r.1.2.1=P.evA X a/\toWk r.1.1=P.evW X a) (some ((g,b,e,()),())):=fun e b g c hc h1 h2 h3=>by
  refine zab ?_;unfold P.evE P.evA P.evW;rw [hc];exact ⟨h1,h2,h3⟩
 rw [znF];dsimp only
 refine zac (fun h1=>?_) fun h1=>zad (zeU queue a (by omega)) ?_
 . simp only [qax]at h1;exact fin _ _ _ 0 (by unfold P.evC;rw [if_pos (.inl h1)]) rfl rfl hX
 simp only [qaO,ne_eq]at h1;rintro ⟨⟨(b1:Bool),_⟩,_⟩ hb1;dsimp only at hb1 ⊢
 refine zac (fun h2=>?_) fun h2=>zad (zeU old a (by omega)) ?_
 . rw [h2]at hb1;exact fin _ _ _ 0 (by unfold P.evC;rw [Xq,if_pos (.inr (qat hb1.symm))]) rfl rfl hX
 rw [h2]at hb1;have hnq:=qa3 hb1.symm;rintro ⟨⟨(b2:Bool),_⟩,_⟩ hb2;dsimp only at hb2 ⊢
 have c0:¬(a=0\/a∈X.queue):=by rw [Xq];exact fun c=>c.elim h1 hnq
 refine zac (fun h3=>?_) fun h3=>zad (zcY ws a (by omega) ha) ?_
 . simp only [qao]at h3;rw [h3]at hb2;exact fin _ _ _ 1 (by unfold P.evC;rw [if_neg c0,Xo,if_pos (qa3 hb2.symm)]) rfl rfl zfM
 simp only [qaw]at h3;rw [h3]at hb2;have hold:=qat hb2.symm;have c1:¬¬a∈X.old:=by rw [Xo];exact fun c=>c hold
 rintro ⟨⟨(wd:Int),_,_⟩,_⟩ ⟨hwd,-⟩;dsimp only at hwd ⊢
 obtain ⟨y,hy,hy2⟩:=P.zeQ hwb a;rw [hy]at hwd;subst hwd;have hev:(P.evWd X a).toNat=y:=by unfold P.evWd;rw [Xw,hy];rfl
 refine zad (zkF y hy2) ?_;rintro ⟨⟨(tg:Int),(tok:Bool),_⟩,_⟩ ⟨htg,htok⟩;dsimp only at htg htok ⊢
 refine zac (fun h4=>?_) fun h4=>zad (ziK pw np a ha) ?_
 . refine fin _ _ _ 2 ?_ rfl ?_ hX
   . unfold P.evC;rw [if_neg c0,if_neg c1,hev,<-htok,if_pos h4]
   . show tg=P.tgtV (P.evWd X a).toNat
     rw [hev,htg]
 have c2:¬P.okT (P.evWd X a).toNat=true:=by rw [hev,<-htok,h4];decide
 rintro ⟨⟨(i:Int),(o:Int),(e:Int),_⟩,_⟩ ⟨g1,g2,g3⟩;dsimp only at g1 g2 g3 ⊢
 have hI:P.evI X a=i:=by unfold P.evI;rw [Xpw,Xnp,g1]
 simp only [cor];refine zac (fun h5=>?_) fun h5=>zad (zek _ i (by show taken.length<=_;omega) (by show ps.length<=_;omega)) ?_
 . simp only [qaY,qaC,ne_eq,qab]at h5;refine fin _ _ _ 3 ?_ rfl rfl zfM;unfold P.evC;rw [if_neg c0,if_neg c1,if_neg c2,Xpw,Xnp,<-g3,hI,Xp,hlm,if_pos (by omega)]
 simp only [qaP,qaA,qag]at h5;have c3:¬(¬P.ofE X.h.pw X.h.np a=0\/(X.h.pages.length:Int)<=P.evI X a):=by rw [Xpw,Xnp,<-g3,hI,Xp,hlm];omega
 have hi0:0<=i:=by
  obtain ⟨_,q,_⟩:=P.zuQ (pw:=pw) (np:=np) (a:=a) (by omega)
  omega
 rw [hX];rintro ⟨⟨(pr:Bool),_⟩,_⟩ hpr;dsimp only at hpr ⊢
 refine zac (fun h6=>zad (zoU _ a (by show queue.length<=_;omega)) ?_) fun h6=>?_
 . rintro ⟨⟨(g:WkD),_⟩,_⟩ hg;rw [hX]at hg;dsimp only at hg ⊢
   refine fin _ _ g 4 ?_ rfl rfl hg;unfold P.evC;rw [if_neg c0,if_neg c1,if_neg c2,if_neg c3,hI,<-hpr,if_pos h6]
 have c4:¬P.zeC X (P.evI X a)=true:=by rw [hI,<-hpr,h6];decide
 obtain ⟨j,rfl⟩:=qaM hi0;have hj:j<ps.length:=by omega
 have hinj:inB (j:Int) ps.length=true:=zaf.2 ⟨by omega,by omega⟩
 rw [qac];have hBig:P.zgf X a=((ps.getD j PG0).1 == 2):=by
  unfold P.zgf;rw [hI,qac,qa9,qab,qax,Xp,zaB];exact Iff.rfl
 refine zae hinj (zae (zax fun _=>zak.2 (by omega)) (zae (zax fun _=>hinj) (zac (fun h7=>?_) fun h7=>?_)))
 . have hsw:W (1-sp)=1-sp:=W_id (by omega)
   have hw1:W ((j:Int)+1)=((j+1:Nat):Int):=by rw [W_id (by omega)];omega
   rw [hsw,hw1];refine zad (P:=fun r=>r.2.2.1.map toPg=P.spc (ps.map toPg) j (P.zea (ps.map toPg) j) (1-sp)) (zai (fun x=>∃ k:Nat,x.1.1=(k:Int)/\j+1<=k/\k<=ps.length/\x.2.2.1.map toPg=P.spc (ps.map toPg) j k (1-sp)/\∀ t y,j<t->t<k->(ps.map toPg)[t]?=some y->y.kind=3) (fun x=>((ps.length:Int)-x.1.1).toNat) ⟨j+1,rfl,by omega,by omega,?_,fun t y t1 t2=>by omega⟩ ?_) ?_
   . have:=P.zlq (ps:=ps.map toPg) (i:=j) (k:=j) (sp:=1-sp) (qan _) (zaH hj)
     rw [P.zqO]at this;rw [<-this,qa6];rfl
   . rintro ⟨⟨(k':Int),_⟩,_,(qs:List PgD),_⟩ ⟨k,e1,e2,e3,e4,e5⟩;dsimp only at e1 e4 ⊢
     subst e1;have hql:qs.length=ps.length:=by
      have:=congrArg List.length e4
      rw [P.zsN,qai,qai]at this;exact this
     have hkd:k<ps.length->toPg (qs.getD k PG0)=toPg (ps.getD k PG0):=fun hk=>by
      have h8:=P.zjk (i:=j) (k:=k) (sp:=1-sp) (zaH hk)
      rw [<-e4,zaH (by omega),if_neg (by omega)]at h8
      exact Option.some.inj h8
     have w:W ((k:Int)+1)=((k+1:Nat):Int):=by rw [W_id (by omega)];omega
     rw [w,qac];simp only [cand];refine zae (zax fun h=>?_) (zac (fun h8=>zae ?_ (zab ?_)) fun h8=>zab ?_)
     . simp only [qab]at h;exact zaf.2 ⟨by omega,h⟩
     . simp only [qae,qab]at h8;exact zaf.2 ⟨by omega,h8.1⟩
     . simp only [qae,qab,qax]at h8;have hk:k<ps.length:=by omega
       have hkk:=hkd hk;simp only [qal];refine ⟨⟨k+1,rfl,by omega,by omega,?_,fun t y t1 t2 hy=>?_⟩,by omega⟩
       . rw [<-P.zlq (by omega) (zaH hk),qa6,e4,<-hkk];rfl
       . by_cases ht:t=k
         . subst ht;rw [zaH hk]at hy;rw [<-Option.some.inj hy,<-hkk];exact h8.2
         . exact e5 t y t1 (by omega) hy
     . simp only [qak];rw [e4,P.zji e2 (by rw [hlm];exact e3) e5 (fun y hy=>?_)]
       have hk:=(qar.1 hy).1;rw [hlm]at hk;have hkk:=hkd hk;rw [zaH hk]at hy;rw [<-Option.some.inj hy,<-hkk];intro h9;have h9:(qs.getD k PG0).1=3:=h9
       rw [h9,qad (show (k:Int)<(qs.length:Int) by omega)]at h8
       cases h8
   . rintro ⟨_,_,(qs:List PgD),_⟩ hqs;dsimp only at hqs ⊢
     refine zad (zoU _ a (by show queue.length<=_;omega)) ?_
     rintro ⟨⟨(g:WkD),_⟩,_⟩ hg;dsimp only at hg ⊢
     refine fin _ _ g 5 ?_ rfl rfl ?_
     . unfold P.evC;rw [if_neg c0,if_neg c1,if_neg c2,if_neg c3,if_neg c4,hBig,if_pos h7]
     . show toWk g=P.zei (P.zcK X (P.evI X a).toNat) a
       rw [hg,hI,qac];have:toWk (((pw,np,()),ws,qs,sp,bu,()),old,taken,queue,sc,(r0,r1,r2,r3,r4,r5,()),())=P.zcK X j:=by
        unfold P.zcK;rw [Xp,Xs,<-hqs,<-hX];rfl
       rw [this]
 . have c5:¬P.zgf X a=true:=by rw [hBig,h7];decide
   refine zad (zgo y hy2) ?_;rintro ⟨⟨⟨(dk:Int),(dn:Int),(dm:Int),_⟩,_,_⟩,_⟩ ⟨-,hd⟩;dsimp only at hd ⊢
   simp only [Prod.mk.injEq,qbn]at hd;obtain ⟨hk1,hk2,hk3⟩:=hd;have hmb:=P.zx1 y;rw [<-hk3]at hmb;have hN:P.evN X a=P.zaP dk dn dm:=by unfold P.evN;rw [hev,hk1,hk2,hk3]
   have hNb:=P.evN_bd X a;rw [zcl dk dn dm hmb,qaa];dsimp only;rw [<-hN];have hx':P.PlOK (toWk (((pw,np,()),ws,ps,sp,bu,()),old,taken,queue,sc,(r0,r1,r2,r3,r4,r5,()),())):=by rw [hX];exact hx.pl
   refine zad (zt0 _ hx' (P.evN X a) (by omega)) ?_
   rw [hX];rintro ⟨⟨(g:WkD),(to:Int),(ok:Bool),_⟩,_⟩ ⟨hok,hg⟩;dsimp only at hok hg ⊢
   refine zac (fun h8=>?_) fun h8=>?_
   . simp only [qao]at h8;refine fin _ _ _ 6 ?_ rfl rfl zfM;unfold P.evC;rw [if_neg c0,if_neg c1,if_neg c2,if_neg c3,if_neg c4,if_neg c5,<-hok,h8];rfl
   . simp only [qaw]at h8;obtain ⟨hg1,hg2⟩:=hg h8;have hplb:P.plB X (P.evN X a)=true:=by rw [<-hok];exact h8
     have hto:=P.zxc hx.pl hplb;rw [<-hg2]at hto;obtain ⟨⟨⟨pw',np',_⟩,ws',ps',sp',bu',_⟩,old',taken',queue',sc',⟨s0,s1,s2,s3,s4,s5,_⟩,_⟩:=g;have ew:ws'=ws:=by
      have:=congrArg (fun z=>z.h.words) hg1
      exact this.trans Xw
     have eq:queue'=queue:=by
      have:=congrArg (fun z=>z.queue) hg1
      exact this.trans Xq
     subst ew eq;refine zad (zwi ws' to a (P.evN X a) (by omega) hto ha) ?_
     rintro ⟨⟨(w2:List Int),_,_⟩,_⟩ ⟨hw2,-⟩;dsimp only at hw2 ⊢
     have hw2l:w2.length<=ws'.length:=by rw [hw2];exact P.zuV _ _ _ _
     refine zad (zqj to hto) ?_;rintro ⟨⟨(fw:Int),_,_⟩,_⟩ ⟨hfw,-⟩;dsimp only at hfw ⊢
     refine zad (zhB w2 a fw (by omega) ha) ?_
     rintro ⟨⟨(w3:List Int),_,_⟩,_⟩ ⟨hw3,-⟩;dsimp only at hw3 ⊢
     refine zae (zak.2 (by omega)) (zae (zak.2 (by simp;omega)) ?_)
     refine fin _ _ _ 7 ?_ rfl hg2 ?_
     . unfold P.evC;rw [if_neg c0,if_neg c1,if_neg c2,if_neg c3,if_neg c4,if_neg c5,if_pos hplb]
     . show _=P.zbq X a
       have hcw:P.zkB X a=w3:=by
        unfold P.zkB;rw [Xw,<-hg2,<-hw2,<-hfw,hw3]
       unfold P.zbq;rw [hcw,<-hg1,Xq,<-hg2,zkI];have e0:X.r0=s0:=by
        have:=congrArg (fun z=>z.r0) hg1
        exact this.symm
       rw [e0];rfl
end Go.VI
namespace Go.VI
open Go
abbrev BxD:=Int×Int×List Int×List PgD×Int×Int×List Int×List Int×List Int×Int×Int×Int×Int×Int×Int×Int×Unit
def unfl(b:BxD):WkD:=(((b.1,b.2.1,()),b.2.2.1,b.2.2.2.1,b.2.2.2.2.1,b.2.2.2.2.2.1,()),b.2.2.2.2.2.2.1,b.2.2.2.2.2.2.2.1,b.2.2.2.2.2.2.2.2.1,b.2.2.2.2.2.2.2.2.2.1,(b.2.2.2.2.2.2.2.2.2.2.1,b.2.2.2.2.2.2.2.2.2.2.2.1,b.2.2.2.2.2.2.2.2.2.2.2.2.1,b.2.2.2.2.2.2.2.2.2.2.2.2.2.1,b.2.2.2.2.2.2.2.2.2.2.2.2.2.2.1,b.2.2.2.2.2.2.2.2.2.2.2.2.2.2.2.1,()),())
theorem zzF{x:P.Wk}(hx:P.PlOK x)(hw:P.WB x.h.words)(a:Int):P.WB (P.evW x a).h.words:=by
 unfold P.evW;split
 . exact hw
 . exact hw
 . exact hw
 . exact hw
 . rename_i h;refine P.copyWB hx ?_ hw;unfold P.evC at h;repeat' (split at h <;> try cases h)
   all_goals first | assumption | (exfalso;omega)
 . exact P.WB.nil
theorem zxZ(x:P.Wk)(a:Int):(P.evW x a).old=x.old\/(P.evW x a).old=[]:=by
 unfold P.evW;split <;> first | exact .inl rfl | exact .inr rfl
theorem ztY(d:WkD)(rs:List Int)(hR:P.zqB (toWk d) rs)(hwb:WBo d.1.2.1)(hol:d.2.1.length<=100000000)(hrl:rs.length<=1000000):
 Tot (fun r=>r.1.2.2.1=(P.za9 (toWk d) [] rs).2.2/\r.1.2.1=(P.za9 (toWk d) [] rs).2.1/\toWk r.1.1=(P.za9 (toWk d) [] rs).1/\WBo r.1.1.1.2.1) (F_r11_Roots (d,rs,())):=by
 rw [zq9];dsimp only
 refine zad (P:=fun r=>match r with
  | .inl x=>x.1.1=[]/\toWk (unfl x.2.2.2.1)=P.Wk.zero/\WBo x.2.2.2.1.2.2.1/\P.za9 (toWk d) [] rs=(P.Wk.zero,[],x.1.2.1)
  | .inr y=>P.za9 (toWk d) [] rs=(toWk (unfl y.2.2.1),y.2.1.1,0)/\WBo y.2.2.1.2.2.1) (zai (fun x=>∃ k:Nat,x.1.2.2.2.1=(k:Int)/\k<=rs.length/\x.2.1.1.length=k/\P.zqB (toWk (unfl x.2.2.1)) (rs.drop k)/\P.za9 (toWk (unfl x.2.2.1)) x.2.1.1 (rs.drop k)=P.za9 (toWk d) [] rs/\WBo x.2.2.1.2.2.1/\(unfl x.2.2.1).2.1.length<=100000000) (fun x=>((rs.length:Int)-x.1.2.2.2.1).toNat) ?_ ?_) ?_
 . exact ⟨0,rfl,by omega,rfl,hR,rfl,hwb,hol⟩
 . rintro ⟨⟨q1,q2,_,(k':Int),_⟩,⟨(acc:List Int),_⟩,(b:BxD),(b0:BxD),_⟩ ⟨k,e1,e2,e3,e4,e5,e6,e7⟩;dsimp only at e1 e3 e4 e5 e6 e7 ⊢
   subst e1;refine zac (fun h4=>?_) fun h4=>zab ?_
   . simp only [qab]at h4;have hk:k<rs.length:=by omega
     have w:W ((k:Int)+1)=((k+1:Nat):Int):=by rw [W_id (by omega)];omega
     have hd:rs.drop k=rs.getD k 0::rs.drop (k+1):=by
      rw [qaT hk,qay,qas hk];rfl
     rw [hd]at e4 e5;rw [w,qac];generalize rs.getD k 0=a at e4 e5 ⊢
     obtain ⟨f1,f2,f3⟩:=e4;rw [P.za9]at e5;refine zae (zaf.2 ⟨by omega,h4⟩) (zad (ziH (unfl b) f1 e6 e7 a f2) ?_)
     rintro ⟨⟨(g:WkD),(ad:Int),(e:Int),_⟩,_⟩ ⟨he,had,hg⟩;dsimp only at he had hg ⊢
     rw [<-he,<-had,<-hg]at e5;rw [<-he,<-hg]at f3;refine zac (fun h5=>zab ?_) fun h5=>zae (zak.2 (by simp;omega)) (zab ?_)
     . simp only [qaC,ne_eq]at h5;rw [if_neg h5]at e5;simp only [qak];exact ⟨by trivial,rfl,fun x hx=>(by cases hx),e5.symm⟩
     . simp only [qaA]at h5;rw [if_pos h5]at e5;simp only [qal];refine ⟨⟨k+1,rfl,by omega,by simp;omega,f3 h5,e5,?_,?_⟩,by omega⟩
       . show WBo (toWk g).h.words
         rw [hg];exact zzF f1.pl e6 a
       . show (toWk g).old.length<=_
         rw [hg];rcases zxZ (toWk (unfl b)) a with c | c
         . rw [c];exact e7
         . rw [c];simp
   . simp only [qag]at h4;rw [qbw (by omega),P.za9]at e5
     simp only [qak];exact ⟨e5.symm,e6⟩
 . rintro r hr;refine zaQ (fun x hx=>zab ?_) fun y hy=>zab ?_
   . subst hx;obtain ⟨g1,g2,g3,g4⟩:=hr;rw [g4];exact ⟨rfl,g1,g2,g3⟩
   . subst hy;obtain ⟨g1,g2⟩:=hr;rw [g1];exact ⟨rfl,rfl,rfl,g2⟩
end Go.VI
namespace Go.VI
open Go
theorem zsb(d:WkD)(hwb:WBo d.1.2.1)(hwl:d.1.2.1.length<=100000000)(a:Int)(ha:0<=a/\a<18446744073709551616):Tot (fun r=>toHd r.1.1=P.evH (toWk d) a) (F_r10_Get (d,a,())):=by
 rw [zvL];dsimp only
 obtain ⟨y,hy,hy2⟩:=P.zeQ (show P.WB (toWk d).h.words from hwb) a
 refine zad (zcY d.1.2.1 a hwl ha) ?_;rintro ⟨⟨(wd:Int),_,_⟩,_⟩ ⟨hwd,-⟩;dsimp only at hwd ⊢
 have hwd:wd=(y:Int):=hwd.trans hy
 subst hwd;refine zad (zgo y hy2) ?_;rintro ⟨⟨⟨(dk:Int),(dn:Int),(dm:Int),_⟩,_,_⟩,_⟩ ⟨-,hd⟩;dsimp only at hd ⊢
 simp only [Prod.mk.injEq,qbn]at hd;obtain ⟨h1,h2,h3⟩:=hd;refine zab ?_;unfold P.evH P.evWd;rw [hy,qac,h1,h2,h3];rfl
theorem zvA(x:P.Wk)(A:Int):(P.zdp x A).old=x.old\/(P.zdp x A).old=[]:=zxZ x _
theorem zv9(d:WkD)(k:Nat)(hk:(toWk d).sc=k)(hq:(toWk d).queue[k]?=none\/∃ A,(toWk d).queue[k]?=some A/\0<=A/\A<=1000000/\(toWk d).h.words.length<=100000/\P.StOK (toWk d) A (P.stL (toWk d) A))(hwb:WBo d.1.2.1)(hol:d.2.1.length<=100000000):
 Tot (fun r=>((toWk d).queue[k]?=none->r=((d,false,0,()),()))/\∀ A,(toWk d).queue[k]?=some A->r.1.2.2.1=P.stE (toWk d) A/\(P.stE (toWk d) A=0->r.1.2.1=true/\toWk r.1.1=P.stW (toWk d) A/\WBo r.1.1.1.2.1/\r.1.1.2.1.length<=100000000)) (F_r11_Step (d,())):=by
 have ek:d.2.2.2.2.1=(k:Int):=hk
 have eq:(toWk d).queue=d.2.2.2.1:=rfl
 rw [eq]at hq ⊢
 rw [zs5];dsimp only
 rw [ek,qac];refine zac (fun h1=>zab ?_) fun h1=>?_
 . simp only [qab]at h1;have hn:d.2.2.2.1[k]?=none:=qb1 (by omega)
   refine ⟨fun _=>?_,fun A hA=>by rw [hn]at hA;cases hA⟩
   try rw [<-ek]
   try rfl
 simp only [qag]at h1;have hkl:k<d.2.2.2.1.length:=by omega
 have hx:=getD_some hkl;obtain ⟨A,hA,a0,a1,hwl,hst⟩:∃ A,d.2.2.2.1[k]?=some A/\0<=A/\A<=1000000/\(toWk d).h.words.length<=100000/\P.StOK (toWk d) A (P.stL (toWk d) A):=by
  rcases hq with c | c
  . rw [hx]at c;cases c
  . exact c
 have hD:d.2.2.2.1.getD k 0=A:=by rw [hx]at hA;exact Option.some.inj hA
 rw [hD];have hwl':d.1.2.1.length<=100000:=hwl
 refine zae (zaf.2 ⟨by omega,by omega⟩) (zad (P:=fun r=>toHd r.1.1=P.evH (toWk d) A) ?_ ?_)
 . try rw [<-ek]
   exact zsb d hwb (by omega) A (by omega)
 rintro ⟨⟨⟨(dk:Int),(dn:Int),(dm:Int),_⟩,_⟩,_⟩ hH;dsimp only at hH ⊢
 have e1:(P.evH (toWk d) A).k=dk:=(congrArg P.Hd.k hH).symm
 have e2:(P.evH (toWk d) A).n=dn:=(congrArg P.Hd.n hH).symm
 have e3:(P.evH (toWk d) A).m=dm:=(congrArg P.Hd.m hH).symm
 have hdm:0<=dm/\dm<4294967296:=by rw [<-e3];exact P.zx1 _
 have hdn:dn<=1000000:=by
  rw [<-e2];show P.decN _<=_
  unfold P.decN;split
  . unfold P.dN;omega
  . omega
 refine zad (zn4 dk dn dm hdm hdn) ?_;rintro ⟨⟨(l:List Int),_⟩,_⟩ hl;dsimp only at hl ⊢
 have hL:P.stL (toWk d) A=l:=by unfold P.stL;rw [e1,e2,e3,hl]
 have hlb:∀ i∈l,0<=i/\i<=1000:=fun i hi=>P.stL_bd (by rw [hL];exact hi)
 have hll:l.length<=1000000:=by
  rw [hl];unfold P.zgM;split
  . refine qaB (P.zvE _ _ _ _) (by omega)
  . simp
 have hE:P.stE (toWk d) A=(P.stGo (toWk d) A l).2:=by unfold P.stE;rw [hL]
 have hW:P.stW (toWk d) A={ (P.stGo (toWk d) A l).1 with sc:=RowKit.wrap64 ((P.stGo (toWk d) A l).1.sc+1),r5:=RowKit.wrap64 (RowKit.wrap64 ((P.stGo (toWk d) A l).1.r5+1)+l.length) }:=by unfold P.stW;rw [hL]
 rw [hL]at hst;try rw [<-ek]
 refine zad (P:=fun r=>match r with
  | .inl x=>P.stGo (toWk d) A l=(P.Wk.zero,x.1.2.1)/\¬x.1.2.1=0
  | .inr y=>P.stGo (toWk d) A l=(toWk (unfl y.2.2.1),0)/\WBo y.2.2.1.2.2.1/\(unfl y.2.2.1).2.1.length<=100000000) (zai (fun x=>∃ t:Nat,x.1.2.2.1=(t:Int)/\t<=l.length/\P.StOK (toWk (unfl x.2.2.1)) A (l.drop t)/\P.stGo (toWk (unfl x.2.2.1)) A (l.drop t)=P.stGo (toWk d) A l/\WBo x.2.2.1.2.2.1/\(unfl x.2.2.1).2.1.length<=100000000) (fun x=>((l.length:Int)-x.1.2.2.1).toNat) ?_ ?_) ?_
 . exact ⟨0,rfl,by omega,hst,rfl,hwb,hol⟩
 . rintro ⟨⟨q1,q2,(t':Int),_⟩,_,(b:BxD),(b0:BxD),_⟩ ⟨t,f1,f2,f3,f4,f5,f6⟩;dsimp only at f1 f3 f4 f5 f6 ⊢
   subst f1;refine zac (fun h4=>?_) fun h4=>zab ?_
   . simp only [qab]at h4;have ht:t<l.length:=by omega
     have w:W ((t:Int)+1)=((t+1:Nat):Int):=by rw [W_id (by omega)];omega
     have hd:l.drop t=l.getD t 0::l.drop (t+1):=by
      rw [qaT ht,qay,qas ht];rfl
     have hpb:=hlb _ (zaE (d:=0) ht)
     rw [hd]at f3 f4;rw [w,qac];generalize l.getD t 0=p at f3 f4 hpb ⊢
     obtain ⟨s1,s2⟩:=f3;have u1:U (A+1)=A+1:=U_id (by omega)
     have u2:U p=p:=U_id (by omega)
     have u3:U (A+1+p)=A+1+p:=U_id (by omega)
     rw [u1,u2,u3];have hbw:b.2.2.1.length<=100000:=s1.wl
     refine zae (zaf.2 ⟨by omega,h4⟩) (zad (zcY b.2.2.1 (A+1+p) (by omega) (by omega)) ?_)
     rintro ⟨⟨(v:Int),_,_⟩,_⟩ ⟨hv,-⟩;dsimp only at hv ⊢
     obtain ⟨y,hy,hy2⟩:=P.zeQ (show P.WB (toWk (unfl b)).h.words from f5) (A+1+p)
     have hv':P.zaq (toWk (unfl b)).h.words (A+1+p)=v:=hv.symm
     have hvb:0<=v/\v<18446744073709551616:=by rw [<-hv',hy];omega
     have hnext:P.zdp (toWk (unfl b)) (A+1+p)={ P.evW (toWk (unfl b)) v with h:={ (P.evW (toWk (unfl b)) v).h with words:=P.zaC (P.evW (toWk (unfl b)) v).h.words (A+1+p) [P.evA (toWk (unfl b)) v] } }:=by
      unfold P.zdp;rw [hv']
     have hwbn:=P.wb_next (A:=A+1+p) s1.pl (show P.WB (toWk (unfl b)).h.words from f5) (zzF s1.pl f5 _)
     have holn:=zvA (toWk (unfl b)) (A+1+p);have hwl2:=P.evW_wl (x:=toWk (unfl b)) (n:=100000) s1.wl v
     rw [P.stGo,hv']at f4;rw [hv']at s2;refine zad (ziH (unfl b) s1 f5 f6 v hvb) ?_;rintro ⟨⟨(g:WkD),(ad:Int),(e:Int),_⟩,_⟩ ⟨he,had,hg⟩;dsimp only at he had hg ⊢
     rw [<-he]at f4 s2;rw [<-hg,<-had]at hnext;rw [<-hg]at hwl2;have hwl2:g.1.2.1.length<=100000:=hwl2
     refine zac (fun h5=>zab ?_) fun h5=>zad (zhB g.1.2.1 (A+1+p) ad (by omega) (by omega)) ?_
     . simp only [qaC,ne_eq]at h5;rw [if_neg h5]at f4;simp only [qak];exact ⟨f4.symm,h5⟩
     . simp only [qaA]at h5;rw [if_pos h5]at f4;have s2:=s2 h5;rintro ⟨⟨(w3:List Int),_,_⟩,_⟩ ⟨hw3,-⟩;dsimp only at hw3 ⊢
       have hnew:P.zdp (toWk (unfl b)) (A+1+p)=toWk ((g.1.1,w3,g.1.2.2),g.2):=by
        rw [hnext,hw3];rfl
       rw [hnew]at f4 s2 hwbn holn;refine zab ?_;simp only [qal];refine ⟨⟨t+1,rfl,by omega,s2,f4,hwbn,?_⟩,by omega⟩
       rcases holn with c | c
       . show (toWk ((g.1.1,w3,g.1.2.2),g.2)).old.length<=_
         rw [c];exact f6
       . show (toWk ((g.1.1,w3,g.1.2.2),g.2)).old.length<=_
         rw [c];simp
   . simp only [qag]at h4;rw [qbw (by omega),P.stGo]at f4
     simp only [qak];exact ⟨f4.symm,f5,f6⟩
 . rintro r hr;refine zaQ (fun x hx=>zab ?_) fun y hy=>zab ?_
   . subst hx;obtain ⟨g1,g2⟩:=hr;refine ⟨fun c=>(by rw [hx]at c;cases c),fun A' hA'=>?_⟩
     rw [hA]at hA'
     have:=Option.some.inj hA'
     subst this;rw [hE,g1];exact ⟨rfl,fun c=>absurd c g2⟩
   . subst hy;obtain ⟨g1,g2,g3⟩:=hr;refine ⟨fun c=>(by rw [hx]at c;cases c),fun A' hA'=>?_⟩
     rw [hA]at hA'
     have:=Option.some.inj hA'
     subst this;rw [hE,hW,g1];refine ⟨rfl,fun _=>⟨rfl,?_,g2,g3⟩⟩
     simp only [zkI]
     rfl
end Go.VI
namespace Go.VI
open Go
theorem zo5{X Y:Type}{f:X->Option (X⊕Y)}{x:X}(Inv:Nat->X->Prop){Q:Y->Prop}(n:Nat)(h0:Inv n x)(h:∀ n x,Inv n x->Tot (Sum.elim (fun x'=>∃ m,m<n/\Inv m x') Q) (f x)):Tot Q (runLoop f x):=by
 have key:∀ (n m:Nat) (x:X),m<=n->Inv m x->∃ k y,iter f k x=some y/\Q y:=by
  intro n;induction n with
  | zero=>
   intro m x hm hi;obtain ⟨r,hr,hq⟩:=h m x hi;cases r with
   | inl x'=>obtain ⟨m',hm',-⟩:=hq;omega
   | inr y=>exact ⟨1,y,by simp [iter,hr],hq⟩
  | succ n ih=>
   intro m x hm hi;obtain ⟨r,hr,hq⟩:=h m x hi;cases r with
   | inl x'=>
    obtain ⟨m',hm',hi'⟩:=hq;obtain ⟨k,y,h1,h2⟩:=ih m' x' (by omega) hi'
    exact ⟨k+1,y,by simp [iter,hr,h1],h2⟩
   | inr y=>exact ⟨1,y,by simp [iter,hr],hq⟩
 obtain ⟨k,y,h1,h2⟩:=key n n x (qan _) h0;exact ⟨y,zog h1,h2⟩
theorem zya(d:WkD)(f:Nat)(hA:P.zyi f (toWk d))(hwb:WBo d.1.2.1)(hol:d.2.1.length<=100000000):
 Tot (fun r=>r.1.2.1=(P.allV f (toWk d)).2/\toWk r.1.1=(P.allV f (toWk d)).1/\((P.allV f (toWk d)).2=0->WBo r.1.1.1.2.1/\r.1.1.2.1.length<=100000000)) (F_r11_All (d,())):=by
 rw [zvK];dsimp only
 refine zad (P:=fun r=>r.1.1=(P.allV f (toWk d)).2/\toWk (unfl r.2.2.2.1)=(P.allV f (toWk d)).1/\((P.allV f (toWk d)).2=0->WBo r.2.2.2.1.2.2.1/\(unfl r.2.2.2.1).2.1.length<=100000000)) (zo5 (fun n x=>P.zyi n (toWk (unfl x.2.2.1))/\P.allV n (toWk (unfl x.2.2.1))=P.allV f (toWk d)/\WBo x.2.2.1.2.2.1/\(unfl x.2.2.1).2.1.length<=100000000) f ?_ ?_) fun r hr=>zab hr
 . exact ⟨hA,rfl,hwb,hol⟩
 . rintro n ⟨⟨(e0:Int),_⟩,_,(b:BxD),(b0:BxD),_⟩ ⟨h1,h2,h3,h4⟩;dsimp only at h1 h2 h3 h4 ⊢
   cases n with
   | zero=>exact absurd h1 (by simp [P.zyi])
   | succ n=>
    obtain ⟨k,k1,k2,k3⟩:=h1;refine zad (zv9 (unfl b) k k1 (k3.imp id fun ⟨A,a1,a2,a3,a4,a5,_⟩=>⟨A,a1,a2,a3,a4,a5⟩) h3 h4) ?_
    rintro ⟨⟨(g:WkD),(more:Bool),(e:Int),_⟩,_⟩ ⟨g1,g2⟩;dsimp only at g1 g2 ⊢
    rcases k3 with hn | ⟨A,a1,a2,a3,a4,a5,a6⟩
    . have hr:=g1 hn;simp only [Prod.mk.injEq,qbn]at hr;obtain ⟨hg,hm,he⟩:=hr;rw [P.zvo k1 hn]at h2;rw [he,hm];refine zac (fun c=>by simp at c) fun _=>zac (fun _=>zab ?_) fun c=>by simp at c
      simp only [qak];rw [<-h2];refine ⟨rfl,?_,fun _=>⟨?_,?_⟩⟩
      . show toWk g=toWk (unfl b)
        rw [hg]
      . show WBo g.1.2.1
        rw [hg];exact h3
      . show g.2.1.length<=_
        rw [hg];exact h4
    . obtain ⟨g3,g4⟩:=g2 A a1;rw [P.zx9 k1 a1,<-g3]at h2;rw [<-g3]at g4 a6;refine zac (fun h5=>zab ?_) fun h5=>?_
      . simp only [qaC,ne_eq]at h5;rw [if_neg h5]at h2;simp only [qak];rw [<-h2];exact ⟨rfl,rfl,fun c=>absurd c h5⟩
      . simp only [qaA]at h5;rw [if_pos h5]at h2;obtain ⟨g5,g6,g7,g8⟩:=g4 h5;obtain ⟨-,a7⟩:=a6 h5;rw [<-g6]at h2 a7;rw [g5];refine zac (fun c=>by simp at c) fun _=>zab ?_
        simp only [qal];exact ⟨n,by omega,a7,h2,g7,g8⟩
end Go.VI
