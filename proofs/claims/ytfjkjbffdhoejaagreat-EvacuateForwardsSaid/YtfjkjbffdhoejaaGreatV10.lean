import Derived.Test.YtfjkjbffdhoejaaGreatV04
import Derived.Test.YtfjkjbffdhoejaaGreatV08
import Derived.Test.YtfjkjbffdhoejaaGreatV09
set_option linter.unusedSimpArgs false
set_option linter.unusedVariables false
set_option maxRecDepth 100000
set_option maxHeartbeats 4000000
namespace Go.VI
open Go
theorem zaz{c e:Bool}(h:c=true->e=true):(bif c then e else true)=true:=by cases c <;> simp_all
theorem cor(a b:Bool):(bif a then true else b)=(a || b):=by cases a <;> rfl
theorem cand(a b:Bool):(bif a then b else false)=(a&&b):=by cases a <;> rfl
theorem cimp(a b:Bool):(bif a then b else true)=(!a || b):=by cases a <;> rfl
def confB(pw np:Int):Bool:=decide (16<=pw)&&decide (pw<=64)&&decide (pw.tmod 4=0)&&decide (8<=np)&&decide (np<=64)
theorem zaT{pw np:Int}:confB pw np=true↔16<=pw/\pw<=64/\pw.tmod 4=0/\8<=np/\np<=64:=by simp [confB,and_assoc]
theorem zbj(pw np:Int):F_r04_ValidConf ((pw,np,()),())=some ((confB pw np,()),()):=by
 rw [zkV];dsimp only
 have e1:decide (16<=pw)=decide (pw >= 16):=rfl
 have e2:decide (8<=np)=decide (np >= 8):=rfl
 have e3:decide (pw.tmod 4=0)=(pw.tmod 4 == 0):=by rw [qa8];simp
 simp only [confB,e1,e2,e3];cases decide (pw >= 16) <;> cases decide (pw<=64) <;> cases decide (np >= 8) <;> cases (pw.tmod 4 == 0) <;> rfl
theorem zdm(pw np:Int):F_r04_SmallWords ((pw,np,()),())=some (((if confB pw np then W (pw.tdiv 4) else 0),()),()):=by
 rw [zjx];dsimp only
 rw [zbj];cases confB pw np <;> rfl
theorem zwn(n:Int):F_r04_pins (n,())=some ((decide (0<=n)&&decide (n<=2147483647),()),()):=by
 rw [ztn];dsimp only
 cases h:decide (0<=n) <;> simp [h]
structure HpW (h:HpD):Prop where
 wl:h.2.1.length<=100000000
 pl:h.2.2.1.length<=100000000
 wb:∀ x∈h.2.1,0<=x/\x<18446744073709551616
theorem zaJ{α:Type}{l:List α}{i:Nat}{d:α}(h:i<l.length):l.getD i d∈l:=by
 rw [qax,qaq h];exact qcp h
end Go.VI
namespace Go.VI
open Go
def toPg(x:PgD):P.Pg:=⟨x.1,x.2.1,x.2.2.1,x.2.2.2.1⟩
theorem zaB(ps:List PgD)(i:Nat):(ps.map toPg).getD i P.Pg.zero=toPg (ps.getD i PG0):=by
 rw [qax,qax,qbc];cases ps[i]? <;> rfl
theorem zaD(pw np:Int):P.confB pw np=confB pw np:=by
 rw [qa8,zaT];unfold P.confB;rw [qab];constructor
 . intro h;rw [qb9 (by omega)];omega
 . intro h;have:=h.2.2.1;rw [qb9 (by omega)]at this;omega
theorem zgP(pw np n:Int):Tot (fun r=>r.1.1=P.zat pw np n) (F_r04_Need ((pw,np,()),n,())):=by
 rw [ztq];dsimp only
 rw [zbj,qaa];dsimp only;rw [cor];refine zac (fun h1=>zab ?_) fun h1=>?_
 . rw [P.zhw];simp only [qaZ,qar,qab]at h1;rw [zaD];exact h1
 rw [zdm,qaa];dsimp only;simp only [qaQ,qaw,qag]at h1;obtain ⟨hc,h1⟩:=h1;have c:=zaT.1 hc;have hq:W (pw.tdiv 4)=pw / 4:=by rw [qbB (by omega)];exact W_id (by omega)
 rw [hc,if_pos rfl,hq,P.zhv (by rw [zaD];exact hc) (by omega)]
 unfold P.zeS;refine zac (fun h2=>zab ?_) fun h2=>?_
 . rw [if_pos (by simpa using h2)]
 simp only [qag]at h2;rw [if_neg h2];refine zad (P:=fun r=>match r with
  | .inl x=>x.1.1=if n<=pw then 1 else if n<=2*pw then 2 else if n<=3*pw then 3 else if n<=4*pw then 4 else -1
  | .inr _=>4*pw<n) (zai (fun x=>1<=x.1.2.1/\x.1.2.1<=5/\(x.1.2.1-1)*pw<n) (fun x=>(5-x.1.2.1).toNat) ?_ ?_) ?_
 . dsimp only;omega
 . rintro ⟨⟨a,k,_⟩,_⟩ ⟨h3,h4,h5⟩;dsimp only at h3 h4 h5 ⊢
   have hk:k=1\/k=2\/k=3\/k=4\/k=5:=by omega
   have hw:W (k*pw)=k*pw:=W_id (by rcases hk with e | e | e | e | e <;> subst e <;> omega)
   have hw1:W (k+1)=k+1:=W_id (by omega)
   rw [hw];refine zac (fun h6=>zac (fun h7=>zab ?_) fun h7=>zab ?_) fun h6=>zab ?_
   . simp only [qab,qal] at *
     rcases hk with e | e | e | e | e <;> subst e <;> first | (split <;> omega) | omega
   . simp only [qab,qag,qam,hw1] at *
     rcases hk with e | e | e | e | e <;> subst e <;> omega
   . simp only [qag,qal] at *
     have:k=5:=by omega
     subst this;omega
 . rintro r hr;refine zaR (fun a ha=>?_) fun b hb=>zab ?_
   . subst ha;exact zab hr
   . subst hb;dsimp only at hr ⊢
     rw [if_neg (by omega),if_neg (by omega),if_neg (by omega),if_neg (by omega)]
theorem zub(ps:List PgD)(i:Nat)(s:Int)(hi:i<ps.length)(hl:ps.length<=100000000):Tot (fun r=>r.1.1=(P.zhk s ((ps.map toPg).drop (i+1)):Int)) (F_r04_tails (ps,(i:Int),s,())):=by
 rw [zrm];dsimp only
 refine zad (P:=fun r=>r.1.1=(P.zhk s ((ps.map toPg).drop (i+1)):Int)) (zai (fun x=>∃ k n:Nat,x.1.1=(n:Int)/\x.1.2.1=(k:Int)/\k<=ps.length/\n<=k/\n+P.zhk s ((ps.map toPg).drop k)=P.zhk s ((ps.map toPg).drop (i+1))) (fun x=>((ps.length:Int)-x.1.2.1).toNat) ?_ ?_) fun r hr=>zab hr
 . have:W ((i:Int)+1)=i+1:=W_id (by omega)
   exact ⟨i+1,0,rfl,by dsimp only;omega,by omega,by omega,by omega⟩
 . rintro ⟨⟨n',k',_⟩,_⟩ ⟨k,n,e1,e2,h1,h2,h3⟩;dsimp only at e1 e2 ⊢
   subst e1 e2;have w1:W ((n:Int)+1)=n+1:=W_id (by omega)
   have w2:W ((k:Int)+1)=k+1:=W_id (by omega)
   simp only [w1,w2,qac,cand];refine zae ?_ (zae ?_ (zac (fun h4=>zab ?_) fun h4=>zab ?_))
   . exact zaz fun h=>zag.2 (by simp only [qab]at h;omega)
   . exact zaz fun h=>zaz fun _=>zag.2 (by simp only [qab]at h;omega)
   . simp only [qae,qab,qaz]at h4;obtain ⟨q1,q2,q3⟩:=h4;have hk:k<(ps.map toPg).length:=by rw [qaj];omega
     simp only [qam];refine ⟨⟨k+1,n+1,by omega,by omega,by omega,by omega,?_⟩,by omega⟩
     have e:(ps.map toPg)[k]=toPg (ps.getD k PG0):=by
      rw [<-zaB,qax,qaq hk];rfl
     rw [<-h3,qaU hk,P.zhk,e,if_pos ⟨q2,q3⟩];omega
   . simp only [qal];rw [<-h3];have:P.zhk s ((ps.map toPg).drop k)=0:=by
      by_cases hk:k<(ps.map toPg).length
      . have e:(ps.map toPg)[k]=toPg (ps.getD k PG0):=by
         rw [<-zaB,qax,qaq hk];rfl
        rw [qaU hk,P.zhk,e,if_neg];rintro ⟨q2,q3⟩;rw [qaj]at hk;rw [show decide ((k:Int)<(ps.length:Int))=true from qad (by omega)]at h4
        simp only [toPg]at q2 q3;rw [q2,q3]at h4;simp at h4
      . rw [qbx (by omega)];rfl
     omega
theorem pins_eq(n:Int):(decide (0<=n)&&decide (n<=2147483647))=P.zf1 n:=by
 unfold P.zf1;rw [qa8];simp
def toHp(h:HpD):P.Hp:=⟨h.1.1,h.1.2.1,h.2.1,h.2.2.1.map toPg,h.2.2.2.1,h.2.2.2.2.1⟩
def zxf(h:HpD):Bool:=P.zfc h.1.1 h.1.2.1 h.2.1.length (h.2.2.1.map toPg) h.2.2.2.1 h.2.2.2.2.1
theorem zzH(a:Int):(if a > 0 then a else 0)=max 0 a:=by split <;> omega
theorem za3(h:HpD)(hw:HpW h):Tot (fun r=>r.1.1=zxf h) (F_r04_Proper (h,())):=by
 obtain ⟨⟨pw,np,_⟩,ws,ps,sp,bu,_⟩:=h;have hl:=hw.pl;have hwl:=hw.wl;dsimp only at hl hwl
 unfold zxf;dsimp only;rw [zpB];dsimp only
 rw [zbj,qaa];dsimp only;simp only [cor,cand,cimp];have hlm:(ps.map toPg).length=ps.length:=qaj ..
 refine zac (fun h1=>zab ?_) fun h1=>?_
 . unfold P.zfc;rw [zaD];cases hc:confB pw np
   . rfl
   have c2:=zaT.1 hc;have cm:0<=np*pw/\np*pw<=4096:=⟨qbl (by omega) (by omega),by
    calc np*pw<=64*pw:=qaV (by omega) (by omega)
     _<=64*64:=qcH (by omega) (by omega)⟩
   have cw:W (np*pw)=np*pw:=W_id (by omega)
   rw [hc,cw]at h1;simp only [qaZ,qbA,qbm,false_or,qaC,ne_eq,qab]at h1;rw [hlm];dsimp only;symm
   rw [qbC,qbC,qbC,qbC,qbC,qag,qag,qag];rcases h1 with h1 | h1 | h1 | h1
   . exact .inl (.inl (.inl (.inl (.inr h1))))
   . exact .inl (.inl (.inl (.inr h1)))
   . exact .inl (.inl (.inr (by omega)))
   . exact .inl (.inl (.inr (by omega)))
 simp only [qaQ,qaw,qag,qaB]at h1;obtain ⟨c1,h1a,h1b,h1c,h1d⟩:=h1;have c2:=zaT.1 c1;have cm:0<=np*pw/\np*pw<=4096:=⟨qbl (by omega) (by omega),by
  calc np*pw<=64*pw:=qaV (by omega) (by omega)
   _<=64*64:=qcH (by omega) (by omega)⟩
 have cw:W (np*pw)=np*pw:=W_id (by omega)
 rw [cw]at h1a;have hpre:P.zfc pw np ws.length (ps.map toPg) sp bu=(P.zgo (ps.map toPg) bu&&P.zaG pw np (ps.map toPg) 0):=by
  unfold P.zfc;rw [zaD,c1,hlm,qad h1a,qad h1b,qad (show 0<=sp/\sp<=1 by omega)]
  rfl
 rw [hpre];refine zae ?_ (zac (fun h2=>zab ?_) fun h2=>?_)
 . by_cases q1:bu = -1
   . simp [q1]
   . by_cases q2:bu<0
     . simp [q2]
     . by_cases q3:bu >= (ps.length:Int)
       . simp [q3]
       . simp [inB];omega
 . simp only [qae,qaC,ne_eq,qaZ,qab]at h2;have:P.zgo (ps.map toPg) bu=false:=by
    unfold P.zgo;rw [hlm,zaB];refine qai ?_;simp only [toPg];rintro (e | ⟨e1,e2,e3⟩)
    . exact h2.1 e
    . rcases h2.2 with h | h | h
      . omega
      . omega
      . exact h e3
   rw [this];rfl
 have hbump:P.zgo (ps.map toPg) bu=true:=by
  unfold P.zgo;rw [hlm,zaB];refine qad ?_;simp only [toPg];simp only [qbC,qaB,qaQ,qag]at h2;rcases h2 with h2 | ⟨a,b,c⟩
  . exact .inl h2
  . exact .inr ⟨by omega,by omega,c⟩
 rw [hbump,qaY];refine zad (P:=fun r=>match r with
  | .inl x=>x.1.1=false/\P.zaG pw np (ps.map toPg) 0=false
  | .inr y=>P.zaG pw np (ps.map toPg) 0=true) (zai (fun x=>0<=x.1.2.1/\x.1.2.1<=1000/\∃ k:Nat,x.1.2.2.1=(k:Int)/\k<=ps.length/\P.zaG pw np ((ps.map toPg).drop k) x.1.2.1=P.zaG pw np (ps.map toPg) 0) (fun x=>((ps.length:Int)-x.1.2.2.1).toNat) ⟨by dsimp only;omega,by dsimp only;omega,0,rfl,by omega,rfl⟩ ?_) ?_
 . rintro ⟨⟨(b:Bool),(due:Int),(i:Int),_⟩,_⟩ ⟨d0,d1,k,e,hk,hp⟩;dsimp only at d0 d1 e hk hp ⊢
   subst e;refine zac (fun h3=>?_) fun h3=>zab ?_
   . simp only [qab]at h3;have wi:W ((k:Int)+1)=k+1:=W_id (by omega)
     have wd:W (due-1)=due-1:=W_id (by omega)
     have hkm:k<(ps.map toPg).length:=by omega
     have ek:(ps.map toPg)[k]?=some (toPg (ps.getD k PG0)):=by
      rw [<-zaB,qax,qaq hkm];rfl
     rw [P.zs2 ek]at hp;rw [wi,wd,qac];generalize hX:ps.getD k PG0=X at *
     obtain ⟨xk,xs,xu,xp,_⟩:=X;dsimp only;refine zae (zag.2 ⟨by omega,h3⟩) ?_
     have bad:P.zcr pw np (toPg (xk,xs,xu,xp,())) ((ps.map toPg).drop (k+1)) due=none->Tot (Sum.elim (fun x':AE×Unit×Unit=>(0<=x'.1.2.1/\x'.1.2.1<=1000/\∃ k:Nat,x'.1.2.2.1=(k:Int)/\k<=ps.length/\P.zaG pw np ((ps.map toPg).drop k) x'.1.2.1=P.zaG pw np (ps.map toPg) 0)/\((ps.length:Int)-x'.1.2.2.1).toNat<((ps.length:Int)-(k:Int)).toNat) fun (r:A8)=>match r with
      | .inl x=>x.1.1=false/\P.zaG pw np (ps.map toPg) 0=false
      | .inr y=>P.zaG pw np (ps.map toPg) 0=true) (some (Sum.inr (Sum.inl ((false,()),(),())))):=fun hs=>by
      rw [hs]at hp;exact zab ⟨rfl,hp.symm⟩
     have good:∀ (d:Int),0<=d->d<=1000->P.zcr pw np (toPg (xk,xs,xu,xp,())) ((ps.map toPg).drop (k+1)) due=some d->Tot (Sum.elim (fun x':AE×Unit×Unit=>(0<=x'.1.2.1/\x'.1.2.1<=1000/\∃ k:Nat,x'.1.2.2.1=(k:Int)/\k<=ps.length/\P.zaG pw np ((ps.map toPg).drop k) x'.1.2.1=P.zaG pw np (ps.map toPg) 0)/\((ps.length:Int)-x'.1.2.2.1).toNat<((ps.length:Int)-(k:Int)).toNat) fun (r:A8)=>match r with
      | .inl x=>x.1.1=false/\P.zaG pw np (ps.map toPg) 0=false
      | .inr y=>P.zaG pw np (ps.map toPg) 0=true) (some (Sum.inl ((b,d,(k:Int)+1,()),(),()))):=fun d q0 q1 hs=>by
      rw [hs]at hp;refine zab ?_;simp only [qam];exact ⟨⟨q0,q1,k+1,by omega,by omega,hp⟩,by omega⟩
     have st:∀ r,P.zcr pw np (toPg (xk,xs,xu,xp,())) r due=if ¬(xk=3↔0<due)\/xs<0\/1<xs\/P.zf1 xp=false then none
      else if xk=0 then (if toPg (xk,xs,xu,xp,())=P.Pg.zero then some (max 0 (due-1)) else none)
      else if xk=1 then (if xu<0\/pw<xu then none else some (max 0 (due-1)))
      else if xk=2 then (if P.zat pw np xu<1\/(P.zhk xs r:Int)<P.zat pw np xu-1 then none else some (max 0 (P.zat pw np xu-1)))
      else if xk=3 then (if xu=0/\xp=0 then some (max 0 (due-1)) else none)
      else none:=fun _=>rfl
     rw [st]at bad good;rw [zwn,qaa];dsimp only;rw [pins_eq,zzH];have hm:0<=max 0 (due-1)/\max 0 (due-1)<=1000:=by omega
     refine zac (fun h4=>bad ?_) fun h4=>zac (fun h5=>bad ?_) fun h5=>zac (fun h6=>bad ?_) fun h6=>zac (fun h7=>bad ?_) fun h7=>?_
     . refine if_pos (.inl fun h8=>?_)
       simp only [qar,qaI,ne_eq]at h4;refine h4 ?_;rw [qa8];simp [h8]
     . rw [if_pos (.inr (.inl (by simpa using h5)))]
     . rw [if_pos (.inr (.inr (.inl (by simpa using h6))))]
     . rw [if_pos (.inr (.inr (.inr (by simpa using h7))))]
     have hA:¬(¬(xk=3↔0<due)\/xs<0\/1<xs\/P.zf1 xp=false):=by
      simp only [qaw,qaz,qag]at h4 h5 h6 h7;rw [qa8]at h4;simp only [qaz,qab]at h4;rintro (q | q | q | q)
      . exact q h4
      . omega
      . omega
      . rw [h7]at q;cases q
     rw [if_neg hA]at bad good;refine zac (fun k0=>?_) fun k0=>?_
     . simp only [qaz]at k0;rw [if_pos k0]at bad good;refine zac (fun h8=>bad ?_) fun h8=>good _ hm.1 hm.2 ?_
       . rw [if_neg];intro e;simp only [toPg,P.Pg.zero,P.Pg.mk.injEq]at e;obtain ⟨e1,e2,e3,e4⟩:=e;subst e1 e2 e3 e4;simp at h8
       . rw [if_pos];simp only [qaw,qae,qaz,qbn]at h8;simp only [toPg,P.Pg.zero,P.Pg.mk.injEq];exact h8
     simp only [qaI,ne_eq]at k0;rw [if_neg k0]at bad good;refine zac (fun k1=>?_) fun k1=>?_
     . simp only [qaz]at k1;rw [if_pos k1]at bad good;refine zac (fun h8=>bad ?_) fun h8=>good _ hm.1 hm.2 ?_
       . rw [if_pos];simpa using h8
       . rw [if_neg];simp only [qaQ,qag]at h8;omega
     simp only [qaI,ne_eq]at k1;rw [if_neg k1]at bad good;refine zac (fun k2=>?_) fun k2=>?_
     . simp only [qaz]at k2;rw [if_pos k2]at bad good;refine zad (zgP pw np xu) fun r hr=>?_
       obtain ⟨⟨(n:Int),_⟩,_⟩:=r;dsimp only at hr ⊢
       rw [<-hr]at bad good;have hn:=P.zgf (pw:=pw) (np:=np) (n:=xu)
       refine zac (fun h8=>bad ?_) fun h8=>?_
       . rw [if_pos];left;simpa using h8
       simp only [qag]at h8;have wn:W (n-1)=n-1:=W_id (by omega)
       rw [wn,zzH];refine zad (zub ps k xs (by omega) hl) fun r2 hr2=>?_
       obtain ⟨⟨(t:Int),_⟩,_⟩:=r2;dsimp only at hr2 ⊢
       rw [<-hr2]at bad good;refine zac (fun h9=>bad ?_) fun h9=>good _ (by omega) (by omega) ?_
       . rw [if_pos];right;simpa using h9
       . simp only [qag]at h9;rw [if_neg (by omega)]
     simp only [qaI,ne_eq]at k2;rw [if_neg k2]at bad good;refine zac (fun k3=>?_) fun k3=>bad ?_
     . simp only [qaz]at k3;rw [if_pos k3]at bad good;refine zac (fun h8=>bad ?_) fun h8=>good _ hm.1 hm.2 ?_
       . rw [if_neg];simp only [qaZ,qaC,ne_eq]at h8;omega
       . rw [if_pos];simp only [qaQ,qaB]at h8;exact h8
     . simp only [qaI,ne_eq]at k3;rw [if_neg k3]
   . simp only [qag]at h3;rw [qbx (by omega)]at hp
     simp only [qal];exact hp.symm
 . intro r hr;refine zaR (fun a ha=>?_) fun b hb=>?_
   . subst ha;exact zab (by rw [hr.2];exact hr.1)
   . subst hb;exact zab hr.symm
end Go.VI
namespace Go.VI
open Go
structure NextP (l:List Int) (at' n:Int) (r:An):Prop where
 lo:0<=r.1.1
 hi:1<=n->r.1.1<n
 z:n<1->r.1.1=0
 l:r.2.1.1=l
 a0:at'<=r.2.1.2.1
 a1:r.2.1.2.1<=at'+1
 a2:1<=n->r.2.1.2.1=at'+1
theorem zaq(l:List Int)(a n:Int)(h0:0<=a)(h1:a<=1000000000)(hn:n<=4611686018427387904):Tot (NextP l a n) (F_made_Tape_Next ((l,a,()),n,())):=by
 rw [zcW];dsimp only
 refine zac (fun h=>zab ?_) fun h=>?_
 . simp only [qab]at h;exact ⟨by simp,fun _=>by omega,fun _=>rfl,rfl,by simp,by simp;omega,fun _=>by omega⟩
 . simp only [qag]at h;have hn0:(!n == 0)=true:=by simp;omega
   refine zae (zaz fun h=>zag.2 (by simp only [qab]at h;omega)) (zae hn0 (zae hn0 (zab ?_)))
   generalize (bif decide (a<(l.length:Int)) then l.getD a.toNat 0 else W (W (a*7)+3))=v
   have b1:v.tmod n<n:=qcl _ (by omega)
   have b2 : -n<v.tmod n:=by
    have:=Int.neg_tmod (-v) n
    have:=qcl (-v) (show 0<n by omega)
    have h3:(-v).tmod n = -(v.tmod n):=Int.neg_tmod v n
    omega
   have w:W (v.tmod n+n)=v.tmod n+n:=W_id (by omega)
   have wa:W (a+1)=a+1:=W_id (by omega)
   rw [w,wa];have e:(v.tmod n+n).tmod n=(v.tmod n+n) % n:=qb9 (by omega)
   rw [e];exact ⟨Int.emod_nonneg _ (by omega),fun _=>Int.emod_lt_of_pos _ (by omega),fun _=>by omega,rfl,by dsimp only;omega,by dsimp only;omega,fun _=>rfl⟩
theorem conf_prod{pw np:Int}(h:confB pw np=true):128<=np*pw/\np*pw<=4096:=by
 have c2:=zaT.1 h;refine ⟨?_,?_⟩
 . calc (128:Int)=8*16:=rfl
    _<=np*16:=qaV (by omega) (by omega)
    _<=np*pw:=qcH (by omega) (by omega)
 . calc np*pw<=64*pw:=qaV (by omega) (by omega)
    _<=64*64:=qcH (by omega) (by omega)
theorem zfE(l:List Int)(a:Int):F_made_Tape_Done ((l,a,()),())=some ((decide (a >= (l.length:Int)),()),(l,a,()),()):=by rw [zjA]
def zds(ps:List PgD)(i k:Int):Prop:=0<=i/\0<=k/\i+k<=ps.length/\∀ j:Int,i<=j->j<i+k->(ps.getD j.toNat PG0).1=0
def RunsP(ps:List PgD)(rs:List Ag):Prop:=∀ r∈rs,1<=r.2.1/\zds ps r.1 r.2.1
theorem mem_set{α:Type}{l:List α}{i:Nat}{v x:α}(h:x∈l.set i v):x∈l\/x=v:=List.mem_or_eq_of_mem_set h
end Go.VI
namespace Go.VI
open Go
theorem zaF{ps:List PgD}{k:Nat}(h:k<ps.length):(ps.map toPg)[k]?=some (toPg (ps.getD k PG0)):=by
 have hk:k<(ps.map toPg).length:=by rw [qaj];exact h
 rw [<-zaB,qax,qaq hk];rfl
theorem zmY(pw np:Int):Tot (fun r=>r.1.1=P.zhb pw np) (F_r04_Limit ((pw,np,()),())):=by
 rw [zrn];dsimp only
 rw [zbj,qaa];dsimp only;refine zac (fun h=>zab ?_) fun h=>zae rfl (zab ?_)
 . rw [P.zy5];simpa [zaD] using h
 . simp only [qaw]at h;have c:=zaT.1 h;rw [P.zy4 (by rw [zaD];exact h)]
   dsimp only;rw [qbB (by omega)]
   exact W_id (by omega)
theorem zmZ(ps:List PgD)(hl:ps.length<=100000000):Tot (fun r=>r.1.1=(P.zbe (ps.map toPg):Int)) (F_r04_InUse (ps,())):=by
 rw [zrp];dsimp only
 refine zad (P:=fun r=>r.1.1=(P.zbe (ps.map toPg):Int)) (zai (fun x=>∃ k:Nat,x.1.2.1=(k:Int)/\k<=ps.length/\x.1.1=(P.zbe ((ps.map toPg).take k):Int)) (fun x=>((ps.length:Int)-x.1.2.1).toNat) ⟨0,rfl,by omega,by simp [P.zbe]⟩ ?_) fun r hr=>zab hr
 rintro ⟨⟨(n:Int),(i:Int),_⟩,_⟩ ⟨k,e,hk,e2⟩;dsimp only at e e2 ⊢
 subst e e2;have hle:=P.ziz ((ps.map toPg).take k);rw [qau]at hle;refine zac (fun h=>?_) fun h=>zab ?_
 . simp only [qab]at h;have hk:k<ps.length:=by omega
   have w2:W ((k:Int)+1)=k+1:=W_id (by omega)
   have w1:W ((P.zbe ((ps.map toPg).take k):Int)+1)=P.zbe ((ps.map toPg).take k)+1:=W_id (by omega)
   refine zae (zag.2 ⟨by omega,h⟩) (zab ?_)
   rw [w1,w2,qac];simp only [qam];refine ⟨⟨k+1,by omega,by omega,?_⟩,by omega⟩
   rw [P.zoH (zaF hk)];have:(toPg (ps.getD k PG0)).kind=(ps.getD k PG0).1:=rfl
   rw [this];cases hc:((ps.getD k PG0).1 != 0)
   . simp only [qaB]at hc;rw [if_pos hc];simp
   . simp only [qaC,ne_eq]at hc;rw [if_neg hc];simp
 . simp only [qag]at h;simp only [qal];rw [qa3 (by rw [qaj];omega)]
def toR(r:Ag):Int×Int:=(r.1,r.2.1)
theorem zwj(ps:List PgD)(hl:ps.length<=1000000):Tot (fun r=>r.1.1.map toR=P.zlW (ps.map toPg)) (F_r04_Runs (ps,())):=by
 rw [ztp];dsimp only
 refine zad (P:=fun r=>r.2.1.1.map toR=P.zlW (ps.map toPg)) (zai (fun x=>∃ k:Nat,x.1.2.1=(k:Int)/\k<=ps.length/\x.2.1.1.map toR=P.zbg (ps.map toPg) k) (fun x=>((ps.length:Int)-x.1.2.1).toNat) ⟨0,rfl,by omega,rfl⟩ ?_) fun r hr=>zab hr
 rintro ⟨⟨_,(i:Int),_⟩,⟨rs,_⟩,_⟩ ⟨k,e,hk,e2⟩;dsimp only at e e2 ⊢
 subst e;refine zac (fun h=>?_) fun h=>zab ?_
 rotate_left
 . simp only [qag]at h;simp only [qal];rw [e2,P.zlW,show (ps.map toPg).length=k by rw [qaj];omega]
 simp only [qab]at h;have hk:k<ps.length:=by omega
 have w1:W ((k:Int)+1)=k+1:=W_id (by omega)
 have hstep:=P.zcV (zaF hk);have hlen:=P.zlt (ps.map toPg) k;rw [<-e2,qaj]at hlen;have hkind:(toPg (ps.getD k PG0)).kind=(ps.getD k PG0).1:=rfl
 rw [w1,qac];refine zae (zag.2 ⟨by omega,h⟩) (zac (fun h4=>zab ?_) fun h4=>?_)
 . simp only [qaC,ne_eq]at h4;simp only [qam];exact ⟨⟨k+1,by omega,by omega,by rw [hstep,P.zeD (by rw [hkind];exact h4),e2]⟩,by omega⟩
 simp only [qaB]at h4;have hz:(toPg (ps.getD k PG0)).kind=0:=h4
 rcases qcg rs with e3 | ⟨pre,g,e3⟩
 . subst e3;rw [show decide (((([]:List Ag)).length:Int) > 0)=false from rfl]
   simp only [qaf];refine zae rfl (zae rfl (zae rfl (zae rfl (zae (zak.2 (by simp)) (zab ?_)))))
   simp only [qam];refine ⟨⟨k+1,by omega,by omega,?_⟩,by omega⟩
   rw [hstep,<-e2];exact (P.zdL hz).symm
 . rw [qcw]at e3;subst e3;obtain ⟨gf,gl,_⟩:=g;rw [qa2,qaX,List.map_nil]at e2;have hmem:toR (gf,gl,())∈P.zbg (ps.map toPg) k:=by rw [<-e2];simp
   obtain ⟨b1,b2,b3⟩:=P.zpf _ _ _ hmem;simp only [toR]at b1 b2 b3;rw [qaD,qaJ,qbM]at hlen ⊢
   have wl:W (((pre.length+(0+1):Nat):Int)-1)=pre.length:=by rw [W_id (by omega)];omega
   have hg:(pre++[(gf,gl,())]).getD pre.length (0,0,())=(gf,gl,()):=by
    rw [qax,qbo (qao _),qbG];rfl
   have w3:W (gf+gl)=gf+gl:=W_id (by omega)
   have w4:W (gl+1)=gl+1:=W_id (by omega)
   rw [wl,qac,hg];dsimp only;rw [w3,w4,show decide (((pre.length+(0+1):Nat):Int) > 0)=true from qad (by omega)]
   simp only [qah];have hin:inB (pre.length:Int) (pre.length+(0+1))=true:=zag.2 ⟨by omega,by omega⟩
   refine zae hin (zae hin (zae (zaz fun _=>hin) (zae (zaz fun _=>hin) (zae ?_ (zac (fun hc=>zab ?_) fun hc=>zab ?_)))))
   . rw [cor,qaZ];exact .inr (zak.2 (by simp only [qaJ,qbM];omega))
   . simp only [qaz]at hc;simp only [qam];refine ⟨⟨k+1,by omega,by omega,?_⟩,by omega⟩
     rw [hstep,<-e2,P.zde hz hc,List.set_append_right _ _ (qao _),qbG];simp [toR]
   . simp only [qaI,ne_eq]at hc;simp only [qam];refine ⟨⟨k+1,by omega,by omega,?_⟩,by omega⟩
     rw [hstep,<-e2,P.zdM hz hc];simp [toR]
theorem zhF(ps:List PgD)(k:Int)(hl:ps.length<=1000000):Tot (fun r=>r.1.1=P.zau (ps.map toPg) k) (F_r04_First (ps,k,())):=by
 rw [zrq];dsimp only
 refine zad (zwj ps hl) ?_;rintro ⟨⟨(rs:List Ag),_⟩,_⟩ h0;dsimp only at h0 ⊢
 have hlen:=P.zlt (ps.map toPg) (ps.map toPg).length;rw [show P.zbg (ps.map toPg) (ps.map toPg).length=rs.map toR from h0.symm,qaj,qaj]at hlen
 rw [P.zhy,<-h0];refine zad (P:=fun r=>match r with
  | .inl x=>x.1.1=P.zaY k (rs.map toR)
  | .inr _=>P.zaY k (rs.map toR) = -1) (zai (fun x=>∃ i:Nat,x.1.2.1=(i:Int)/\i<=rs.length/\P.zaY k ((rs.map toR).drop i)=P.zaY k (rs.map toR)) (fun x=>((rs.length:Int)-x.1.2.1).toNat) ⟨0,rfl,by omega,rfl⟩ ?_) ?_
 . rintro ⟨⟨(a:Int),(j:Int),_⟩,_⟩ ⟨i,e,hi,he⟩;dsimp only at e ⊢
   subst e;refine zac (fun h=>?_) fun h=>zab ?_
   . simp only [qab]at h;have hi:i<rs.length:=by omega
     have w1:W ((i:Int)+1)=i+1:=W_id (by omega)
     have hat:(rs.map toR)[i]?=some (toR (rs.getD i (0,0,()))):=by
      rw [qbc,qax,qaq hi];rfl
     rw [P.zkw hat]at he;rw [w1,qac];have hb:inB (i:Int) rs.length=true:=zag.2 ⟨by omega,h⟩
     refine zae (zaz fun _=>hb) (zae (zaz fun _=>hb) (zac (fun hc=>zab ?_) fun hc=>zab ?_))
     . simp only [cand,qae,qab]at hc;rw [if_pos ⟨by omega,show k<=(rs.getD i (0,0,())).2.1 by omega⟩]at he
       simp only [qal];exact he
     . simp only [cand,qbC,qag]at hc;rw [if_neg (by simp only [toR];omega)]at he
       simp only [qam];exact ⟨⟨i+1,by omega,by omega,he⟩,by omega⟩
   . simp only [qag]at h;rw [P.ziD (by rw [qaj];omega)]at he
     simp only [qal];exact he.symm
 . rintro r hr;refine zaR (fun a ha=>?_) fun b hb=>zab ?_
   . subst ha;exact zab hr
   . subst hb;exact hr.symm
end Go.VI
namespace Go.VI
open Go
def WBo(l:List Int):Prop:=∀ x∈l,0<=x/\x<18446744073709551616
theorem WBo.set{l:List Int}(h:WBo l){i:Nat}{v:Int}(hv:0<=v/\v<18446744073709551616):WBo (l.set i v):=fun x hx=>(mem_set hx).elim (h x) fun e=>e ▸ hv
theorem WBo.getD{l:List Int}(h:WBo l)(i:Nat):0<=l.getD i 0/\l.getD i 0<18446744073709551616:=by
 by_cases hi:i<l.length
 . exact h _ (zaJ hi)
 . rw [qax,qbV (by omega)];simp
end Go.VI
namespace Go.VI
open Go
theorem zod{ps out:List PgD}{i n:Nat}{b:PgD}(h:i+n<ps.length)(ho:out.map toPg=P.put (ps.map toPg) i n (toPg b)):
 out.length=ps.length/\toPg (out.getD (i+n) PG0)=toPg (ps.getD (i+n) PG0)/\(out.set (i+n) b).map toPg=P.put (ps.map toPg) i (n+1) (toPg b):=by
 have hl:out.length=ps.length:=by
  have:=congrArg List.length ho
  rwa [P.zfb (by rw [qaj];omega),qaj,qaj]at this
 refine ⟨hl,?_,?_⟩
 . have this:(out.map toPg)[i+n]?=_:=congrArg (fun l=>l[i+n]?) ho
   rw [P.zdO (by rw [qaj];omega) (by omega),zaF (by omega),zaF (by omega)]at this
   exact Option.some.inj this
 . rw [qba,ho,P.zyH (by rw [qaj];omega)]
theorem zwi(ps:List PgD)(i k:Int)(a b:PgD)(hl:ps.length<=1000000)(hk : -1000000<=k/\k<=1000000)(hi : -1000000000<=i/\i<=1000000000):
 Tot (fun r=>r.1.1.map toPg=P.zhj (ps.map toPg) i k (toPg a) (toPg b)/\r.1.2.1=P.zkR (ps.map toPg) i k) (F_r04_take (ps,i,k,a,b,())):=by
 obtain ⟨b1,b2,b3,b4,_⟩:=b;obtain ⟨a1,a2,a3,a4,_⟩:=a;rw [ztm];dsimp only
 simp only [cor];have hlm:(ps.map toPg).length=ps.length:=qaj ..
 have w0:i<ps.length->0<=i->W ((ps.length:Int)-i)=(ps.length:Int)-i:=fun _ _=>W_id (by omega)
 refine zac (fun h=>zab ?_) fun h=>?_
 . obtain ⟨e1,e2⟩:=P.zyx (ps:=ps.map toPg) (i:=i) (k:=k) (x:=toPg (a1,a2,a3,a4,())) (y:=toPg (b1,b2,b3,b4,())) (by
    rw [hlm];simp only [qaZ,qab]at h;rintro ⟨q1,q2,q3⟩;rw [w0 q2 q1]at h;omega)
   rw [e1,e2];exact ⟨rfl,rfl⟩
 simp only [qaQ,qag]at h;obtain ⟨h1,h2,h3⟩:=h;rw [w0 (by omega) (by omega)]at h3
 obtain ⟨j,rfl⟩:=qaP (show 0<=i by omega)
 have hC:0<=(j:Int)/\(j:Int)<(ps.map toPg).length/\k<=(ps.map toPg).length-(j:Int):=by rw [hlm];omega
 have hfr:∀ m:Nat,P.zcB (ps.map toPg) j m=true->k.toNat=m->P.zhj (ps.map toPg) j k (toPg (a1,a2,a3,a4,())) (toPg (b1,b2,b3,b4,()))=(P.put (ps.map toPg) j m (toPg (b1,b2,b3,b4,()))).set j (toPg (a1,a2,a3,a4,()))/\P.zkR (ps.map toPg) j k=0:=fun m hf hm=>by
  unfold P.zhj P.zkR;rw [if_pos hC,if_pos hC,hm,qac,if_pos hf,if_pos hf];exact ⟨rfl,rfl⟩
 have hno:P.zcB (ps.map toPg) j k.toNat=false->P.zhj (ps.map toPg) j k (toPg (a1,a2,a3,a4,())) (toPg (b1,b2,b3,b4,()))=[]/\P.zkR (ps.map toPg) j k=20:=fun hf=>by
  unfold P.zhj P.zkR;rw [if_pos hC,if_pos hC,qac,hf];exact ⟨rfl,rfl⟩
 refine zae (zak.2 (by omega)) (zad (P:=fun r=>match r with
  | .inl x=>x.1.1=[]/\x.1.2.1=20/\P.zcB (ps.map toPg) j k.toNat=false
  | .inr y=>y.2.2.1.map toPg=P.put (ps.map toPg) j k.toNat (toPg (b1,b2,b3,b4,()))/\P.zcB (ps.map toPg) j k.toNat=true) (zai (fun x=>∃ n:Nat,x.1.2.2.1=(n:Int)/\(n<=k.toNat)/\x.2.2.1.map toPg=P.put (ps.map toPg) j n (toPg (b1,b2,b3,b4,()))/\P.zcB (ps.map toPg) j n=true) (fun x=>(k-x.1.2.2.1).toNat) ⟨0,rfl,by omega,by rw [P.zpm],P.zcY _ _⟩ ?_) ?_)
 . rintro ⟨⟨q,e,(m:Int),_⟩,_,(out:List PgD),_⟩ ⟨n,e1,n1,n2,n3⟩;dsimp only at e1 n2 ⊢
   subst e1;refine zac (fun h4=>?_) fun h4=>zab ?_
   . simp only [qab]at h4;have w1:W ((j:Int)+n)=((j+n:Nat):Int):=by rw [W_id (by omega)];omega
     have w2:W ((n:Int)+1)=n+1:=W_id (by omega)
     have hjn:j+n<ps.length:=by omega
     obtain ⟨r1,r2,r3⟩:=zod hjn n2;rw [w1,w2,qac];have hb:inB ((j+n:Nat):Int) out.length=true:=zag.2 ⟨by omega,by omega⟩
     have hkd:(out.getD (j+n) PG0).1=(toPg (ps.getD (j+n) PG0)).kind:=congrArg P.Pg.kind r2
     refine zae hb (zac (fun h5=>zab ?_) fun h5=>zae hb (zab ?_))
     . simp only [qaC,ne_eq]at h5;simp only [qal];exact ⟨by trivial,by trivial,P.zoI (zaF hjn) (by omega) (by rw [<-hkd];exact h5)⟩
     . simp only [qaB]at h5;simp only [qam];refine ⟨⟨n+1,by omega,by omega,r3,?_⟩,by omega⟩
       rw [P.zcp (zaF hjn),n3,<-hkd,h5];rfl
   . simp only [qag]at h4;simp only [qal];have:n=k.toNat:=by omega
     rw [<-this];exact ⟨n2,n3⟩
 . rintro r hr;refine zaR (fun x hx=>?_) fun y hy=>?_
   . subst hx;obtain ⟨q1,q2,q3⟩:=hr;obtain ⟨e1,e2⟩:=hno q3;exact zab (by rw [e1,e2];exact ⟨by dsimp only;rw [q1];rfl,q2⟩)
   . subst hy;obtain ⟨q1,q2⟩:=hr;obtain ⟨e1,e2⟩:=hfr _ q2 rfl;have hyl:y.2.2.1.length=ps.length:=by
      have:=congrArg List.length q1
      rwa [P.zfb (by rw [qaj];omega),qaj,qaj]at this
     refine zae (zag.2 ⟨by omega,by omega⟩) (zab ?_)
     rw [e1,e2,qba,q1,qac];exact ⟨rfl,rfl⟩
theorem zsp(ps:List PgD)(j k:Nat)(a b:PgD)(hl:ps.length<=1000000)(hk:1<=k)(hj:j+k<=ps.length)(hf:P.zcB (ps.map toPg) j k=true):
 Tot (fun r=>r.1.1.map toPg=P.zhj (ps.map toPg) j k (toPg a) (toPg b)/\r.1.2.1=0) (F_r04_take_o (ps,(j:Int),(k:Int),a,b,())):=by
 obtain ⟨b1,b2,b3,b4,_⟩:=b;obtain ⟨a1,a2,a3,a4,_⟩:=a;rw [zpA];dsimp only
 simp only [cor];have hlm:(ps.map toPg).length=ps.length:=qaj ..
 have w0:W ((ps.length:Int)-j)=(ps.length:Int)-j:=W_id (by omega)
 rw [w0];have hc:(decide ((j:Int)<0) || (decide ((j:Int) >= (ps.length:Int)) || decide ((k:Int) > (ps.length:Int)-j)))=false:=by
  simp only [qaQ,qag];omega
 rw [hc,qaf];have hfr:=(P.zlN (ps:=ps.map toPg) (i:=j) (k:=k) (x:=toPg (a1,a2,a3,a4,())) (y:=toPg (b1,b2,b3,b4,())) (by omega) (by omega) hf).1
 rw [hfr];refine zae (zak.2 (by omega)) (zad (P:=fun r=>match r with
  | .inl x=>False
  | .inr y=>y.2.2.1.map toPg=P.put (ps.map toPg) j k (toPg (b1,b2,b3,b4,()))) (zai (fun x=>∃ n:Nat,x.1.2.2.1=(n:Int)/\(n<=k)/\x.2.2.1.map toPg=P.put (ps.map toPg) j n (toPg (b1,b2,b3,b4,()))) (fun x=>((k:Int)-x.1.2.2.1).toNat) ⟨0,rfl,by omega,by rw [P.zpm]⟩ ?_) ?_)
 . rintro ⟨⟨q,e,(m:Int),_⟩,_,(out:List PgD),_⟩ ⟨n,e1,n1,n2⟩;dsimp only at e1 n2 ⊢
   subst e1;refine zac (fun h4=>?_) fun h4=>zab ?_
   . simp only [qab]at h4;have w1:W ((j:Int)+n)=((j+n:Nat):Int):=by rw [W_id (by omega)];omega
     have w2:W ((n:Int)+1)=n+1:=W_id (by omega)
     have hjn:j+n<ps.length:=by omega
     obtain ⟨r1,r2,r3⟩:=zod hjn n2;rw [w1,w2,qac];have hb:inB ((j+n:Nat):Int) out.length=true:=zag.2 ⟨by omega,by omega⟩
     have hkd:(out.getD (j+n) PG0).1=(toPg (ps.getD (j+n) PG0)).kind:=congrArg P.Pg.kind r2
     refine zae hb (zac (fun h5=>?_) fun h5=>zae hb (zab ?_))
     . simp only [qaC,ne_eq]at h5;rw [hkd]at h5;have:=P.zoI (zaF hjn) (show n<k by omega) h5
       rw [hf]at this;cases this
     . simp only [qam];exact ⟨⟨n+1,by omega,by omega,r3⟩,by omega⟩
   . simp only [qag]at h4;simp only [qal];have:n=k:=by omega
     rw [<-this];exact n2
 . rintro r hr;refine zaR (fun x hx=>?_) fun y hy=>?_
   . subst hx;exact hr.elim
   . subst hy;have q1:y.2.2.1.map toPg=P.put (ps.map toPg) j k (toPg (b1,b2,b3,b4,())):=hr
     have hyl:y.2.2.1.length=ps.length:=by
      have:=congrArg List.length q1
      rwa [P.zfb (by rw [qaj];omega),qaj,qaj]at this
     refine zae (zag.2 ⟨by omega,by omega⟩) (zab ?_)
     rw [qba,q1,qac];exact ⟨rfl,rfl⟩
theorem ziN(ps:List PgD)(j:Nat)(s:Int)(hl:ps.length<=1000000)(hs:0<=s/\s<=1)(hj:j+1<=ps.length)(hf:P.zcB (ps.map toPg) j 1=true):
 Tot (fun r=>r.1.1.map toPg=P.zb6 (ps.map toPg) j s/\r.1.2.1=0) (F_r04_Small_o (ps,(j:Int),s,())):=by
 rw [znG];dsimp only
 simp only [cor];have hc:(decide (s<0) || decide (s > 1))=false:=by
  simp only [qaQ,qag];omega
 rw [hc,qaf];refine zad (zsp ps j 1 (1,s,0,0,()) PG0 hl (by omega) hj hf) fun r hr=>zab ?_
 unfold P.zb6;rw [if_pos hs];exact hr
theorem zuc(pw np:Int)(ps:List PgD)(i s n:Int)(hl:ps.length<=1000000)(hi : -1000000000<=i/\i<=1000000000):
 Tot (fun r=>r.1.1.map toPg=P.zgj pw np (ps.map toPg) i s n/\r.1.2.1=P.zmv pw np (ps.map toPg) i s n) (F_r04_Large ((pw,np,()),ps,i,s,n,())):=by
 rw [zro];dsimp only
 simp only [cor];refine zad (zgP pw np n) fun r hr=>?_
 obtain ⟨⟨(m:Int),_⟩,_⟩:=r;dsimp only at hr ⊢
 have n1:=P.zgf pw np n;have n2:=P.zpQ pw np n;rw [<-hr]at n1 n2;unfold P.zgj P.zmv;rw [<-hr];refine zac (fun h=>zab ?_) fun h=>zad (zwi ps i m (2,s,n,0,()) (3,s,0,0,()) hl (by omega) hi) fun q hq=>zab ?_
 . simp only [qaZ,qab]at h;rw [if_neg (by omega),if_neg (by omega)]
   exact ⟨rfl,rfl⟩
 . simp only [qaQ,qag]at h;rw [if_pos (by omega),if_pos (by omega)]
   exact hq
end Go.VI
namespace Go.VI
open Go
theorem pow_32{n:Nat}(h:n<=32):(2:Int) ^ n<=4294967296/\1<=(2:Int) ^ n:=by
 have h1:2 ^ n<=2 ^ 32:=qb2 (by omega) h
 have h2:0<2 ^ n:=qca (by omega)
 have e:((2 ^ n:Nat):Int)=(2:Int) ^ n:=by rw [qck];rfl
 rw [<-e];have:(2:Nat) ^ 32=4294967296:=by decide
 omega
theorem zdX(k n m:Int)(hm:0<=m/\m<4294967296):F_r03_Valid ((k,n,m,()),())=some ((P.zay k n m,()),()):=by
 rw [zrr];dsimp only
 simp only [cor];have key:∀ {o:Option A5},Tot (fun r=>r=((P.zay k n m,()),())) o->o=some ((P.zay k n m,()),()):=fun h=>by
  obtain ⟨r,rfl,e⟩:=h;rw [e]
 refine key (zac (fun h=>zab ?_) fun h=>?_)
 . simp only [qaZ,qab]at h;rw [P.zcs (by omega)]
 simp only [qaQ,qag]at h;refine zac (fun h1=>zab ?_) fun h1=>?_
 . simp only [qaC,ne_eq]at h1;by_cases h0:m=0
   . rw [P.zlo (by omega)];simp [h0]
   . rw [P.zcs (by omega)];simp [h0]
 simp only [qaB]at h1;by_cases h3:n<=32
 . have un:U n=n:=U_id (by omega)
   have um:U m=m:=U_id (by omega)
   have hp:=pow_32 (n:=n.toNat) (by omega)
   have hb:min n.toNat IntKind.u64.bits=n.toNat:=by
    have:IntKind.u64.bits=64:=rfl
    omega
   rw [show decide (n<=32)=true from qad h3]
   simp only [qah];rw [un,um,hb,qbi,U_id (by omega)]
   refine zae ?_ (zab ?_)
   . simp only [qar,qag];omega
   . by_cases hlt:m<2 ^ n.toNat
     . rw [qad hlt,P.zlo ⟨by omega,by omega,by omega,by omega,fun _=>⟨h3,hlt⟩,fun c=>absurd h1 c⟩]
     . rw [qai hlt,P.zcs (fun c=>hlt (c.2.2.2.2.1 h1).2)]
 . rw [show decide (n<=32)=false from qai h3]
   simp only [qaf];refine zae rfl (zab ?_);rw [P.zcs (fun c=>h3 (c.2.2.2.2.1 h1).1)]
theorem zcq(k n m:Int)(hm:0<=m/\m<4294967296):F_r03_Size ((k,n,m,()),())=some ((P.zaP k n m,()),()):=by
 rw [ztr];dsimp only
 rw [zdX k n m hm,qaa];dsimp only;cases h:P.zay k n m
 . rw [P.zsV h];rfl
 . have:=P.zax h
   rw [P.zcv h];have w:W (n+1)=n+1:=W_id (by omega)
   simp only [qbA,qaf,w]
theorem zgs(k n m:Int)(hm:0<=m/\m<4294967296):F_r03_Encode ((k,n,m,()),())=some ((P.encV k n m,P.encE k n m,()),()):=by
 rw [zpD];dsimp only
 rw [zdX k n m hm,qaa];dsimp only;unfold P.encV P.encE;cases h:P.zay k n m
 . rfl
 . have c:=P.zax h;have hb:min (Int.toNat 16) IntKind.u64.bits=16:=rfl
   have e1:U k=k:=U_id (by omega)
   have e2:U (4*k)=4*k:=U_id (by omega)
   have e3:U n=n:=U_id (by omega)
   have e4:U (16*n)=16*n:=U_id (by omega)
   have e5:U m=m:=U_id (by omega)
   have e6:U (m*2 ^ 16)=m*65536:=by rw [show (2:Int) ^ 16=65536 by decide];exact U_id (by omega)
   rw [hb,e1,e2,e3,e4,e5,e6,U_id (n:=1+4*k) (by omega),U_id (n:=1+4*k+16*n) (by omega),U_id (by omega)]
   simp only [qbA,qaf,if_true];refine congrArg some ?_;rw [show P.ze8 k n m=1+4*k+16*n+m*65536 by unfold P.ze8;omega]
theorem zwg(pw np k n m:Int)(hm:0<=m/\m<4294967296):Tot (fun r=>r.1.1=P.zk7 pw np k n m) (F_r07_Asks ((pw,np,()),(k,n,m,()),())):=by
 rw [zth];dsimp only
 rw [zdX k n m hm,qaa];dsimp only;refine zac (fun h=>zac (fun h0=>?_) fun h0=>zab ?_) fun h=>zab ?_
 . rw [zcq k n m hm,qaa];dsimp only;refine zad (zgP pw np _) fun r hr=>zab ?_
   rw [P.zya (by simpa using h0),hr]
 . rw [P.zx9 (by simpa using h0)]
 . unfold P.zk7;rw [h];rfl
theorem zf9{h:P.Hp}(k:P.okH h=true):P.okP h=true:=by
 unfold P.okP;rw [P.zeG];exact k
theorem zt8(h:HpD)(hw:HpW h)(hp:P.okH (toHp h)=true)(n:Int)(hn:1<=n/\n<=100000):
 Tot (fun r=>r.1.2.2.1=P.zce (toHp h) n/\(r.1.2.2.1=true->toHp r.1.1=P.zlT (toHp h) n/\r.1.2.1=P.zlU (toHp h) n)) (F_r07_small (h,n,())):=by
 have hP:=zf9 hp;have hpl:=P.PlOK7.of hP;obtain ⟨p1,p2,p3,p4,p5,p6⟩:=P.zaN hP;obtain ⟨c1,c2⟩:=P.conf_prod p1;have c3:=P.zaj p1;obtain ⟨⟨pw,np,_⟩,ws,ps,sp,bu,_⟩:=h;have hlm:(ps.map toPg).length=ps.length:=qaj ..
 simp only [toHp]at p1 p2 p3 p4 p5 p6 c1 c2 c3;rw [hlm]at p3;have hps:ps.length<=1000000:=by omega
 have hb:=hpl.bump;have hsp:=hpl.sp;simp only [toHp]at hb hsp;rw [zaB,hlm]at hb;generalize hB:ps.getD bu.toNat PG0=B at *
 obtain ⟨bk,bs,bx,bp,_⟩:=B;have hnb:P.newB (toHp ((pw,np,()),ws,ps,sp,bu,())) n=(decide (bu<0) || (!(bs == sp)) || decide (bx+n > pw) || decide ((P.zbe (ps.map toPg):Int) > P.zhb pw np)):=by
  rw [qa8];unfold P.newB;rw [qab];unfold P.zkC;simp only [toHp];rw [zaB,hB];simp only [toPg];simp [or_assoc]
 rw [zrj];dsimp only
 rw [hB];dsimp only;simp only [cor];refine zae (zak.2 (by omega)) (zad (zmY pw np) fun r0 h0=>zad (zmZ ps (by omega)) fun r1 h1=>?_)
 obtain ⟨⟨(lim:Int),_⟩,_⟩:=r0;obtain ⟨⟨(use:Int),_⟩,_⟩:=r1;dsimp only at h0 h1 ⊢
 rw [<-h0,<-h1]at hnb;have hin:¬bu<0->inB bu ps.length=true:=fun h=>zag.2 (by omega)
 have hwb:¬bu<0->W (bx+n)=bx+n:=fun h=>W_id (by
  have:=hb.2 (by omega)
  simp only [toPg]at this;omega)
 have hcond:(decide (bu<0) || ((bs != sp) || (decide (W (bx+n) > pw) || decide (use > lim))))=P.newB (toHp ((pw,np,()),ws,ps,sp,bu,())) n:=by
  rw [hnb];by_cases q:bu<0
  . simp [q]
  . rw [hwb q];simp [q,Bool.or_assoc,bne]
 rw [hcond];have ho1:(decide (bu<0) || inB bu ps.length)=true:=by
  by_cases q:bu<0
  . simp [q]
  . simp [hin q]
 have ho2:(decide (bu<0) || (bs != sp || inB bu ps.length))=true:=by
  by_cases q:bu<0
  . simp [q]
  . simp [hin q]
 refine zae ho1 (zae ho2 (zac (fun hc=>?_) fun hc=>?_))
 . refine zad (zhF ps 1 hps) fun r2 h2=>?_
   obtain ⟨⟨(K':Int),_⟩,_⟩:=r2;dsimp only at h2 ⊢
   have hfull:P.zdJ (toHp ((pw,np,()),ws,ps,sp,bu,()))=(decide (K'<0) || decide (use >= lim)):=by
    rw [qa8];unfold P.zdJ;rw [qab];simp only [toHp];rw [<-h2,<-h1,<-h0];simp
   rw [<-hfull];refine zac (fun h3=>zab ?_) fun h3=>?_
   . rw [P.zvI hc h3];exact ⟨rfl,fun c=>by cases c⟩
   obtain ⟨K,e1,e2,e3,e4,⟨y,e5,e5'⟩,e6,e7,e8,e9⟩:=P.zq0 hpl hc h3;rw [e6,e7,e9];simp only [toHp]at e1 e2 e3 e4 e5 e8 ⊢;rw [hlm]at e2;have hK:K'=K:=by rw [h2,e1]
   subst hK;have hf:P.zcB (ps.map toPg) K 1=true:=by
    have:=P.zcp (ps:=ps.map toPg) (i:=K) (k:=0) (x:=y) (by rw [qa9];exact e5)
    rw [P.zcY,e5']at this;simpa using this
   refine zad (ziN ps K sp hps hsp (by omega) hf) fun r3 h4=>?_
   obtain ⟨⟨(qs:List PgD),_,_⟩,_⟩:=r3;dsimp only at h4 ⊢
   obtain ⟨h4,-⟩:=h4;rw [e4]at h4;have hql:qs.length=ps.length:=by
    have:=congrArg List.length h4
    simpa using this
   have hqk:toPg (qs.getD K PG0)=⟨1,sp,0,0⟩:=by
    rw [<-zaB,h4,qax,qa1,if_pos rfl,if_pos (by rw [hlm];exact e2)];rfl
   rw [qac];generalize qs.getD K PG0=G at *
   obtain ⟨g1,g2,g3,g4,_⟩:=G;simp only [toPg,P.Pg.mk.injEq]at hqk;obtain ⟨q1,q2,q3,q4⟩:=hqk;subst q1 q2 q3 q4;have hkin:inB (K:Int) qs.length=true:=zag.2 ⟨by omega,by omega⟩
   obtain ⟨a1,a2⟩:=P.zgr (K:=K) (o:=0) p1 (by omega) (by omega) (by omega)
   have kp:=P.zaM p1 (p:=(K:Int)) (by omega) (by omega)
   have v1:W ((K:Int)*pw)=K*pw:=W_id (by omega)
   have v2:W (4096+(K:Int)*pw)=4096+K*pw:=W_id (by omega)
   have v3:W (4096+(K:Int)*pw+0)=4096+K*pw+0:=W_id (by omega)
   have v4:U (4096+(K:Int)*pw+0)=4096+K*pw+0:=U_id (by omega)
   have v5:W (0+n)=0+n:=W_id (by omega)
   refine zae hkin (zae hkin (zae hkin (zab ?_)));dsimp only;rw [v1,v2,v3,v4,v5,a2];refine ⟨rfl,fun _=>⟨?_,rfl⟩⟩
   rw [qba,h4];rfl
 . obtain ⟨K,x,e1,e2,e3,e4,e5,e6,e7⟩:=P.zoo hpl hn.1 hc;rw [e4,e5,e7];simp only [toHp]at e1 e2 e6 ⊢;subst e1;have hK:K<ps.length:=by
    have:=(qap.1 e2).1
    rwa [hlm]at this
   rw [zaF hK]at e2;rw [qac]at hB ⊢
   rw [hB]at e2;have e2:=(Option.some.inj e2).symm;subst e2;have hkin:inB (K:Int) ps.length=true:=zag.2 ⟨by omega,by omega⟩
   have hun:=qa4 hc;unfold P.zkC at hun;simp only [toHp]at hun;rw [qac,zaB,hB]at hun;simp only [toPg]at e3 e6 e7 hun ⊢;obtain ⟨a1,a2⟩:=P.zgr (K:=K) (o:=bx) p1 (by omega) (by omega) (by omega)
   have kp:=P.zaM p1 (p:=(K:Int)) (by omega) (by omega)
   have v1:W ((K:Int)*pw)=K*pw:=W_id (by omega)
   have v2:W (4096+(K:Int)*pw)=4096+K*pw:=W_id (by omega)
   have v3:W (4096+(K:Int)*pw+bx)=4096+K*pw+bx:=W_id (by omega)
   have v4:U (4096+(K:Int)*pw+bx)=4096+K*pw+bx:=U_id (by omega)
   have v5:W (bx+n)=bx+n:=W_id (by omega)
   refine zae hkin (zae hkin (zae hkin (zab ?_)));rw [v1,v2,v3,v4,v5,a2];refine ⟨rfl,fun _=>⟨?_,rfl⟩⟩
   rw [qba];rfl
end Go.VI
namespace Go.VI
open Go
theorem zt9(h:HpD)(hw:HpW h)(hp:P.okH (toHp h)=true)(n k:Int)(hk:P.zat (toHp h).pw (toHp h).np n=k)(h1:1<=k):
 Tot (fun r=>r.1.2.2.1=P.ziy (toHp h) k/\(r.1.2.2.1=true->toHp r.1.1=P.zoE (toHp h) n k/\r.1.2.1=P.zoF (toHp h) k)) (F_r07_large (h,n,k,())):=by
 have hP:=zf9 hp;have hpl:=P.PlOK7.of hP;obtain ⟨p1,p2,p3,p4,p5,p6⟩:=P.zaN hP;obtain ⟨c1,c2⟩:=P.conf_prod p1;have c3:=P.zaj p1;have k4:=P.zgf (toHp h).pw (toHp h).np n;obtain ⟨⟨pw,np,_⟩,ws,ps,sp,bu,_⟩:=h;have hlm:(ps.map toPg).length=ps.length:=qaj ..
 simp only [toHp]at p1 p2 p3 p4 p5 p6 c1 c2 c3 k4 hk;rw [hlm]at p3;have hps:ps.length<=1000000:=by omega
 have hsp:=hpl.sp;simp only [toHp]at hsp;rw [zrk];dsimp only
 refine zad (zhF ps k hps) fun r hr=>?_
 obtain ⟨⟨(K:Int),_⟩,_⟩:=r;dsimp only at hr ⊢
 have huse:=P.ziz (ps.map toPg);rw [hlm]at huse;have hlok:P.ziy (toHp ((pw,np,()),ws,ps,sp,bu,())) k=true↔¬(K<0\/P.zhb pw np<P.zbe (ps.map toPg)+k):=by
  unfold P.ziy;rw [qab];simp only [toHp];rw [<-hr]
 refine zac (fun h2=>zab ?_) fun h2=>zad (zmZ ps (by omega)) fun r1 hr1=>zad (zmY pw np) fun r2 hr2=>?_
 . simp only [qab]at h2;refine ⟨?_,fun c=>by cases c⟩
   symm
   rw [<-qbs,hlok];exact fun c=>c (.inl h2)
 obtain ⟨⟨(use:Int),_⟩,_⟩:=r1;obtain ⟨⟨(lim:Int),_⟩,_⟩:=r2;dsimp only at hr1 hr2 ⊢
 simp only [qag]at h2;have w1:W (use+k)=use+k:=W_id (by omega)
 rw [w1];refine zac (fun h3=>zab ?_) fun h3=>?_
 . simp only [qab]at h3;refine ⟨?_,fun c=>by cases c⟩
   symm
   rw [<-qbs,hlok];exact fun c=>c (.inr (by omega))
 simp only [qag]at h3;have hsp1:=P.zdF (ps:=ps.map toPg) (k:=k) (by omega)
 rw [<-hr,hlm]at hsp1;refine zad (zuc pw np ps K sp n hps (by omega)) fun r3 hr3=>zab ?_
 obtain ⟨K,rfl⟩:=qaP (show 0<=K by omega)
 have kp:=P.zaM p1 (p:=(K:Int)) (by omega) (by omega)
 have v1:W ((K:Int)*pw)=K*pw:=W_id (by omega)
 have v2:W (4096+(K:Int)*pw)=4096+K*pw:=W_id (by omega)
 have v4:U (4096+(K:Int)*pw)=4096+K*pw:=U_id (by omega)
 dsimp only;rw [v1,v2,v4];refine ⟨(hlok.2 (by omega)).symm,fun _=>⟨?_,?_⟩⟩
 . unfold P.zoE;simp only [toHp];rw [<-hr,<-hr3.1]
 . unfold P.zoF;simp only [toHp];rw [<-hr]
theorem zjX(ws:List Int)(a:Int)(n:Nat)(hl:ws.length<=100000000)(ha:0<=a/\a<18446744073709551616):Tot (fun r=>r.1.2.1=P.okA ws.length a n/\(r.1.2.1=true->r.1.1=a-4096)) (F_r02_span (ws,a,(n:Int),())):=by
 rw [zts];dsimp only
 simp only [cor];have w1:U (ws.length:Int)=ws.length:=U_id (by omega)
 have w2:U (4096+(ws.length:Int))=4096+ws.length:=U_id (by omega)
 rw [w1,w2];refine zac (fun h=>zab ?_) fun h=>zab ?_
 . simp only [qaZ,qab]at h;refine ⟨?_,fun c=>by cases c⟩
   unfold P.okA;exact (qai (by omega)).symm
 . simp only [qaQ,qag]at h;have w3:U (a-4096)=a-4096:=U_id (by omega)
   have w4:W (a-4096)=a-4096:=W_id (by omega)
   have w5:W ((ws.length:Int)-(a-4096))=ws.length-(a-4096):=W_id (by omega)
   dsimp only;rw [w3,w4,w5];refine ⟨?_,fun _=>rfl⟩
   unfold P.okA;rw [qa8,qab,qab];omega
theorem zfo(ws:List Int)(a:Int)(l:List Int)(hl:ws.length<=100000000)(hl2:l.length<=100000000)(ha:0<=a/\a<18446744073709551616):Tot (fun r=>r.1.1=P.zaI ws a l/\r.1.2.1=P.zdI ws a l) (F_r02_Write (ws,a,l,())):=by
 rw [zrs];dsimp only
 refine zad (zjX ws a l.length hl ha) fun r hr=>?_
 obtain ⟨⟨(i:Int),(b:Bool),_⟩,_⟩:=r;dsimp only at hr ⊢
 refine zac (fun h=>zab ?_) fun h=>zae (zak.2 (by omega)) ?_
 . simp only [qar]at h;obtain ⟨e1,e2⟩:=P.zyr (hr.1.symm.trans h);rw [e1,e2];exact ⟨rfl,rfl⟩
 simp only [qaw]at h;have hok:=hr.1.symm.trans h;have hi:=hr.2 h;have hb:=P.zav.1 hok;obtain ⟨j,hj⟩:=qaP (show 0<=a-4096 by omega)
 have ha4:a=4096+(j:Int):=by omega
 rw [hj]at hi;subst hi ha4;obtain ⟨e1,e2⟩:=P.zyq hok;rw [e1,e2];have hjl:j+l.length<=ws.length:=by omega
 refine zad (P:=fun r=>r.2.2.1=P.wrow ws l j l.length) (zai (fun x=>∃ n:Nat,x.1.1=(n:Int)/\n<=l.length/\x.2.2.1=P.wrow ws l j n) (fun x=>((l.length:Int)-x.1.1).toNat) ⟨0,rfl,by omega,(P.zqJ ws l j).symm⟩ ?_) fun r hr=>zab ⟨by dsimp only;rw [hr];exact P.zuB (qao _),rfl⟩
 rintro ⟨⟨(m:Int),_⟩,_,(out:List Int),_⟩ ⟨n,q1,q2,q3⟩;dsimp only at q1 q3 ⊢
 subst q1 q3;refine zac (fun h4=>?_) fun h4=>zab ?_
 . simp only [qab]at h4;have hnl:n<l.length:=by omega
   have w1:W ((j:Int)+n)=((j+n:Nat):Int):=by rw [W_id (by omega)];omega
   have w2:W ((n:Int)+1)=n+1:=W_id (by omega)
   rw [w1,w2,qac,qac,P.zo6 hjl];refine zae (zag.2 ⟨by omega,h4⟩) (zae (zag.2 ⟨by omega,by omega⟩) (zab ?_))
   simp only [qam];refine ⟨⟨n+1,by omega,by omega,?_⟩,by omega⟩
   have hx:l[n]?=some (l.getD n 0):=by rw [qax,qaq hnl];rfl
   exact P.zuA hjl hx
 . simp only [qag]at h4;simp only [qal];rw [show n=l.length by omega]
theorem zwh(h:HpD)(hw:HpW h)(a k n m:Int)(ha:0<=a/\a<18446744073709551616)(hm:0<=m/\m<4294967296):Tot (fun r=>r.1.2.1=P.znW (toHp h) a k n m/\toHp r.1.1=P.ztE (toHp h) a k n m) (F_r05_Init (h,a,(k,n,m,()),())):=by
 obtain ⟨⟨pw,np,_⟩,ws,ps,sp,bu,_⟩:=h;have hwl:=hw.wl;dsimp only at hwl
 rw [ztl];dsimp only
 rw [zgs k n m hm,qaa];dsimp only;refine zad (za3 _ hw) fun r hr=>?_
 obtain ⟨⟨(b:Bool),_⟩,_⟩:=r;have hb:b=P.okH (toHp ((pw,np,()),ws,ps,sp,bu,())):=hr
 subst hb;dsimp only;simp only [cor];have bad:P.znW (toHp ((pw,np,()),ws,ps,sp,bu,())) a k n m≠0->toHp H0=P.ztE (toHp ((pw,np,()),ws,ps,sp,bu,())) a k n m:=fun h=>by
  unfold P.ztE;rw [if_neg h];rfl
 refine zac (fun h=>zab ?_) fun h=>?_
 . have:P.znW (toHp ((pw,np,()),ws,ps,sp,bu,())) a k n m=1:=by
    unfold P.znW;rw [if_neg];rintro ⟨c1,c2⟩;rw [c2]at h;unfold P.encE at h;rw [if_pos c1]at h;cases h
   exact ⟨this.symm,bad (by rw [this];decide)⟩
 simp only [qaQ,qaw,qaB]at h;obtain ⟨h1,h2⟩:=h;have hv:P.zay k n m=true:=by
  unfold P.encE at h2;cases hv:P.zay k n m
  . rw [hv]at h2;cases h2
  . rfl
 have c:=P.zax hv;have he:P.encV k n m=P.ze8 k n m:=by unfold P.encV;rw [if_pos hv]
 have hE:P.znW (toHp ((pw,np,()),ws,ps,sp,bu,())) a k n m=P.zdI ws a (P.znV k n m):=by
  unfold P.znW;rw [if_pos ⟨hv,h1⟩];rfl
 have hL:[P.encV k n m]++List.replicate n.toNat (0:Int)=P.znV k n m:=by rw [he];rfl
 rw [hL];refine zae (qad c.2.2.1) (zae (zak.2 (by simp only [qaJ,qbM];omega)) (zad (zfo ws a _ hwl (by rw [P.zrM];omega) ha) fun r2 h3=>zac (fun h4=>zab ?_) fun h4=>zab ?_))
 . simp only [qaC,ne_eq]at h4;refine ⟨by rw [hE];exact h3.2,bad (by rw [hE,<-h3.2];exact h4)⟩
 . simp only [qaB]at h4;have h0:P.znW (toHp ((pw,np,()),ws,ps,sp,bu,())) a k n m=0:=by rw [hE,<-h3.2];exact h4
   refine ⟨h0.symm,?_⟩;unfold P.ztE;rw [if_pos h0];simp only [toHp];rw [h3.1]
theorem HpW.of{h h':HpD}(hw:HpW h)(hp:P.okP (toHp h')=true)(e:(toHp h').words=(toHp h).words):HpW h':=by
 obtain ⟨p1,p2,p3,p4,p5,p6⟩:=P.zaN hp;have c3:=P.zaj p1;have e':h'.2.1=h.2.1:=e
 refine ⟨by rw [e'];exact hw.wl,?_,by rw [e'];exact hw.wb⟩
 have:(h'.2.2.1.map toPg).length=h'.2.2.1.length:=qaj ..
 simp only [toHp]at p3 c3;omega
theorem zas(h:HpD):((h.1.1,h.1.2.1,()),h.2.1,h.2.2.1,h.2.2.2.1,h.2.2.2.2.1,())=h:=rfl
theorem zsm(h:HpD)(hw:HpW h)(k n m:Int)(hm:0<=m/\m<4294967296):Tot (fun r=>r.1.2.2.1=P.zcQ (toHp h) k n m/\toHp r.1.1=P.zdr (toHp h) k n m/\r.1.2.1=P.ziL (toHp h) k n m) (F_r07_New (h,(k,n,m,()),())):=by
 have bad:∀ c:Int,¬c=0->P.zcQ (toHp h) k n m=c->Tot (fun r:(HpD×Int×Int×Unit)×Unit=>r.1.2.2.1=P.zcQ (toHp h) k n m/\toHp r.1.1=P.zdr (toHp h) k n m/\r.1.2.1=P.ziL (toHp h) k n m) (some ((H0,0,c,()),())):=fun c h0 he=>by
  refine zab ⟨he.symm,?_,?_⟩
  . unfold P.zdr;rw [if_neg (by rw [he];exact h0)];rfl
  . unfold P.ziL;rw [if_neg (by rw [he];exact h0)]
 rw [zvO];dsimp only
 try rw [zas]
 refine zad (za3 _ hw) fun r hr=>?_
 obtain ⟨⟨(b:Bool),_⟩,_⟩:=r;have hb:b=P.okH (toHp h):=hr
 subst hb;dsimp only;refine zac (fun h1=>bad 1 (by decide) ?_) fun h1=>zad (zwg h.1.1 h.1.2.1 k n m hm) fun r1 hr1=>?_
 . simp only [qar]at h1;unfold P.zcQ P.zks;rw [h1];rfl
 simp only [qaw]at h1;obtain ⟨⟨(b:Bool),_⟩,_⟩:=r1;dsimp only at hr1 ⊢
 subst hr1;refine zac (fun h2=>bad 1 (by decide) ?_) fun h2=>?_
 . simp only [qar]at h2;unfold P.zcQ P.zks;rw [h1,show P.zk7 (toHp h).pw (toHp h).np k n m=false from h2];rfl
 simp only [qaw]at h2;have hP:=zf9 h1;have hask:P.zks (toHp h) k n m=true:=by
  unfold P.zks;rw [h1,show P.zk7 (toHp h).pw (toHp h).np k n m=true from h2];rfl
 have h2':=h2;unfold P.zk7 at h2'
 simp only [qae,qab]at h2'
 obtain ⟨⟨hv,hk0⟩,hne⟩:=h2';have c:=P.zax hv;have hsz:=P.zcv hv;rw [zcq k n m hm,qaa];dsimp only;obtain ⟨q1,q2,q3⟩:=P.zq1 (toHp h) k n m;have fin:∀ (g:HpD) (a:Int),P.zfd (toHp h) (P.zaP k n m)=true->toHp g=P.zdQ (toHp h) (P.zaP k n m)->a=P.zd8 (toHp h) (P.zaP k n m) ->
  Tot (fun r:(HpD×Int×Int×Unit)×Unit=>r.1.2.2.1=P.zcQ (toHp h) k n m/\toHp r.1.1=P.zdr (toHp h) k n m/\r.1.2.1=P.ziL (toHp h) k n m) ((F_r05_Init (g,a,(k,n,m,()),())).bind fun (r:AM)=>some ((((r.1.1.1.1,r.1.1.1.2.1,()),r.1.1.2.1,r.1.1.2.2.1,r.1.1.2.2.2.1,r.1.1.2.2.2.2.1,()),a,0,()),())):=fun g a hok hg hga=>by
  obtain ⟨z1,z2,z3,z4⟩:=P.zkn hP (show 1<=P.zaP k n m by omega) hne hok
  rw [<-hg]at z1 z2;rw [<-hga]at z3;have hE:P.zcQ (toHp h) k n m=0:=by unfold P.zcQ;rw [if_pos hask,if_pos (by rw [q1];exact hok)]
  refine zad (zwh g (HpW.of hw z1 z2) a k n m z3 hm) fun r hr=>zab ?_
  dsimp only;try rw [zas]
  refine ⟨hE.symm,?_,?_⟩
  . rw [hr.2,hg,hga];unfold P.zdr;rw [if_pos hE,q2,q3]
  . rw [hga];unfold P.ziL;rw [if_pos hE,q3]
 refine zad (zgP h.1.1 h.1.2.1 _) fun r2 hr2=>zad (zt8 h hw h1 _ (by omega)) fun r3 hr3=>?_
 obtain ⟨⟨(nd:Int),_⟩,_⟩:=r2;have hnd:nd=P.zat (toHp h).pw (toHp h).np (P.zaP k n m):=hr2
 dsimp only;refine zac (fun h3=>?_) fun h3=>?_
 . simp only [qab]at h3;have hpos:0<P.zat (toHp h).pw (toHp h).np (P.zaP k n m):=by omega
   refine zad (zt9 h hw h1 _ _ hnd.symm (by omega)) fun r4 hr4=>?_
   have hOK:P.zfd (toHp h) (P.zaP k n m)=r4.1.2.2.1:=by unfold P.zfd;rw [if_pos hpos,hr4.1,hnd]
   refine zac (fun h4=>bad 3 (by decide) ?_) fun h4=>?_
   . simp only [qar]at h4;unfold P.zcQ;rw [if_pos hask,q1,hOK,h4];rfl
   . simp only [qaw]at h4;obtain ⟨y1,y2⟩:=hr4.2 h4;exact fin _ _ (hOK.trans h4) (by unfold P.zdQ;rw [if_pos hpos,<-hnd];exact y1) (by unfold P.zd8;rw [if_pos hpos,<-hnd];exact y2)
 . simp only [qag]at h3;have hpos:¬0<P.zat (toHp h).pw (toHp h).np (P.zaP k n m):=by omega
   have hOK:P.zfd (toHp h) (P.zaP k n m)=r3.1.2.2.1:=by unfold P.zfd;rw [if_neg hpos,hr3.1]
   refine zac (fun h4=>bad 3 (by decide) ?_) fun h4=>?_
   . simp only [qar]at h4;unfold P.zcQ;rw [if_pos hask,q1,hOK,h4];rfl
   . simp only [qaw]at h4;obtain ⟨y1,y2⟩:=hr3.2 h4;exact fin _ _ (hOK.trans h4) (by unfold P.zdQ;rw [if_neg hpos];exact y1) (by unfold P.zd8;rw [if_neg hpos];exact y2)
end Go.VI
namespace Go.VI
open Go
theorem zqh(a b:Nat)(ha:a<18446744073709551616)(hb:b<18446744073709551616):zcN IntKind.u64 (fun (x1 x2:BitVec IntKind.u64.bits)=>x1 &&& x2) (a:Int) (b:Int)=((a &&& b:Nat):Int):=by
 have hx:a &&& b<2 ^ 64:=Nat.and_lt_two_pow _ (by omega)
 show IntKind.u64.wrap ((BitVec.ofInt 64 (a:Int) &&& BitVec.ofInt 64 (b:Int)).toNat:Int)=_
 have e:∀ c:Nat,c<18446744073709551616->(BitVec.ofInt 64 (c:Int)).toNat=c:=fun c hc=>by
  rw [BitVec.toNat_ofInt];omega
 rw [BitVec.toNat_and,e a ha,e b hb,IntKind.wrap_u64];omega
theorem zdV(x k:Nat)(hk:0<k):(x:Int).fdiv (k:Int)=((x / k:Nat):Int):=by
 rw [Int.fdiv_eq_ediv_of_nonneg _ (by omega)];exact (Int.natCast_ediv x k).symm
def toHd(x:A7):P.Hd:=⟨x.1,x.2.1,x.2.2.1⟩
theorem zgt(x:Nat)(hx:x<18446744073709551616):Tot (fun r=>r.1.2.1=P.okD x/\r.1.1=(P.decK x,P.decN x,P.decM x,())) (F_r03_Decode ((x:Int),())):=by
 have d1:(2:Int) ^ min (Int.toNat 2) IntKind.u64.bits=((4:Nat):Int):=by decide
 have d2:(2:Int) ^ min (Int.toNat 4) IntKind.u64.bits=((16:Nat):Int):=by decide
 have d3:(2:Int) ^ min (Int.toNat 16) IntKind.u64.bits=((65536:Nat):Int):=by decide
 have k1:W (zcN IntKind.u64 (fun (x1 x2:BitVec IntKind.u64.bits)=>x1 &&& x2) ((x:Int).fdiv (2 ^ min (Int.toNat 2) IntKind.u64.bits)) 3)=(P.dK x:Int):=by
  have e:=zqh (x / 4) 3 (by omega) (by omega)
  rw [show (x / 4) &&& 3=(x / 4) % 4 from qch _ 2]at e
  rw [d1,zdV x 4 (by omega)]
  unfold P.dK;exact (congrArg W e).trans (W_id (by omega))
 have k2:W (zcN IntKind.u64 (fun (x1 x2:BitVec IntKind.u64.bits)=>x1 &&& x2) ((x:Int).fdiv (2 ^ min (Int.toNat 4) IntKind.u64.bits)) 4095)=(P.dN x:Int):=by
  have e:=zqh (x / 16) 4095 (by omega) (by omega)
  rw [show (x / 16) &&& 4095=(x / 16) % 4096 from qch _ 12]at e
  rw [d2,zdV x 16 (by omega)]
  unfold P.dN;exact (congrArg W e).trans (W_id (by omega))
 have k3:U32 ((x:Int).fdiv (2 ^ min (Int.toNat 16) IntKind.u64.bits))=(P.dM x:Int):=by
  rw [d3,zdV x 65536 (by omega)]
  unfold P.dM;rw [U32,IntKind.wrap_u32];omega
 have hmb:(0:Int)<=(P.dM x:Int)/\(P.dM x:Int)<4294967296:=by unfold P.dM;omega
 rw [zpE];dsimp only
 rw [k1,k2,k3,zgs _ _ _ hmb,qaa];dsimp only;simp only [cor];refine zae (by decide) (zae (by decide) (zae (by decide) ?_))
 by_cases hv:P.zay (P.dK x) (P.dN x) (P.dM x)=true
 . have e1:P.encE (P.dK x) (P.dN x) (P.dM x)=0:=by unfold P.encE;rw [if_pos hv]
   have e2:P.encV (P.dK x) (P.dN x) (P.dM x)=P.ze8 (P.dK x) (P.dN x) (P.dM x):=by unfold P.encV;rw [if_pos hv]
   rw [e1,e2];by_cases hw:P.ze8 (P.dK x) (P.dN x) (P.dM x)=x
   . have hok:P.okD x=true:=P.zo7.2 ⟨hv,hw⟩
     rw [hw];obtain ⟨f1,f2,f3⟩:=P.zr5 hok;refine zac (fun c=>by simp at c) fun _=>zab ?_
     rw [hok,f1,f2,f3];exact ⟨rfl,rfl⟩
   . have hok:P.okD x=false:=by rw [<-qbs];exact fun c=>hw (P.zo7.1 c).2
     obtain ⟨f1,f2,f3⟩:=P.zr6 hok;refine zac (fun _=>zab ?_) fun c=>?_
     . rw [hok,f1,f2,f3];exact ⟨rfl,rfl⟩
     . simp only [qaQ,qaB]at c;exact absurd c.2 hw
 . have e1:P.encE (P.dK x) (P.dN x) (P.dM x)=1:=by unfold P.encE;rw [if_neg hv]
   have hok:P.okD x=false:=by rw [<-qbs];exact fun c=>hv (P.zo7.1 c).1
   obtain ⟨f1,f2,f3⟩:=P.zr6 hok;rw [e1];refine zac (fun _=>zab ?_) fun c=>by simp at c
   rw [hok,f1,f2,f3];exact ⟨rfl,rfl⟩
theorem ziO(pw np a:Int)(ha:0<=a/\a<18446744073709551616):Tot (fun r=>r.1.1=P.ofI pw np a/\r.1.2.1=P.ofK pw np a/\r.1.2.2.1=P.ofE pw np a) (F_r04_Of ((pw,np,()),a,())):=by
 rw [zxC];dsimp only
 rw [zbj,qaa];dsimp only;simp only [cor];refine zac (fun h=>zab ?_) fun h=>?_
 . obtain ⟨e1,e2,e3⟩:=P.zyY (pw:=pw) (np:=np) (a:=a) (by simpa [zaD] using h)
   rw [e1,e2,e3];exact ⟨rfl,rfl,rfl⟩
 simp only [qaw]at h;have hc:P.confB pw np=true:=by rw [zaD];exact h
 obtain ⟨c1,c2⟩:=P.conf_prod hc;have c3:=P.zaj hc;have w1:W (np*pw)=np*pw:=W_id (by omega)
 have w2:W (4096+np*pw)=4096+np*pw:=W_id (by omega)
 have w3:U (4096+np*pw)=4096+np*pw:=U_id (by omega)
 rw [w1,w2,w3];refine zac (fun h1=>zab ?_) fun h1=>?_
 . simp only [qaZ,qab]at h1;obtain ⟨e1,e2,e3⟩:=P.zga (a:=a) hc (by unfold P.inAr;exact qai (by omega))
   rw [e1,e2,e3];exact ⟨rfl,rfl,rfl⟩
 simp only [qaQ,qag]at h1;obtain ⟨e1,e2,e3⟩:=P.zma (a:=a) hc (by unfold P.inAr;exact qad (by omega))
 have w4:U (a-4096)=a-4096:=U_id (by omega)
 have w5:W (a-4096)=a-4096:=W_id (by omega)
 have hpw:(!pw == 0)=true:=by simp;omega
 rw [w4,w5];refine zae hpw (zae hpw (zab ?_));rw [e1,e2,e3];refine ⟨?_,?_,rfl⟩
 . dsimp only;rw [qbB (by omega)]
   have hd:=Int.ediv_le_self (a:=a-4096) pw (by omega)
   have hd0:=qbU (a:=a-4096) (b:=pw) (by omega) (by omega)
   exact W_id (by omega)
 . dsimp only;exact qb9 (by omega)
theorem zc1(ws:List Int)(a:Int)(hl:ws.length<=100000000)(ha:0<=a/\a<18446744073709551616):Tot (fun r=>r.1.1=P.zap ws a/\r.1.2.1=P.zg0 ws a) (F_r02_Load (ws,a,())):=by
 have h68:Tot (fun r=>r.1.1=P.zrN ws.length a/\r.1.2.1=P.zrO ws.length a) (F_r02_Index (ws,a,())):=by
  rw [zru];dsimp only
  refine zad (zjX ws a 1 hl ha) fun r hr=>?_
  obtain ⟨⟨(i:Int),(b:Bool),_⟩,_⟩:=r;dsimp only at hr ⊢
  unfold P.zrN P.zrO;refine zac (fun h=>zab ?_) fun h=>zab ?_
  . simp only [qar]at h;have:=hr.1.symm.trans h
    rw [this];exact ⟨rfl,rfl⟩
  . simp only [qaw]at h;have:=hr.1.symm.trans h
    rw [this];exact ⟨hr.2 h,rfl⟩
 rw [ztv];dsimp only
 refine zad h68 fun r hr=>?_
 obtain ⟨⟨(i:Int),(e:Int),_⟩,_⟩:=r;dsimp only at hr ⊢
 obtain ⟨h1,h2⟩:=hr;subst h1 h2;unfold P.zrN P.zrO P.zap P.zg0;cases h:P.okA ws.length a 1
 . exact zab ⟨rfl,rfl⟩
 . have:=P.zav.1 h
   simp only [if_true];refine zac (fun c=>by simp at c) fun _=>zae (zag.2 ⟨by omega,by omega⟩) (zab ⟨rfl,rfl⟩)
theorem zhG(ws:List Int)(a v:Int)(hl:ws.length<=100000000)(ha:0<=a/\a<18446744073709551616):Tot (fun r=>r.1.1=P.zaI ws a [v]/\r.1.2.1=P.zdI ws a [v]) (F_r02_Store (ws,a,v,())):=by
 rw [zrt];dsimp only
 exact zad (zfo ws a [v] hl (by simp) ha) fun r hr=>zab hr
end Go.VI
namespace Go.VI
open Go
def atBx(gk gu o:Int)(y:Nat):Bool:=decide (gk=1\/gk=2)&&decide (o<gu)&&P.okD y&&(if gk=1 then decide (o+((P.dN y:Int)+1)<=gu) else decide (o=0/\(P.dN y:Int)+1=gu))
theorem zgO(h:HpD)(hw:HpW h)(a:Int)(ha:0<=a/\a<18446744073709551616):Tot (fun r=>r.1.2.1=P.atE (toHp h) a/\toHd r.1.1=P.atH (toHp h) a) (F_r05_At (h,a,())):=by
 obtain ⟨⟨pw,np,_⟩,ws,ps,sp,bu,_⟩:=h;have hwl:=hw.wl;have hwb:=hw.wb;dsimp only at hwl hwb
 have hlm:(ps.map toPg).length=ps.length:=qaj ..
 rw [zxB];dsimp only
 refine zad (za3 _ hw) fun r hr=>?_
 obtain ⟨⟨(b:Bool),_⟩,_⟩:=r;have hb:b=P.okH (toHp ((pw,np,()),ws,ps,sp,bu,())):=hr
 subst hb;dsimp only;simp only [cor,cand];refine zac (fun h1=>zab ?_) fun h1=>zad (ziO pw np a ha) fun r2 hr2=>?_
 . obtain ⟨e1,e2⟩:=P.ztZ (h:=toHp ((pw,np,()),ws,ps,sp,bu,())) (a:=a) (by simpa using h1)
   rw [e1,e2];exact ⟨rfl,rfl⟩
 simp only [qaw]at h1;obtain ⟨p1,p2,p3,p4,p5,p6⟩:=P.zaN (zf9 h1);obtain ⟨c1,c2⟩:=P.conf_prod p1;have c3:=P.zaj p1;simp only [toHp]at p1 p2 p3 c1 c2 c3;rw [hlm]at p3;obtain ⟨⟨(i:Int),(o:Int),(e:Int),_⟩,_⟩:=r2;dsimp only at hr2 ⊢
 obtain ⟨g1,g2,g3⟩:=hr2;refine zac (fun h2=>zab ?_) fun h2=>?_
 . simp only [qaC,ne_eq]at h2;obtain ⟨e1,e2⟩:=P.zjU (a:=a) h1 (by show ¬P.ofE pw np a=0;rw [<-g3];exact h2)
   rw [e1,e2];exact ⟨rfl,rfl⟩
 simp only [qaB]at h2;have hof:P.ofE pw np a=0:=by rw [<-g3];exact h2
 have hin:P.inAr pw np a=true:=by
  cases hq:P.inAr pw np a
  . have:=(P.zga (a:=a) p1 hq).2.2
    rw [this]at hof;cases hof
  . rfl
 obtain ⟨q1,q2,q3⟩:=P.zma p1 hin;have hia:=qat hin;have hiN:0<=i/\i<ps.length:=by
  rw [g1,q1];refine ⟨qbU (by omega) (by omega),?_⟩
  rw [p3];exact qcr (by omega) (by omega)
 have hoN:0<=o/\o<pw:=by
  rw [g2,q2];exact ⟨Int.emod_nonneg _ (by omega),Int.emod_lt_of_pos _ (by omega)⟩
 refine zae (zag.2 hiN) (zad (zc1 ws a hwl ha) fun r3 hr3=>?_)
 obtain ⟨⟨(x:Int),(e3:Int),_⟩,_⟩:=r3;dsimp only at hr3 ⊢
 have hld:x=ws.getD (a-4096).toNat 0:=by
  rw [hr3.1];unfold P.zap;rw [if_pos (P.zav.2 (by omega))]
 have hxb:0<=x/\x<18446744073709551616:=by
  rw [hld];exact WBo.getD hwb _
 obtain ⟨y,hy⟩:=qaP hxb.1;have hwa:P.zaX (toHp ((pw,np,()),ws,ps,sp,bu,())) a=y:=by
  unfold P.zaX;show (ws.getD (a-4096).toNat 0).toNat=y
  rw [<-hld,hy];rfl
 subst hy;refine zad (zgt y (by omega)) fun r4 hr4=>?_
 obtain ⟨⟨⟨(dk:Int),(dn:Int),(dm:Int),_⟩,(db:Bool),_⟩,_⟩:=r4;dsimp only at hr4 ⊢
 obtain ⟨hd1,hd2⟩:=hr4;simp only [Prod.mk.injEq,qbn]at hd2;obtain ⟨hk,hn,hm⟩:=hd2;have hpg:P.zb5 (toHp ((pw,np,()),ws,ps,sp,bu,())) a=toPg (ps.getD i.toNat PG0):=by
  unfold P.zb5;show (ps.map toPg).getD (P.ofI pw np a).toNat P.Pg.zero=_
  rw [zaB,<-g1]
 have hatB:P.atB (toHp ((pw,np,()),ws,ps,sp,bu,())) a=atBx (P.zb5 (toHp ((pw,np,()),ws,ps,sp,bu,())) a).kind (P.zb5 (toHp ((pw,np,()),ws,ps,sp,bu,())) a).used (P.ofK pw np a) (P.zaX (toHp ((pw,np,()),ws,ps,sp,bu,())) a):=rfl
 rw [hpg,hwa,<-g2]at hatB;have hH:P.atH (toHp ((pw,np,()),ws,ps,sp,bu,())) a=if P.atB (toHp ((pw,np,()),ws,ps,sp,bu,())) a then P.hdOf y else P.Hd.zero:=by
  cases hq:P.atB (toHp ((pw,np,()),ws,ps,sp,bu,())) a
  . rw [(P.zsh h1 hof hq).2];rfl
  . rw [(P.zoW h1 hof hq).2,hwa];rfl
 have hE:P.atE (toHp ((pw,np,()),ws,ps,sp,bu,())) a=if P.atB (toHp ((pw,np,()),ws,ps,sp,bu,())) a then 0 else 19:=by
  cases hq:P.atB (toHp ((pw,np,()),ws,ps,sp,bu,())) a
  . rw [(P.zsh h1 hof hq).1];rfl
  . rw [(P.zoW h1 hof hq).1];rfl
 rw [hH,hE,hatB];generalize ps.getD i.toNat PG0=G
 obtain ⟨gk,gs,gu,gp,_⟩:=G;have hab:atBx (toPg (gk,gs,gu,gp,())).kind (toPg (gk,gs,gu,gp,())).used o y=atBx gk gu o y:=rfl
 rw [hab];clear hab;have bad:∀ c:Bool,c=false->Tot (fun r:Av×Unit=>r.1.2.1=(if c=true then (0:Int) else 19)/\toHd r.1.1=if c=true then P.hdOf y else P.Hd.zero) (some (((0,0,0,()),19,()),())):=fun c hc=>by
  subst hc;exact zab ⟨rfl,rfl⟩
 have c19:(bif gk != 1 then gk != 2 || (decide (o >= gu) || !db) else (decide (o >= gu) || !db))=((gk != 1&&gk != 2) || (decide (o >= gu) || !db)):=by
  cases (gk != 1) <;> rfl
 rw [c19];refine zac (fun h3=>bad _ ?_) fun h3=>?_
 . unfold atBx;rw [<-hd1];simp only [qaZ,qae,qaC,ne_eq,qab,qar]at h3;rcases h3 with h3 | h3 | h3
   . rw [show decide (gk=1\/gk=2)=false from qai (by omega)];rfl
   . rw [show decide (o<gu)=false from qai (by omega)];simp
   . rw [h3];simp
 simp only [qaQ,qbC,qaB,qag,qaw]at h3;obtain ⟨h3a,h3b,h3c⟩:=h3;have hokD:P.okD y=true:=by rw [<-hd1];exact h3c
 obtain ⟨d1,d2,d3⟩:=P.zcx hokD;obtain ⟨f1,f2,f3⟩:=P.zr5 hokD;rw [f1]at hk;rw [f2]at hn;rw [f3]at hm;subst hk hn hm;have hmb:(0:Int)<=(P.dM y:Int)/\(P.dM y:Int)<4294967296:=by unfold P.dM;omega
 have vp:=P.zax d3;rw [zcq _ _ _ hmb,qaa,P.zcv d3];dsimp only;have hwo:W (o+((P.dN y:Int)+1))=o+((P.dN y:Int)+1):=W_id (by omega)
 unfold atBx;rw [hwo,hokD,show decide (gk=1\/gk=2)=true from qad h3a,show decide (o<gu)=true from qad (by omega)]
 simp only [qaY];refine zac (fun h4=>bad _ ?_) fun h4=>zab ?_
 . by_cases k1:gk=1
   . subst k1;rw [if_pos rfl];simp at h4
     exact qai (by omega)
   . rw [if_neg k1];have k2:gk=2:=by omega
     subst k2;simp at h4
     exact qai (by omega)
 . have:(if gk=1 then decide (o+((P.dN y:Int)+1)<=gu) else decide (o=0/\(P.dN y:Int)+1=gu))=true:=by
    by_cases k1:gk=1
    . subst k1;rw [if_pos rfl];simp at h4
      exact qad (by omega)
    . rw [if_neg k1];have k2:gk=2:=by omega
      subst k2;simp at h4
      exact qad (by omega)
   rw [this];exact ⟨rfl,rfl⟩
theorem ziM(h:HpD)(hw:HpW h)(a:Int)(ha:0<=a/\a<18446744073709551616):Tot (fun r=>r.1.2.1=P.getE (toHp h) a/\toHd r.1.1=P.getH (toHp h) a) (F_r05_Get (h,a,())):=by
 rw [zvQ];dsimp only
 try rw [zas]
 have out:∀ (c:Int),¬c=0->P.getE (toHp h) a=c->Tot (fun r:Av×Unit=>r.1.2.1=P.getE (toHp h) a/\toHd r.1.1=P.getH (toHp h) a) (some (((0,0,0,()),c,()),())):=fun c h0 he=>by
  refine zab ⟨he.symm,?_⟩;unfold P.getH;rw [if_neg (by rw [he];exact h0)];rfl
 refine zad (za3 _ hw) fun r hr=>?_
 obtain ⟨⟨(b:Bool),_⟩,_⟩:=r;have hb:b=P.okH (toHp h):=hr
 subst hb;dsimp only;refine zac (fun h1=>out 1 (by decide) ?_) fun h1=>zac (fun h2=>out 5 (by decide) ?_) fun h2=>zad (zgO h hw a ha) fun r hr=>?_
 . simp only [qar]at h1;unfold P.getE;rw [h1];rfl
 . simp only [qaw]at h1;simp only [qaz]at h2;unfold P.getE;rw [if_pos h1,if_pos h2]
 simp only [qaw]at h1;simp only [qaI,ne_eq]at h2;obtain ⟨⟨⟨(k:Int),(n:Int),(m:Int),_⟩,(e:Int),_⟩,_⟩:=r;dsimp only at hr ⊢
 have hg:P.getE (toHp h) a=if P.atE (toHp h) a=0/\(P.atH (toHp h) a).k=0 then 4 else P.atE (toHp h) a:=by
  unfold P.getE;rw [if_pos h1,if_neg h2]
 rw [<-hr.1,<-hr.2]at hg;simp only [cand];refine zac (fun h3=>out 4 (by decide) ?_) fun h3=>zab ?_
 . simp only [qae,qaz]at h3;exact hg.trans (if_pos h3)
 . have h3':¬(e=0/\k=0):=fun c=>by rw [c.1,c.2]at h3;cases h3
   have hg:P.getE (toHp h) a=e:=hg.trans (if_neg h3')
   refine ⟨hg.symm,?_⟩;unfold P.getH;rw [hg,<-hr.2];by_cases he:e=0
   . rw [if_pos he]
   . rw [if_neg he,hr.2];unfold P.atH;rw [if_neg (by rw [<-hr.1];exact he)]
end Go.VI
namespace Go.VI
open Go
theorem zrS{h:HpD}{a i:Int}(ha:0<=a/\a<18446744073709551616)(hg:P.getE (toHp h) a=0)(h0:0<=i)(h1:i<(P.getH (toHp h) a).n):a<100000/\i<100000:=by
 have hok:P.okH (toHp h)=true:=by
  cases hq:P.okH (toHp h)
  . unfold P.getE at hg;rw [hq]at hg;cases hg
  . rfl
 obtain ⟨p1,p2,p3,p4,p5,p6⟩:=P.zaN (zf9 hok);obtain ⟨c1,c2⟩:=P.conf_prod p1;have hat:P.atE (toHp h) a=0:=by
  unfold P.getE at hg;rw [if_pos hok]at hg;split at hg
  . cases hg
  . split at hg
    . cases hg
    . exact hg
 have hof:P.ofE (toHp h).pw (toHp h).np a=0:=by
  unfold P.atE at hat;rw [if_pos hok]at hat;split at hat
  . assumption
  . cases hat
 have hin:P.inAr (toHp h).pw (toHp h).np a=true:=by
  cases hq:P.inAr (toHp h).pw (toHp h).np a
  . have:=(P.zga (a:=a) p1 hq).2.2
    rw [this]at hof;cases hof
  . rfl
 have hia:=qat hin;have hH:P.getH (toHp h) a=P.hdOf (P.zaX (toHp h) a):=by
  unfold P.getH;rw [if_pos hg];unfold P.atH;rw [if_pos hat]
 rw [hH]at h1;simp only [P.hdOf]at h1;have:P.dN (P.zaX (toHp h) a)<4096:=by unfold P.dN;omega
 omega
theorem zua(h:HpD)(hw:HpW h)(a i:Int)(ha:0<=a/\a<18446744073709551616):Tot (fun r=>r.1.1=P.zzM (toHp h) a i/\r.1.2.1=P.zky (toHp h) a i) (F_r05_Field (h,a,i,())):=by
 rw [zrl];dsimp only
 try rw [zas]
 refine zad (ziM h hw a ha) fun r hr=>?_
 obtain ⟨⟨⟨(k:Int),(n:Int),(m:Int),_⟩,(e:Int),_⟩,_⟩:=r;dsimp only at hr ⊢
 obtain ⟨he,hH⟩:=hr;have hn:(P.getH (toHp h) a).n=n:=(congrArg P.Hd.n hH).symm
 unfold P.zzM P.zky;rw [hn,<-he];simp only [cor];refine zac (fun h1=>zab ?_) fun h1=>?_
 . simp only [qaC,ne_eq]at h1;rw [if_neg h1,if_neg h1];exact ⟨rfl,rfl⟩
 simp only [qaB]at h1;rw [if_pos h1,if_pos h1];refine zac (fun h2=>zab ?_) fun h2=>?_
 . simp only [qaZ,qab]at h2;have:i<0\/n<=i:=by omega
   rw [if_pos this,if_pos this];exact ⟨rfl,rfl⟩
 . simp only [qaQ,qag]at h2;have:¬(i<0\/n<=i):=by omega
   rw [if_neg this,if_neg this];obtain ⟨b1,b2⟩:=zrS ha (he.symm.trans h1) (show 0<=i by omega) (by rw [hn];omega)
   have w1:U (a+1)=a+1:=U_id (by omega)
   have w2:U i=i:=U_id (by omega)
   have w3:U (a+1+i)=a+1+i:=U_id (by omega)
   rw [w1,w2,w3];exact zad (zc1 h.2.1 (a+1+i) hw.wl (by omega)) fun r hr=>zab hr
theorem zn3(h:HpD)(hw:HpW h)(a i v:Int)(ha:0<=a/\a<18446744073709551616):Tot (fun r=>toHp r.1.1=P.setV (toHp h) a i v/\r.1.2.1=P.setE (toHp h) a i) (F_r05_SetField (h,a,i,v,())):=by
 rw [zmj];dsimp only
 try rw [zas]
 refine zad (zua h hw a i ha) fun r hr=>?_
 obtain ⟨⟨(x:Int),(e:Int),_⟩,_⟩:=r;dsimp only at hr ⊢
 obtain ⟨-,he⟩:=hr;unfold P.setV P.setE;rw [<-he];refine zac (fun h1=>zab ?_) fun h1=>?_
 . simp only [qaC,ne_eq]at h1;rw [if_neg h1];exact ⟨rfl,rfl⟩
 simp only [qaB]at h1;have hf:=he.symm.trans h1;have hg:P.getE (toHp h) a=0:=by
  unfold P.zky at hf;split at hf
  . assumption
  . exact hf
 have hi:0<=i/\i<(P.getH (toHp h) a).n:=by
  unfold P.zky at hf;rw [if_pos hg]at hf;split at hf
  . cases hf
  . omega
 obtain ⟨b1,b2⟩:=zrS ha hg hi.1 hi.2;have w1:U (a+1)=a+1:=U_id (by omega)
 have w2:U i=i:=U_id (by omega)
 have w3:U (a+1+i)=a+1+i:=U_id (by omega)
 rw [w1,w2,w3,if_pos h1];refine zad (zhG h.2.1 (a+1+i) v hw.wl (by omega)) fun r hr=>zab ?_
 simp only [toHp];rw [hr.1];exact ⟨rfl,h1.symm⟩
theorem zoU(a b:Nat)(ha:a<4294967296)(hb:b<4294967296):zcN IntKind.u32 (fun (x1 x2:BitVec IntKind.u32.bits)=>x1 &&& x2) (a:Int) (b:Int)=((a &&& b:Nat):Int):=by
 have hx:a &&& b<2 ^ 32:=Nat.and_lt_two_pow _ (by omega)
 show IntKind.u32.wrap ((BitVec.ofInt 32 (a:Int) &&& BitVec.ofInt 32 (b:Int)).toNat:Int)=_
 have e:∀ c:Nat,c<4294967296->(BitVec.ofInt 32 (c:Int)).toNat=c:=fun c hc=>by
  rw [BitVec.toNat_ofInt];omega
 rw [BitVec.toNat_and,e a ha,e b hb,IntKind.wrap_u32];omega
theorem zfn(k n m i:Int)(hm:0<=m/\m<4294967296):Tot (fun r=>r.1.1=P.ptrB k n m i) (F_r03_Pointer ((k,n,m,()),i,())):=by
 rw [znI];dsimp only
 rw [zdX k n m hm,qaa];dsimp only;simp only [cor];unfold P.ptrB;refine zac (fun h=>zab ?_) fun h=>?_
 . symm
   simp only [qaZ,qar,qab]at h;rcases h with h | h | h
   . rw [h];rfl
   . rw [qai (show ¬0<=i by omega)];simp
   . rw [qai (show ¬i<n by omega)];simp
 simp only [qaQ,qaw,qag]at h;obtain ⟨hv,h0,h1⟩:=h;have c:=P.zax hv;have ui:U i=i:=U_id (by omega)
 rw [hv,qad (show 0<=i by omega),qad (show i<n by omega),ui]
 refine zae ?_ (zab ?_)
 . rw [qai h0];cases (k == 2) <;> cases (k == 1) <;> rfl
 simp only [qaY];by_cases k2:k=2
 . subst k2;rfl
 by_cases k1:k=1
 . subst k1;obtain ⟨mm,rfl⟩:=qaP hm.1;obtain ⟨j,rfl⟩:=qaP (show 0<=i by omega)
   have hmin:min j IntKind.u32.bits=j:=by
    have:IntKind.u32.bits=32:=rfl
    have:=(c.2.2.2.2.1 rfl).1
    omega
   have hp:0<2 ^ j:=qca (by omega)
   have e1:(2:Int) ^ j=((2 ^ j:Nat):Int):=by rw [qck];rfl
   have hle:mm / 2 ^ j<=mm:=Nat.div_le_self _ _
   have e:=zoU (mm / 2 ^ j) 1 (by omega) (by omega)
   rw [Nat.and_one_is_mod]at e;have key:zcN IntKind.u32 (fun (x1 x2:BitVec IntKind.u32.bits)=>x1 &&& x2) ((mm:Int).fdiv (2 ^ min (Int.toNat (j:Int)) IntKind.u32.bits)) 1=((mm / 2 ^ j % 2:Nat):Int):=by
    rw [qac,hmin,e1,zdV mm (2 ^ j) hp];exact e
   simp only [qac]at key;simp only [qac];rw [key,Nat.testBit_eq_decide_div_mod_eq];have:(((1:Int) == 2)=false):=rfl
   rw [this,Bool.false_or];have:(((1:Int) == 1)=true):=rfl
   rw [this,qah];generalize mm / 2 ^ j % 2=z
   rw [qa8];simp
   omega
 . have e1:(k == 2)=false:=by simp [k2]
   have e2:(k == 1)=false:=by simp [k1]
   rw [e1,e2,qai k2,qai k1];rfl
theorem zkG(h:HpD)(hl:h.2.2.1.length<=100000000):Tot (fun r=>r.1.1=(P.zaZ (h.2.2.1.map toPg):Int)) (F_made_crowd (h,())):=by
 obtain ⟨⟨pw,np,_⟩,ws,ps,sp,bu,_⟩:=h;dsimp only at hl
 rw [zid];dsimp only
 refine zad (P:=fun r=>r.1.1=(P.zaZ (ps.map toPg):Int)) (zai (fun x=>∃ k:Nat,x.1.2.1=(k:Int)/\k<=ps.length/\x.1.1=(P.zaZ ((ps.map toPg).take k):Int)) (fun x=>((ps.length:Int)-x.1.2.1).toNat) ⟨0,rfl,by omega,by simp [P.zaZ]⟩ ?_) fun r hr=>zab hr
 rintro ⟨⟨(n:Int),(i:Int),_⟩,_⟩ ⟨k,e,hk,e2⟩;dsimp only at e e2 ⊢
 subst e e2;have hle:=P.zr7 ((ps.map toPg).take k);rw [qau]at hle;refine zac (fun h=>?_) fun h=>zab ?_
 . simp only [qab]at h;have hk:k<ps.length:=by omega
   have w2:W ((k:Int)+1)=k+1:=W_id (by omega)
   have w1:W ((P.zaZ ((ps.map toPg).take k):Int)+1)=P.zaZ ((ps.map toPg).take k)+1:=W_id (by omega)
   have hin:inB (k:Int) ps.length=true:=zag.2 ⟨by omega,h⟩
   refine zae hin (zae (zaz fun _=>hin) (zab ?_))
   rw [w1,w2,qac];simp only [qam];refine ⟨⟨k+1,by omega,by omega,?_⟩,by omega⟩
   rw [P.zhD (zaF hk)];generalize ps.getD k PG0=G
   obtain ⟨gk,gs,gu,gp,_⟩:=G;have e1:(toPg (gk,gs,gu,gp,())).kind=gk:=rfl
   have e2:(toPg (gk,gs,gu,gp,())).pins=gp:=rfl
   rw [e1,e2];simp only [cand];by_cases hc:gk=1/\0<gp
   . rw [if_pos hc];obtain ⟨c1,c2⟩:=hc;simp [c1,c2]
   . rw [if_neg hc];have:(gk == 1&&decide (gp > 0))=false:=by
      rw [<-qbs];intro c;simp only [qae,qaz,qab]at c;exact hc ⟨c.1,c.2⟩
     rw [this];rfl
 . simp only [qag]at h;simp only [qal];rw [qa3 (by rw [qaj];omega)]
end Go.VI
namespace Go.VI
open Go
abbrev WdD:=HpD×List Int×List Int×Unit
def toWd(d:WdD):P.Wd:=⟨toHp d.1,d.2.1,d.2.2.1⟩
structure Mk (n:Nat) (d:WdD):Prop where
 made:P.Made n (toWd d)
 wb:WBo d.1.2.1
 n400:n<=400
theorem Mk.lens{n:Nat}{d:WdD}(h:Mk n d):P.Lens n (toWd d):=P.zxL n _ h.made h.n400
theorem Mk.hw{n:Nat}{d:WdD}(h:Mk n d):HpW d.1:=by
 have L:=h.lens;have c:=P.conf_prod L.conf;have c3:=P.zaj L.conf;have h1:=L.words;have h2:=L.pages;have e:(toWd d).h.pages.length=d.1.2.2.1.length:=qaj ..
 rw [e]at h2;have h3:(d.1.2.1.length:Int)=(toWd d).h.np*(toWd d).h.pw:=h1
 exact ⟨by omega,by omega,h.wb⟩
theorem ziQ(l:List Int)(a pw np:Int)(h0:0<=a)(h1:a<=100000000)(hc:confB pw np=true):
 Tot (fun (r:B0×A4×Unit)=>(1<=r.1.1.1/\r.1.1.1<=3/\0<=r.1.1.2.1/\r.1.1.2.1<=100/\0<=r.1.1.2.2.1/\r.1.1.2.2.1<4096)/\r.2.1.1=l/\a<=r.2.1.2.1/\r.2.1.2.1<=a+10) (F_made_Tape_Header ((l,a,()),(pw,np,()),())):=by
 have c:=zaT.1 hc;rw [zhs];dsimp only
 rw [zdm,qaa];dsimp only;have hq:W (pw.tdiv 4)=pw / 4:=by rw [qbB (by omega)];exact W_id (by omega)
 rw [hc,if_pos rfl,hq];have mask:∀ n:Int,0<=n->n<=100->∃ k:Nat,W (1*2 ^ min (U (if 12<if 32<n then 32 else n then 12 else if 32<n then 32 else n)).toNat IntKind.i64.bits)=((2 ^ k:Nat):Int)/\k<=12/\0<=U (if 12<if 32<n then 32 else n then 12 else if 32<n then 32 else n):=fun n n0 n1=>by
  obtain ⟨j,hj,hj2⟩:∃ j:Nat,(if 12<if 32<n then 32 else n then 12 else if 32<n then 32 else n)=(j:Int)/\j<=12:=by
   refine ⟨(if 12<if 32<n then 32 else n then 12 else if 32<n then 32 else n).toNat,?_,?_⟩ <;> (repeat' split) <;> omega
  rw [hj,U_id (by omega),qac]
  have hb:min j IntKind.i64.bits=j:=by
   have:IntKind.i64.bits=64:=rfl
   omega
  have e:(2:Int) ^ j=((2 ^ j:Nat):Int):=by rw [qck];rfl
  have hle:2 ^ j<=2 ^ 12:=qb2 (by omega) hj2
  have h12:(2:Nat) ^ 12=4096:=by decide
  refine ⟨j,?_,hj2,by omega⟩
  rw [hb,qbi,e];generalize 2 ^ j=z at hle ⊢
  exact W_id (by omega)
 have pk:∀ k:Nat,k<=12->((2 ^ k:Nat):Int)<=4096/\1<=((2 ^ k:Nat):Int):=fun k hk=>by
  have hle:2 ^ k<=2 ^ 12:=qb2 (by omega) hk
  have h12:(2:Nat) ^ 12=4096:=by decide
  have h0:0<2 ^ k:=qca (by omega)
  generalize 2 ^ k=z at hle h0 ⊢
  omega
 refine zad (zaq l a (pw / 4) h0 (by omega) (by omega)) ?_
 rintro ⟨⟨(v1:Int),_⟩,⟨(l1:List Int),(a1:Int),_⟩,_⟩ g1;have q1:=g1.lo;have q2:=g1.hi (by omega);have q3:=g1.l;have q4:=g1.a0;have q5:=g1.a1
 dsimp only at q1 q2 q3 q4 q5 ⊢
 subst q3;refine zad (zaq l1 a1 12 (by omega) (by omega) (by omega)) ?_
 rintro ⟨⟨(v2:Int),_⟩,⟨(l2:List Int),(a2:Int),_⟩,_⟩ g2;have r3:=g2.l;have r4:=g2.a0;have r5:=g2.a1
 dsimp only at r3 r4 r5 ⊢
 subst r3;refine zac (fun _=>?_) fun _=>?_
 . refine zad (zaq l2 a2 pw (by omega) (by omega) (by omega)) ?_
   rintro ⟨⟨(v3:Int),_⟩,⟨(l3:List Int),(a3:Int),_⟩,_⟩ g3;have s1:=g3.lo;have s2:=g3.hi (by omega);have s3:=g3.l;have s4:=g3.a0;have s5:=g3.a1
   dsimp only at s1 s2 s3 s4 s5 ⊢
   subst s3;refine zad (zaq l3 a3 4 (by omega) (by omega) (by omega)) ?_
   rintro ⟨⟨(v4:Int),_⟩,⟨(l4:List Int),(a4:Int),_⟩,_⟩ g4;have t3:=g4.l;have t4:=g4.a0;have t5:=g4.a1
   dsimp only at t3 t4 t5 ⊢
   subst t3;have w:W (pw / 4+v3)=pw / 4+v3:=W_id (by omega)
   rw [w];obtain ⟨k,m1,m2,m3⟩:=mask (pw / 4+v3) (by omega) (by omega)
   rw [m1];have hk:=pk k m2;obtain ⟨z,hz⟩:∃ z:Int,((2 ^ k:Nat):Int)=z:=⟨_,rfl⟩
   rw [hz]at hk ⊢
   refine zac (fun _=>zab ?_) fun _=>zac (fun _=>zab ?_) fun _=>zae ?_ ?_
   . exact ⟨⟨by dsimp only;omega,by dsimp only;omega,by dsimp only;omega,by dsimp only;omega,by dsimp only;omega,by dsimp only;omega⟩,rfl,by dsimp only;omega,by dsimp only;omega⟩
   . exact ⟨⟨by dsimp only;omega,by dsimp only;omega,by dsimp only;omega,by dsimp only;omega,by dsimp only;omega,by dsimp only;omega⟩,rfl,by dsimp only;omega,by dsimp only;omega⟩
   . simp only [qar,qag];omega
   refine zad (zaq l4 a4 _ (by omega) (by omega) (by omega)) ?_
   rintro ⟨⟨(v5:Int),_⟩,⟨(l5:List Int),(a5:Int),_⟩,_⟩ g5;have u1:=g5.lo;have u2:=g5.hi (by omega);have u3:=g5.l;have u4:=g5.a0;have u5:=g5.a1
   dsimp only at u1 u2 u3 u4 u5 ⊢
   subst u3;have wu:U32 v5=v5:=by rw [U32,IntKind.wrap_u32];omega
   rw [wu];refine zab ?_;dsimp only;refine ⟨⟨by omega,by omega,?_,?_,by omega,by omega⟩,rfl,by omega,by omega⟩ <;> split <;> omega
 . refine zad (zaq l2 a2 4 (by omega) (by omega) (by omega)) ?_
   rintro ⟨⟨(v4:Int),_⟩,⟨(l4:List Int),(a4:Int),_⟩,_⟩ g4;have t3:=g4.l;have t4:=g4.a0;have t5:=g4.a1
   dsimp only at t3 t4 t5 ⊢
   subst t3;obtain ⟨k,m1,m2,m3⟩:=mask v1 (by omega) (by omega)
   rw [m1];have hk:=pk k m2;obtain ⟨z,hz⟩:∃ z:Int,((2 ^ k:Nat):Int)=z:=⟨_,rfl⟩
   rw [hz]at hk ⊢
   refine zac (fun _=>zab ?_) fun _=>zac (fun _=>zab ?_) fun _=>zae ?_ ?_
   . exact ⟨⟨by dsimp only;omega,by dsimp only;omega,by dsimp only;omega,by dsimp only;omega,by dsimp only;omega,by dsimp only;omega⟩,rfl,by dsimp only;omega,by dsimp only;omega⟩
   . exact ⟨⟨by dsimp only;omega,by dsimp only;omega,by dsimp only;omega,by dsimp only;omega,by dsimp only;omega,by dsimp only;omega⟩,rfl,by dsimp only;omega,by dsimp only;omega⟩
   . simp only [qar,qag];omega
   refine zad (zaq l4 a4 _ (by omega) (by omega) (by omega)) ?_
   rintro ⟨⟨(v5:Int),_⟩,⟨(l5:List Int),(a5:Int),_⟩,_⟩ g5;have u1:=g5.lo;have u2:=g5.hi (by omega);have u3:=g5.l;have u4:=g5.a0;have u5:=g5.a1
   dsimp only at u1 u2 u3 u4 u5 ⊢
   subst u3;have wu:U32 v5=v5:=by rw [U32,IntKind.wrap_u32];omega
   rw [wu];refine zab ?_;dsimp only;refine ⟨⟨by omega,by omega,?_,?_,by omega,by omega⟩,rfl,by omega,by omega⟩ <;> split <;> omega
theorem zb2(n:Nat)(d:WdD)(hm:Mk n d)(l:List Int)(a:Int)(h0:0<=a)(h1:a<=100000000):
 Tot (fun (r:An)=>r.1.1∈0::(d.2.1++d.2.2.1)/\(0<=r.1.1/\r.1.1<18446744073709551616)/\r.2.1.1=l/\a<=r.2.1.2.1/\r.2.1.2.1<=a+1) (F_made_World_pick (d,(l,a,()),())):=by
 obtain ⟨h,st,wk,_⟩:=d;have L:=hm.lens;have n4:=hm.n400;have s1:st.length<=n:=L.stn
 have s2:wk.length<=n:=L.wkn
 rw [zie];dsimp only
 have hlen:(([0]:List Int)++st++wk).length=1+st.length+wk.length:=by simp;omega
 refine zae (zak.2 (by simp;omega)) (zae (zak.2 (by simp;omega)) (zad (zaq l a ((([0]:List Int)++st++wk).length:Int) h0 (by omega) (by rw [hlen];omega)) ?_))
 rintro ⟨⟨(v:Int),_⟩,⟨(l1:List Int),(a1:Int),_⟩,_⟩ g;have q1:=g.lo;have q2:=g.hi (by rw [hlen];omega);have q3:=g.l;have q4:=g.a0;have q5:=g.a1
 dsimp only at q1 q2 q3 q4 q5 ⊢
 have hmem:(([0]:List Int)++st++wk).getD v.toNat 0∈([0]:List Int)++st++wk:=zaJ (by rw [hlen]at q2 ⊢;omega)
 refine zae (zag.2 ⟨q1,q2⟩) (zab ?_);generalize (([0]:List Int)++st++wk).getD v.toNat 0=z at hmem ⊢
 have hz:z∈0::(st++wk):=by simpa using hmem
 refine ⟨hz,?_,q3,q4,q5⟩;rcases qas.1 hz with e | e
 . subst e;dsimp only;omega
 . rcases qak.1 e with e | e
   . exact L.st z e
   . exact L.wk z e
theorem zfD(n:Nat)(hn:n<400)(d:WdD)(hm:Mk n d)(k s m:Int)(h:1<=k/\k<=3/\0<=s/\s<=100/\0<=m/\m<4096):Tot (fun r=>Mk (n+1) r.1.1) (F_made_World_Put (d,(k,s,m,()),())):=by
 obtain ⟨g,st,wk,_⟩:=d;have L:=hm.lens;have s1:st.length<=n:=L.stn
 rw [zeM];dsimp only
 try rw [zas]
 have keep:Tot (fun r:(WdD×Unit)×Unit=>Mk (n+1) r.1.1) (some (((g,st,wk,()),()),())):=zab ⟨.step n _ _ hm.made (.none _),hm.wb,by omega⟩
 refine zad (zsm g hm.hw k s m (by omega)) ?_
 rintro ⟨⟨(g':HpD),(a:Int),(e:Int),_⟩,_⟩ ⟨h1,h2,h3⟩;dsimp only at h1 h2 h3 ⊢
 refine zae (zaz fun _=>zak.2 (by omega)) (zae (zaz fun _=>zak.2 (by simp;omega)) (zac (fun he=>zab ?_) fun _=>keep))
 simp only [qaz]at he;have hE:P.zcQ (toHp g) k s m=0:=by rw [<-h1];exact he
 have hst:=P.MStep.put (toWd (g,st,wk,())) k s m h.1 h.2.1 h.2.2.1 h.2.2.2.1 h.2.2.2.2.1 h.2.2.2.2.2 hE;have ew:toWd (g',st++[a],wk,())=P.putV (toWd (g,st,wk,())) k s m:=by
  unfold toWd P.putV;dsimp only;rw [h2,h3]
 refine ⟨?_,?_,by omega⟩
 . dsimp only;rw [ew];exact .step n _ _ hm.made hst
 . have hv:P.zay k s m=true:=by
    unfold P.zcQ P.zks P.zk7 at hE;cases hv:P.zay k s m
    . rw [hv]at hE;simp at hE
    . rfl
   have hwds:(P.zms (toHp g) k s m).words=g.2.1:=by
    unfold P.zms;split <;> rfl
   show WBo (toHp g').words
   rw [h2];unfold P.zdr;rw [if_pos hE];unfold P.ztE;split
   . exact P.zhT (by rw [hwds];exact hm.wb) (P.zzb hv (by omega))
   . exact P.WB.nil
end Go.VI
namespace Go.VI
open Go
theorem Mk.keep{n:Nat}(hn:n<400){d:WdD}(h:Mk n d):Mk (n+1) d:=⟨.step n _ _ h.made (.none _),h.wb,by omega⟩
theorem zjZ(n:Nat)(hn:n<400)(d:WdD)(hm:Mk n d)(l:List Int)(a:Int)(h0:0<=a)(h1:a<=10000000):
 Tot (fun (r:(WdD×Unit)×A4×Unit)=>Mk (n+1) r.1.1/\r.2.1.1=l/\a<=r.2.1.2.1/\r.2.1.2.1<=a+20) (F_made_World_Link (d,(l,a,()),())):=by
 obtain ⟨g,st,wk,_⟩:=d;rw [zig];dsimp only
 try rw [zas]
 refine zad (zb2 n _ hm l a h0 (by omega)) ?_
 rintro ⟨⟨(p:Int),_⟩,⟨(l1:List Int),(a1:Int),_⟩,_⟩ ⟨m1,m2,m3,m4,m5⟩;dsimp only at m1 m2 m3 m4 m5 ⊢
 subst m3;refine zad (zb2 n _ hm l1 a1 (by omega) (by omega)) ?_
 rintro ⟨⟨(q:Int),_⟩,⟨(l2:List Int),(a2:Int),_⟩,_⟩ ⟨k1,k2,k3,k4,k5⟩;dsimp only at k1 k2 k3 k4 k5 ⊢
 subst k3;refine zad (zaq l2 a2 8 (by omega) (by omega) (by omega)) ?_
 rintro ⟨⟨(v:Int),_⟩,⟨(l3:List Int),(a3:Int),_⟩,_⟩ g1;have q1:=g1.lo;have q2:=g1.hi (by omega);have q3:=g1.l;have q4:=g1.a0;have q5:=g1.a1
 dsimp only at q1 q2 q3 q4 q5 ⊢
 subst q3;refine zad (ziM g hm.hw p m2) ?_;rintro ⟨⟨⟨(hk:Int),(hn':Int),(hmm:Int),_⟩,(e:Int),_⟩,_⟩ ⟨he,hH⟩;dsimp only at he hH ⊢
 simp only [cor];refine zac (fun _=>zab ⟨hm.keep hn,rfl,by dsimp only;omega,by dsimp only;omega⟩) fun hc=>?_
 simp only [qaQ,qaB,qaI,ne_eq]at hc;obtain ⟨c1,c2⟩:=hc;have hg:P.getE (toHp g) p=0:=he.symm.trans c1
 have ek:(P.getH (toHp g) p).k=hk:=(congrArg P.Hd.k hH).symm
 have en:(P.getH (toHp g) p).n=hn':=(congrArg P.Hd.n hH).symm
 have em:(P.getH (toHp g) p).m=hmm:=(congrArg P.Hd.m hH).symm
 have hdat:P.getH (toHp g) p=P.hdOf (P.zaX (toHp g) p):=by
  have hat:P.atE (toHp g) p=0:=by
   unfold P.getE at hg;split at hg
   . split at hg
     . cases hg
     . split at hg
       . cases hg
       . exact hg
   . cases hg
  unfold P.getH;rw [if_pos hg];unfold P.atH;rw [if_pos hat]
 have hpos:0<=hn'/\hn'<4096:=by
  rw [<-en,hdat];simp only [P.hdOf];unfold P.dN;omega
 have hmb:0<=hmm/\hmm<4294967296:=by
  rw [<-em,hdat];simp only [P.hdOf];unfold P.dM;omega
 have hi0:0<=v.tmod hn':=Int.tmod_nonneg _ q1
 have hi1:v.tmod hn'<hn':=qcl _ (by omega)
 have fin:∀ (b:Int) (tp:A4),tp.1=l3->a<=tp.2.1->tp.2.1<=a+20->0<=b->b<18446744073709551616->(P.ptrB hk hn' hmm (v.tmod hn')=true->b∈0::(st++wk)) ->
  Tot (fun (r:(WdD×Unit)×A4×Unit)=>Mk (n+1) r.1.1/\r.2.1.1=l3/\a<=r.2.1.2.1/\r.2.1.2.1<=a+20) ((F_r05_SetField (g,p,v.tmod hn',b,())).bind fun (r:AM)=>some (((((r.1.1.1.1,r.1.1.1.2.1,()),r.1.1.2.1,r.1.1.2.2.1,r.1.1.2.2.2.1,r.1.1.2.2.2.2.1,()),st,wk,()),()),(tp.1,tp.2.1,()),())):=fun b tp t1 t2 t3 b0 b1 hb=>by
  refine zad (zn3 g hm.hw p (v.tmod hn') b m2) fun r hr=>zab ?_
  obtain ⟨⟨(g':HpD),(e':Int),_⟩,_⟩:=r;dsimp only at hr ⊢
  try rw [zas]
  refine ⟨⟨?_,?_,by omega⟩,t1,t2,t3⟩
  . have hs:=P.MStep.link (toWd (g,st,wk,())) p (v.tmod hn') b m1 hg hi0 (by show _<(P.getH (toHp g) p).n;rw [en];exact hi1) b0 b1 (by
     show P.ptrB (P.getH (toHp g) p).k (P.getH (toHp g) p).n (P.getH (toHp g) p).m _=true->_
     rw [ek,en,em];exact hb)
    have ew:toWd (g',st,wk,())={ toWd (g,st,wk,()) with h:=P.setV (toWd (g,st,wk,())).h p (v.tmod hn') b }:=by
     unfold toWd;dsimp only;rw [hr.1]
    rw [ew];exact .step n _ _ hm.made hs
  . show WBo (toHp g').words
    rw [hr.1];unfold P.setV;split
    . refine P.zhT hm.wb fun x hx=>?_
      rw [qaE]at hx;subst hx;exact ⟨b0,b1⟩
    . exact P.WB.nil
 refine zae (by simp;exact c2) (zad (zfn hk hn' hmm (v.tmod hn') hmb) ?_)
 rintro ⟨⟨(pt:Bool),_⟩,_⟩ hpt;dsimp only at hpt ⊢
 refine zac (fun h2=>?_) fun h2=>?_
 . refine zad (zaq l3 a3 1048576 (by omega) (by omega) (by omega)) ?_
   rintro ⟨⟨(u:Int),_⟩,⟨(l4:List Int),(a4:Int),_⟩,_⟩ g2;have r1:=g2.lo;have r2:=g2.hi (by omega);have r3:=g2.l;have r4:=g2.a0;have r5:=g2.a1
   dsimp only at r1 r2 r3 r4 r5 ⊢
   subst r3;have wu:U u=u:=U_id (by omega)
   rw [wu];exact fin u (l4,a4,()) rfl (by dsimp only;omega) (by dsimp only;omega) r1 (by omega) (fun c=>by rw [<-hpt]at c;rw [c]at h2;cases h2)
 . exact fin q (l3,a3,()) rfl (by dsimp only;omega) (by dsimp only;omega) k2.1 k2.2 (fun _=>k1)
theorem zk8(n:Nat)(hn:n<400)(d:WdD)(hm:Mk n d)(l:List Int)(a:Int)(h0:0<=a)(h1:a<=10000000):
 Tot (fun (r:(WdD×Unit)×A4×Unit)=>Mk (n+1) r.1.1/\r.2.1.1=l/\a<=r.2.1.2.1/\r.2.1.2.1<=a+20) (F_made_World_Pin (d,(l,a,()),())):=by
 obtain ⟨⟨⟨pw,np,_⟩,ws,ps,sp,bu,_⟩,st,wk,_⟩:=d;have L:=hm.lens;have hcf:P.confB pw np=true:=L.conf
 have c3:=P.zaj hcf;have hpl:=hm.hw.pl;dsimp only at hpl
 have hlm:(ps.map toPg).length=ps.length:=qaj ..
 rw [zjz];dsimp only
 refine zad (zb2 n _ hm l a h0 (by omega)) ?_
 rintro ⟨⟨(p:Int),_⟩,⟨(l1:List Int),(a1:Int),_⟩,_⟩ ⟨m1,m2,m3,m4,m5⟩;dsimp only at m1 m2 m3 m4 m5 ⊢
 subst m3;refine zad (ziO pw np p m2) ?_;rintro ⟨⟨(i:Int),(o:Int),(e:Int),_⟩,_⟩ ⟨g1,g2,g3⟩;dsimp only at g1 g2 g3 ⊢
 refine zac (fun _=>zab ⟨hm.keep hn,rfl,by dsimp only;omega,by dsimp only;omega⟩) fun he=>zae (zak.2 (by omega)) ?_
 simp only [qaB]at he;have hof:P.ofE pw np p=0:=g3.symm.trans he
 have hin:P.inAr pw np p=true:=by
  cases hq:P.inAr pw np p
  . have:=(P.zga (a:=p) hcf hq).2.2
    rw [this]at hof;cases hof
  . rfl
 obtain ⟨q1,q2,q3⟩:=P.zma hcf hin;have hia:=qat hin;have hpn:(ps.length:Int)=np:=by have:=L.pages;rw [<-hlm];exact this
 have hiN:0<=i/\i<ps.length:=by
  rw [g1,q1];refine ⟨qbU (by omega) (by omega),?_⟩
  rw [hpn];exact qcr (by omega) (by omega)
 obtain ⟨j,rfl⟩:=qaP hiN.1;have hj:j<ps.length:=by omega
 rw [qac];have hat:=zaF hj;have hpin:=L.pins (toPg (ps.getD j PG0)) (qa0 hat);generalize hG:ps.getD j PG0=G at *
 obtain ⟨gk,gs,gu,gp,_⟩:=G;have hpin:0<=gp/\gp<=n:=hpin
 have n4:=hm.n400;dsimp only;have wm:W (gp-1)=gp-1:=W_id (by omega)
 have wp:W (gp+1)=gp+1:=W_id (by omega)
 rw [wm,wp];have step:∀ (z:Int) (tp:A4),tp.1=l1->a<=tp.2.1->tp.2.1<=a+20->((0<gp/\z=gp-1)\/(z=gp+1/\(0<gp\/gk=2\/(P.zaZ (ps.map toPg):Int)<np / 4))) ->
  Tot (fun (r:(WdD×Unit)×A4×Unit)=>Mk (n+1) r.1.1/\r.2.1.1=l1/\a<=r.2.1.2.1/\r.2.1.2.1<=a+20) (some (((((pw,np,()),ws,ps.set j (gk,gs,gu,z,()),sp,bu,()),st,wk,()),()),(tp.1,tp.2.1,()),())):=fun z tp t1 t2 t3 hz=>by
  refine zab ⟨⟨?_,hm.wb,by omega⟩,t1,t2,t3⟩
  have hs:=P.MStep.pin (toWd (((pw,np,()),ws,ps,sp,bu,()),st,wk,())) p j (toPg (gk,gs,gu,gp,())) z m1 hof g1.symm hat hz;have ew:toWd (((pw,np,()),ws,ps.set j (gk,gs,gu,z,()),sp,bu,()),st,wk,())={ toWd (((pw,np,()),ws,ps,sp,bu,()),st,wk,()) with h:={ (toWd (((pw,np,()),ws,ps,sp,bu,()),st,wk,())).h with pages:=(ps.map toPg).set j ⟨gk,gs,gu,z⟩ } }:=by
   unfold toWd toHp;dsimp only;rw [qba];rfl
  dsimp only;rw [ew];exact .step n _ _ hm.made hs
 have same:∀ (tp:A4),tp.1=l1->a<=tp.2.1->tp.2.1<=a+20 ->
  Tot (fun (r:(WdD×Unit)×A4×Unit)=>Mk (n+1) r.1.1/\r.2.1.1=l1/\a<=r.2.1.2.1/\r.2.1.2.1<=a+20) (some (((((pw,np,()),ws,ps,sp,bu,()),st,wk,()),()),(tp.1,tp.2.1,()),())):=fun tp t1 t2 t3=>zab ⟨hm.keep hn,t1,t2,t3⟩
 have hq4:W (np.tdiv 4)=np / 4:=by rw [qbB (by omega)];exact W_id (by omega)
 rw [hq4];have more:∀ (tp:A4),tp.1=l1->a<=tp.2.1->tp.2.1<=a+20->Tot (fun (r:(WdD×Unit)×A4×Unit)=>Mk (n+1) r.1.1/\r.2.1.1=l1/\a<=r.2.1.2.1/\r.2.1.2.1<=a+20)
  (bif decide (gp > 0) then some (((((pw,np,()),ws,ps.set j (gk,gs,gu,gp+1,()),sp,bu,()),st,wk,()),()),(tp.1,tp.2.1,()),())
  else bif gk == 2 then some (((((pw,np,()),ws,ps.set j (gk,gs,gu,gp+1,()),sp,bu,()),st,wk,()),()),(tp.1,tp.2.1,()),())
  else (F_made_crowd (((pw,np,()),ws,ps,sp,bu,()),())).bind
   fun (r_2:Aa)=>
   bif !(4:Int) == 0 then
   bif decide (r_2.1.1<np / 4) then some (((((pw,np,()),ws,ps.set j (gk,gs,gu,gp+1,()),sp,bu,()),st,wk,()),()),(tp.1,tp.2.1,()),())
   else some (((((pw,np,()),ws,ps,sp,bu,()),st,wk,()),()),(tp.1,tp.2.1,()),())
   else none):=fun tp t1 t2 t3=>by
  refine zac (fun h2=>step _ tp t1 t2 t3 (.inr ⟨rfl,.inl (by simpa using h2)⟩)) fun _=>zac (fun h2=>step _ tp t1 t2 t3 (.inr ⟨rfl,.inr (.inl (by simpa using h2))⟩)) fun _=>zad (zkG _ hpl) ?_
  rintro ⟨⟨(cr:Int),_⟩,_⟩ hcr;dsimp only at hcr ⊢
  exact zae rfl (zac (fun h2=>step _ tp t1 t2 t3 (.inr ⟨rfl,.inr (.inr (by rw [<-hcr];simpa using h2))⟩)) fun _=>same tp t1 t2 t3)
 refine zae (zag.2 ⟨by omega,by omega⟩) (zac (fun h2=>?_) fun _=>more (l1,a1,()) rfl (by dsimp only;omega) (by dsimp only;omega))
 simp only [qab]at h2;refine zad (zaq l1 a1 2 (by omega) (by omega) (by omega)) ?_
 rintro ⟨⟨(v:Int),_⟩,⟨(l2:List Int),(a2:Int),_⟩,_⟩ g4;have r3:=g4.l;have r4:=g4.a0;have r5:=g4.a1
 dsimp only at r3 r4 r5 ⊢
 subst r3;exact zac (fun _=>step _ (l2,a2,()) rfl (by dsimp only;omega) (by dsimp only;omega) (.inl ⟨h2,rfl⟩)) fun _=>more (l2,a2,()) rfl (by dsimp only;omega) (by dsimp only;omega)
theorem zj0(n:Nat)(hn:n<400)(d:WdD)(hm:Mk n d)(l:List Int)(a:Int)(h0:0<=a)(h1:a<=10000000):
 Tot (fun (r:(WdD×Unit)×A4×Unit)=>Mk (n+1) r.1.1/\r.2.1.1=l/\a<=r.2.1.2.1/\r.2.1.2.1<=a+20) (F_made_World_Drop (d,(l,a,()),())):=by
 obtain ⟨g,st,wk,_⟩:=d;have L:=hm.lens;have n4:=hm.n400;have s1:st.length<=n:=L.stn
 have s2:wk.length<=n:=L.wkn
 rw [zih];dsimp only
 try rw [zas]
 refine zac (fun h2=>?_) fun _=>zab ⟨hm.keep hn,rfl,by dsimp only;omega,by dsimp only;omega⟩
 simp only [qab]at h2;refine zad (zaq l a (st.length:Int) h0 (by omega) (by omega)) ?_
 rintro ⟨⟨(v:Int),_⟩,⟨(l1:List Int),(a1:Int),_⟩,_⟩ g1;have q1:=g1.lo;have q2:=g1.hi (by omega);have q3:=g1.l;have q4:=g1.a0;have q5:=g1.a1
 dsimp only at q1 q2 q3 q4 q5 ⊢
 subst q3;refine zad (zaq l1 a1 3 (by omega) (by omega) (by omega)) ?_
 rintro ⟨⟨(u:Int),_⟩,⟨(l2:List Int),(a2:Int),_⟩,_⟩ g2;have r3:=g2.l;have r4:=g2.a0;have r5:=g2.a1
 dsimp only at r3 r4 r5 ⊢
 subst r3;obtain ⟨j,rfl⟩:=qaP q1;have hj:j<st.length:=by omega
 have w1:W ((j:Int)+1)=((j+1:Nat):Int):=by rw [W_id (by omega)];omega
 rw [w1];simp only [qac,Int.toNat_zero,qb3];have hx:st[j]?=some (st.getD j 0):=by rw [qax,qaq hj];rfl
 have et:st.take st.length=st:=List.take_length
 rw [et];have l1':(List.take j st).length=j:=by rw [qau];omega
 have l2':(List.drop (j+1) st).length=st.length-(j+1):=qaK
 refine zae (zaz fun _=>zak.2 (by omega)) (zae (zaz fun _=>zag.2 ⟨by omega,by omega⟩) (zae (zaz fun _=>zak.2 (by simp;omega)) (zac (fun _=>?_) fun _=>?_)))
 all_goals refine zae (qad (by omega)) (zae (zak.2 (by omega)) (zae (qad (by omega)) (zae (zak.2 (by omega)) (zab ⟨⟨?_,hm.wb,by omega⟩,rfl,by dsimp only;omega,by dsimp only;omega⟩))))
 . exact .step n _ _ hm.made (.drop (toWd (g,st,wk,())) j _ true hx)
 . exact .step n _ _ hm.made (.drop (toWd (g,st,wk,())) j _ false hx)
end Go.VI
namespace Go.VI
open Go
theorem zoZ(ws:List Int)(a n:Int)(hl:ws.length<=100000000)(ha:0<=a/\a<18446744073709551616):Tot (fun r=>r.1.1=P.zl0 ws a n/\r.1.2.1=P.zpk ws a n) (F_r02_Read (ws,a,n,())):=by
 rw [ztt];dsimp only
 refine zac (fun h=>zab ?_) fun h=>?_
 . obtain ⟨e1,e2⟩:=P.zyF (xs:=ws) (a:=a) (n:=n) (by simpa using h)
   rw [e1,e2];exact ⟨rfl,rfl⟩
 simp only [qag]at h;obtain ⟨k,rfl⟩:=qaP (show 0<=n by omega)
 refine zad (zjX ws a k hl ha) ?_;rintro ⟨⟨(i:Int),(b:Bool),_⟩,_⟩ ⟨h1,h2⟩;dsimp only at h1 h2 ⊢
 refine zac (fun h3=>zab ?_) fun h3=>?_
 . simp only [qar]at h3;obtain ⟨e1,e2⟩:=P.read_no (h1.symm.trans h3);rw [e1,e2];exact ⟨rfl,rfl⟩
 simp only [qaw]at h3;have hok:=h1.symm.trans h3;have hi:=h2 h3;have hb:=P.zav.1 hok;obtain ⟨j,hj⟩:=qaP (show 0<=a-4096 by omega)
 have ha4:a=4096+(j:Int):=by omega
 rw [hj]at hi;subst hi ha4;obtain ⟨e1,e2⟩:=P.read_ok hok;have w:W ((j:Int)+k)=((j+k:Nat):Int):=by rw [W_id (by omega)];omega
 rw [e1,e2,w];simp only [qac,qaS];have hd:List.drop j (List.take (j+k) ws)=List.take k (List.drop j ws):=by rw [qbK];congr 1;omega
 rw [hd];refine zae (qad (by omega)) (zae (zak.2 ?_) (zab ⟨rfl,rfl⟩))
 rw [qau,qaK];omega
theorem zwk(ws:List Int)(t f n:Int)(hl:ws.length<=100000000)(ht:0<=t/\t<18446744073709551616)(hf:0<=f/\f<18446744073709551616):Tot (fun r=>r.1.1=P.zdy ws t f n/\r.1.2.1=P.zvU ws t f n) (F_r02_Move (ws,t,f,n,())):=by
 rw [ztu];dsimp only
 refine zad (zoZ ws f n hl hf) ?_;rintro ⟨⟨(l:List Int),(e:Int),_⟩,_⟩ ⟨h1,h2⟩;dsimp only at h1 h2 ⊢
 unfold P.zl0 at h1;unfold P.zpk at h2;unfold P.zdy P.zvU;by_cases hn:n<0
 . rw [if_pos hn]at h1 h2;subst h1 h2;rw [if_pos hn,if_pos hn];exact zac (fun _=>zab ⟨rfl,rfl⟩) fun c=>by simp at c
 rw [if_neg hn]at h1 h2;rw [if_neg hn,if_neg hn];cases hb:P.okA ws.length f n.toNat
 . rw [hb]at h1 h2;simp only [qbm,qbj]at h1 h2;subst h1 h2;simp only [qbm,and_false,qbj];exact zac (fun _=>zab ⟨rfl,rfl⟩) fun c=>by simp at c
 rw [hb]at h1 h2;simp only [if_true]at h1 h2;subst h2;have hbb:=P.zav.1 hb;have hll:l.length=n.toNat:=by rw [h1,qau,qaK];omega
 refine zac (fun c=>by simp at c) fun _=>zad (zfo ws t l hl (by omega) ht) fun r hr=>zab ?_
 obtain ⟨r1,r2⟩:=hr;rw [r1,r2];unfold P.zaI P.zdI;rw [hll];cases hc:P.okA ws.length t n.toNat
 . simp
 . simp [h1]
theorem zkF(x:Nat)(hx:x<18446744073709551616):Tot (fun r=>r.1.1=P.tgtV x/\r.1.2.1=P.okT x) (F_r03_Target ((x:Int),())):=by
 have d1:(2:Int) ^ min (Int.toNat 2) IntKind.u64.bits=((4:Nat):Int):=by decide
 rw [zpC];dsimp only
 rw [d1,zdV x 4 (by omega),qb9 (by omega)]
 simp only [cor];refine zae rfl (zae ?_ (zac (fun h=>zab ?_) fun h=>zae (by decide) (zab ?_)))
 . simp
 . simp only [qaZ,qaC,ne_eq,qab]at h;have hn:P.okT x=false:=by
    unfold P.okT;rw [qbC,qag,qag];omega
   rw [hn,P.tgt_no hn];exact ⟨rfl,rfl⟩
 . simp only [qaQ,qaB,qag]at h;have hn:P.okT x=true:=by
    unfold P.okT;rw [qae,qab,qab];omega
   rw [hn,P.zzA hn];exact ⟨rfl,rfl⟩
theorem zqn(a:Int)(ha:0<=a/\a<18446744073709551616):Tot (fun r=>r.1.1=P.fwdV a/\r.1.2.1=P.fwdE a) (F_r03_Forward (a,())):=by
 rw [znJ];dsimp only
 unfold P.fwdV P.fwdE;refine zac (fun h=>zab ?_) fun h=>zab ?_
 . simp only [qab]at h;rw [if_neg (by omega),if_neg (by omega)];exact ⟨rfl,rfl⟩
 . simp only [qag]at h;rw [if_pos (by omega),if_pos (by omega)]
   have w1:U (4*a)=4*a:=U_id (by omega)
   have w2:U (4*a+2)=4*a+2:=U_id (by omega)
   dsimp only;rw [w1,w2];exact ⟨rfl,rfl⟩
theorem zn4(k n m:Int)(hm:0<=m/\m<4294967296)(hn:n<=1000000):Tot (fun r=>r.1.1=P.zgU k n m) (F_r03_Pointers ((k,n,m,()),())):=by
 rw [zmk];dsimp only
 rw [zdX k n m hm];cases hv:P.zay k n m
 . rw [P.zxc hv];refine zad (P:=fun r=>r.2.1.1=[]) (zai (fun x=>x.2.1.1=[]) (fun _=>0) rfl ?_) fun r hr=>zab hr
   rintro ⟨⟨_,(i:Int),_⟩,⟨(l:List Int),_⟩,_⟩ e;dsimp only at e ⊢
   exact zac (fun _=>zab e) fun _=>zab e
 . have c:=P.zax hv;rw [P.zs0 hv];refine zad (P:=fun r=>r.2.1.1=P.zdf k n m n.toNat) (zai (fun x=>∃ j:Nat,x.1.2.1=(j:Int)/\j<=n.toNat/\x.2.1.1=P.zdf k n m j/\x.2.1.1.length<=j) (fun x=>(n-x.1.2.1).toNat) ⟨0,rfl,by omega,rfl,by simp⟩ ?_) fun r hr=>zab hr
   rintro ⟨⟨_,(i:Int),_⟩,⟨(l:List Int),_⟩,_⟩ ⟨j,e1,e2,e3,e4⟩;dsimp only at e1 e2 e3 e4 ⊢
   subst e1;refine zac (fun h=>?_) fun h=>zab ?_
   . simp only [qab]at h;rw [qaa];dsimp only;have w:W ((j:Int)+1)=j+1:=W_id (by omega)
     rw [w];refine zac (fun _=>zad (zfn k n m j hm) ?_) fun c=>by cases c
     rintro ⟨⟨(b:Bool),_⟩,_⟩ hb;dsimp only at hb ⊢
     have hs:=P.zl1 k n m j;rw [<-hb]at hs;refine zae (zaz fun _=>zak.2 (by simp;omega)) (zac (fun h2=>zab ?_) fun h2=>zab ?_)
     . rw [if_pos h2]at hs;simp only [qam];exact ⟨⟨j+1,by omega,by omega,by rw [hs,e3],by simp;omega⟩,by omega⟩
     . rw [if_neg (by rw [h2];decide)]at hs
       simp only [qam];exact ⟨⟨j+1,by omega,by omega,by rw [hs,e3],by omega⟩,by omega⟩
   . simp only [qag]at h;simp only [qal];rw [e3,show j=n.toNat by omega]
end Go.VI
namespace Go.VI
open Go
theorem ziP(pw np p o:Int):Tot (fun r=>r.1.1=P.zbm pw np p o/\r.1.2.1=P.zmV pw np p o) (F_r04_Address ((pw,np,()),p,o,())):=by
 rw [znH];dsimp only
 rw [zbj,qaa];dsimp only;simp only [cor];refine zac (fun h=>zab ?_) fun h=>?_
 . obtain ⟨e1,e2⟩:=P.addr_no (pw:=pw) (np:=np) (p:=p) (o:=o) (by simpa [zaD] using h)
   rw [e1,e2];exact ⟨rfl,rfl⟩
 simp only [qaw]at h;have hc:P.confB pw np=true:=by rw [zaD];exact h
 obtain ⟨c1,c2⟩:=P.conf_prod hc;have c3:=P.zaj hc;refine zac (fun h1=>zab ?_) fun h1=>zab ?_
 . simp only [qaZ,qab]at h1;obtain ⟨e1,e2⟩:=P.zql (p:=p) (o:=o) hc (by unfold P.inPg;exact qai (by omega))
   rw [e1,e2];exact ⟨rfl,rfl⟩
 . simp only [qaQ,qag]at h1;obtain ⟨e1,e2⟩:=P.zhE (p:=p) (o:=o) hc (by unfold P.inPg;exact qad (by omega))
   have kp:=P.zaM hc (p:=p) (by omega) (by omega)
   have v1:W (p*pw)=p*pw:=W_id (by omega)
   have v2:W (4096+p*pw)=4096+p*pw:=W_id (by omega)
   have v3:W (4096+p*pw+o)=4096+p*pw+o:=W_id (by omega)
   have v4:U (4096+p*pw+o)=4096+p*pw+o:=U_id (by omega)
   dsimp only;rw [v1,v2,v3,v4,e1,e2];exact ⟨rfl,rfl⟩
theorem zwS{pw np:Int}{ps:List P.Pg}{i:Nat}{x:P.Pg}(hc:P.confB pw np=true)(h:P.zbt pw np ps=true)(hx:ps[i]?=some x)(hk:x.kind=1\/x.kind=2):0<=x.used/\x.used<=1000:=by
 have c3:=P.zaj hc;have:=P.za0.1 h i x hx
 unfold P.zbn at this;rcases hk with hk | hk
 . obtain ⟨-,b,-⟩:=P.zls h hx hk;omega
 . rw [if_neg (by omega),if_neg (by omega),if_pos hk]at this
   unfold P.zcz at this;simp only [qae,qab]at this;obtain ⟨⟨⟨⟨_,a2⟩,_⟩,_⟩,_⟩:=this;have h4:=P.zgf pw np x.used;have h1:1<=x.used:=by
    by_cases hq:1<=x.used
    . exact hq
    . rw [P.zhw (.inr (by omega))]at a2;omega
   rw [P.zhv hc h1]at a2 h4;have hb:=P.zuX (pw:=pw) (n:=x.used) (by omega)
   have:P.zeS pw x.used*pw<=4*64:=by
    calc P.zeS pw x.used*pw<=4*pw:=qaV h4 (by omega)
     _<=4*64:=by omega
   omega
theorem zjW(h:HpD)(hw:HpW h)(i:Int):Tot (fun r=>r.1.1=P.zaQ (toHp h) i/\r.1.2.1=P.zbx (toHp h) i) (F_r06_Page (h,i,())):=by
 rw [ztk];dsimp only
 try rw [zas]
 refine zad (za3 _ hw) fun r hr=>?_
 obtain ⟨⟨(b:Bool),_⟩,_⟩:=r;have hb:b=P.okH (toHp h):=hr
 subst hb;dsimp only;simp only [cor];have hlm:(toHp h).pages.length=h.2.2.1.length:=qaj ..
 refine zac (fun h1=>zab ?_) fun h1=>zac (fun h2=>zab ?_) fun h2=>?_
 . obtain ⟨e1,e2⟩:=P.zpq (i:=i) (show P.okH (toHp h)=false by simpa using h1)
   rw [e1,e2];exact ⟨rfl,rfl⟩
 . simp only [qaw]at h1;simp only [qaZ,qab]at h2;obtain ⟨e1,e2⟩:=P.zpp (i:=i) h1 (by rw [hlm];omega)
   rw [e1,e2];exact ⟨rfl,rfl⟩
 simp only [qaw]at h1;simp only [qaQ,qag]at h2;have hin:¬(i<0\/(toHp h).pages.length<=i):=by rw [hlm];omega
 obtain ⟨j,rfl⟩:=qaP (show 0<=i by omega)
 obtain ⟨p1,p2,p3,p4,p5,p6⟩:=P.zaN (zf9 h1);have hj:j<h.2.2.1.length:=by omega
 have hat:(toHp h).pages[j]?=some (toPg (h.2.2.1.getD j PG0)):=zaF hj
 have hpg:P.pgAt (toHp h) (j:Int)=toPg (h.2.2.1.getD j PG0):=by
  unfold P.pgAt;rw [qac];exact P.zam hat
 rw [qac];have hub:=fun hk=>zwS p1 p6 hat hk
 generalize hG:h.2.2.1.getD j PG0=G at hpg hub
 obtain ⟨gk,gs,gu,gp,_⟩:=G;have hk:(P.pgAt (toHp h) (j:Int)).kind=gk:=by rw [hpg];rfl
 have hu:(P.pgAt (toHp h) (j:Int)).used=gu:=by rw [hpg];rfl
 have hub:gk=1\/gk=2->0<=gu/\gu<=1000:=hub
 dsimp only;refine zae (zag.2 ⟨by omega,by omega⟩) (zac (fun h3=>zab ?_) fun h3=>?_)
 . simp only [qaZ,qaz]at h3;obtain ⟨e1,e2⟩:=P.zf3 h1 hin (by rw [hk];exact h3)
   rw [e1,e2];exact ⟨rfl,rfl⟩
 simp only [qaQ,qaI,ne_eq]at h3;have hnk:¬((P.pgAt (toHp h) (j:Int)).kind=0\/(P.pgAt (toHp h) (j:Int)).kind=3):=by rw [hk];omega
 have hk12:gk=1\/gk=2:=by
  have:=P.za0.1 p6 j _ hat
  rw [hG]at this;unfold P.zbn at this;have e:(toPg (gk,gs,gu,gp,())).kind=gk:=rfl
  rw [e]at this;by_cases k1:gk=1
  . exact .inl k1
  . by_cases k2:gk=2
    . exact .inr k2
    . rw [if_neg h3.1,if_neg k1,if_neg k2,if_neg h3.2]at this;cases this
 have hgu:=hub hk12;have hW:P.zeI (toHp h) (j:Int)=P.zcL (toHp h) j (decide (gk=2)) gu.toNat 0:=by
  unfold P.zeI;rw [hk,hu]
 refine zad (P:=fun r=>match r with
  | .inl x=>x.1.1=[]/\x.1.2.1=19/\P.zeI (toHp h) (j:Int)=none
  | .inr y=>P.zeI (toHp h) (j:Int)=some y.2.1.1) (zai (fun x=>∃ o:Nat,x.1.2.2.2.1=(o:Int)/\P.zcR (toHp h) j (decide (gk=2)) gu.toNat o x.2.1.1/\x.2.1.1.length<=o/\o<=2000) (fun x=>(gu-x.1.2.2.2.1).toNat) ⟨0,rfl,P.zcR.start _ _ _ _,by simp,by omega⟩ ?_) ?_
 . rintro ⟨⟨q1,q2,_,(o':Int),_⟩,⟨(acc:List Int),_⟩,_⟩ ⟨o,e1,e2,e3,e4⟩;dsimp only at e1 e2 e3 ⊢
   subst e1;refine zac (fun h4=>?_) fun h4=>zab ?_
   . simp only [qab]at h4;have hlt:o<gu.toNat:=by omega
     refine zad (ziP h.1.1 h.1.2.1 j o) ?_;rintro ⟨⟨(a:Int),_,_⟩,_⟩ ⟨ha,-⟩;dsimp only at ha ⊢
     have ha':a=P.zbm (toHp h).pw (toHp h).np j o:=ha
     have hab:=P.zmU (toHp h).pw (toHp h).np j o;rw [<-ha']at hab;refine zad (zgO h hw a hab) ?_;rintro ⟨⟨⟨(k:Int),(n:Int),(m:Int),_⟩,(e:Int),_⟩,_⟩ ⟨he,hH⟩;dsimp only at he hH ⊢
     refine zac (fun h5=>zab ?_) fun h5=>zae (zak.2 (by simp;omega)) ?_
     . simp only [qaC,ne_eq]at h5;simp only [qal];refine ⟨by trivial,by trivial,?_⟩
       rw [hW];exact e2.bad hlt (by rw [<-ha',<-he];exact h5)
     . simp only [qaB]at h5;have he0:P.atE (toHp h) a=0:=he.symm.trans h5
       have he0':=he0;rw [ha']at he0'
       refine zac (fun h6=>zab ?_) fun h6=>?_
       . simp only [qaz]at h6;rw [show decide (gk=2)=true from qad h6]at e2 hW
         simp only [qal];rw [hW,e2.big hlt he0',ha']
       . simp only [qaI,ne_eq]at h6;have hdf:decide (gk=2)=false:=qai h6
         obtain ⟨-,a2,a3,a4,a5,a6⟩:=P.zjT he0;have ek:(P.atH (toHp h) a).k=k:=(congrArg P.Hd.k hH).symm
         have en:(P.atH (toHp h) a).n=n:=(congrArg P.Hd.n hH).symm
         have em:(P.atH (toHp h) a).m=m:=(congrArg P.Hd.m hH).symm
         rw [ek,en,em]at a2;rw [em]at a3 a4;rw [en]at a5 a6;rw [zcq k n m ⟨a3,a4⟩,qaa,P.zcv a2];dsimp only;have w:W ((o:Int)+(n+1))=((o+(n.toNat+1):Nat):Int):=by rw [W_id (by omega)];omega
         rw [w];have hs:=e2;rw [hdf]at hs;have hs:=hs.step hlt he0';rw [<-ha',en]at hs;refine zab ?_;simp only [qam];exact ⟨⟨o+(n.toNat+1),rfl,by rw [hdf];exact hs,by simp;omega,by omega⟩,by omega⟩
   . simp only [qag]at h4;simp only [qal];rw [hW];exact e2.fin (by omega)
 . rintro r hr;refine zaR (fun x hx=>?_) fun y hy=>?_
   . subst hx;obtain ⟨g1,g2,g3⟩:=hr;obtain ⟨e1,e2⟩:=P.zq6 h1 hin hnk g3;exact zab (by rw [e1,e2];exact ⟨g1,g2⟩)
   . subst hy;obtain ⟨e1,e2⟩:=P.zq5 h1 hin hnk hr;exact zab (by rw [e1,e2];exact ⟨rfl,rfl⟩)
end Go.VI
namespace Go.VI
open Go
theorem getD_some{l:List Int}{k:Nat}(h:k<l.length):l[k]?=some (l.getD k 0):=by
 rw [qax,qaq h];rfl
theorem zsn(h:HpD)(hw:HpW h):Tot (fun r=>r.1.1=P.zbf (toHp h)/\r.1.2.1=P.zck (toHp h)) (F_r06_Starts (h,())):=by
 rw [zpy];dsimp only
 try rw [zas]
 refine zad (za3 _ hw) fun r hr=>?_
 obtain ⟨⟨(b:Bool),_⟩,_⟩:=r;have hb:b=P.okH (toHp h):=hr
 subst hb;dsimp only;have hlm:(toHp h).pages.length=h.2.2.1.length:=qaj ..
 refine zac (fun h1=>zab ?_) fun h1=>?_
 . obtain ⟨e1,e2⟩:=P.zof (show P.okH (toHp h)=false by simpa using h1)
   rw [e1,e2];exact ⟨rfl,rfl⟩
 simp only [qaw]at h1;have hpl:=hw.pl;refine zad (P:=fun r=>match r with
  | .inl x=>x.1.1=[]/\x.1.2.1=P.zck (toHp h)/\P.zbf (toHp h)=[]
  | .inr y=>P.zck (toHp h)=0/\P.zbf (toHp h)=y.2.1.1) (zai (fun x=>∃ k:Nat,x.1.2.2.2.1=(k:Int)/\k<=h.2.2.1.length/\x.2.1.1=P.zbC (toHp h) k/\∀ t:Nat,t<k->P.zbx (toHp h) t=0) (fun x=>((h.2.2.1.length:Int)-x.1.2.2.2.1).toNat) ⟨0,rfl,by omega,rfl,fun t ht=>by omega⟩ ?_) ?_
 . rintro ⟨⟨q1,q2,_,(k':Int),_⟩,⟨(acc:List Int),_⟩,_⟩ ⟨k,e1,e2,e3,e4⟩;dsimp only at e1 e3 ⊢
   subst e1 e3;refine zac (fun h4=>?_) fun h4=>zab ?_
   . simp only [qab]at h4;have hk:k<h.2.2.1.length:=by omega
     refine zad (zjW h hw k) ?_;rintro ⟨⟨(l:List Int),(e:Int),_⟩,_⟩ ⟨hl,he⟩;dsimp only at hl he ⊢
     have w:W ((k:Int)+1)=((k+1:Nat):Int):=by rw [W_id (by omega)];omega
     rw [w];refine zac (fun h5=>zab ?_) fun h5=>zae (zak.2 ?_) (zab ?_)
     . simp only [qaC,ne_eq]at h5;rw [he]at h5;have h19:P.zbx (toHp h) k=19:=P.zxl h1 (by rw [hlm];omega) h5
       obtain ⟨s1,s2⟩:=P.zqS h1 (by rw [hlm];exact hk) h5
       simp only [qal];exact ⟨by trivial,by rw [he,h19,s1],s2⟩
     . have l1:=P.zfW h1 k;have l2:=P.zf4 (i:=(k:Int)) h1
       rw [<-hl]at l2;omega
     . simp only [qaB]at h5;simp only [qam];refine ⟨⟨k+1,rfl,by omega,by rw [P.zfa,hl],fun t ht=>?_⟩,by omega⟩
       by_cases htk:t=k
       . subst htk;rw [<-he];exact h5
       . exact e4 t (by omega)
   . simp only [qag]at h4;simp only [qal];have hk:k=h.2.2.1.length:=by omega
     obtain ⟨s1,s2⟩:=P.zlQ h1 (fun t ht=>e4 t (by rw [hlm]at ht;omega))
     rw [s1,s2,hlm,hk];exact ⟨rfl,rfl⟩
 . rintro r hr;refine zaR (fun x hx=>?_) fun y hy=>?_
   . subst hx;exact zab ⟨by rw [hr.2.2];exact hr.1,hr.2.1⟩
   . subst hy;exact zab ⟨hr.2.symm,hr.1.symm⟩
theorem zdW(l:List Int)(a:Int)(hl:l.length<=100000000):Tot (fun r=>r.1.1=decide (a∈l)) (F_r06_Has (l,a,())):=by
 rw [zvP];dsimp only
 refine zad (P:=fun r=>match r with
  | .inl x=>x.1.1=true/\a∈l
  | .inr _=>¬a∈l) (zai (fun x=>∃ k:Nat,x.1.2.1=(k:Int)/\k<=l.length/\¬a∈l.take k) (fun x=>((l.length:Int)-x.1.2.1).toNat) ⟨0,rfl,by omega,by simp⟩ ?_) ?_
 . rintro ⟨⟨(b:Bool),(k':Int),_⟩,_⟩ ⟨k,e1,e2,e3⟩;dsimp only at e1 ⊢
   subst e1;refine zac (fun h4=>?_) fun h4=>zab ?_
   . simp only [qab]at h4;have hk:k<l.length:=by omega
     have w:W ((k:Int)+1)=((k+1:Nat):Int):=by rw [W_id (by omega)];omega
     rw [w,qac];refine zae (zag.2 ⟨by omega,h4⟩) (zac (fun h5=>zab ?_) fun h5=>zab ?_)
     . simp only [qaz]at h5;simp only [qal];exact ⟨by trivial,by rw [<-h5];exact zaJ hk⟩
     . simp only [qaI,ne_eq]at h5;simp only [qam];refine ⟨⟨k+1,rfl,by omega,?_⟩,by omega⟩
       rw [P.zbd (getD_some hk),qak,qaE];rintro (c | c)
       . exact e3 c
       . exact h5 c.symm
   . simp only [qag]at h4;simp only [qal];rwa [qa3 (by omega)]at e3
 . rintro r hr;refine zaR (fun x hx=>?_) fun y hy=>zab ?_
   . subst hx;exact zab (by rw [qad hr.2];exact hr.1)
   . subst hy;exact (qai hr).symm
theorem zdz(h:HpD)(hw:HpW h):Tot (fun r=>r.1.1=P.zaf (toHp h)/\r.1.2.1=P.zck (toHp h)) (F_r06_Objects (h,())):=by
 rw [znF];dsimp only
 try rw [zas]
 refine zad (zsn h hw) ?_;rintro ⟨⟨(l:List Int),(e:Int),_⟩,_⟩ ⟨hl,he⟩;dsimp only at hl he ⊢
 have hlb:=P.zcj (toHp h);have hwb:=P.zog (toHp h);rw [<-hl]at hlb hwb;have hO:P.zaf (toHp h)=P.zca (toHp h) l:=by unfold P.zaf;rw [hl]
 rw [hO];refine zad (P:=fun r=>r.2.1.1=P.zca (toHp h) l) (zai (fun x=>∃ k:Nat,x.1.2.1=(k:Int)/\k<=l.length/\x.2.1.1=P.zca (toHp h) (l.take k)) (fun x=>((l.length:Int)-x.1.2.1).toNat) ⟨0,rfl,by omega,rfl⟩ ?_) fun r hr=>zab ⟨hr,he⟩
 rintro ⟨⟨_,(k':Int),_⟩,⟨(acc:List Int),_⟩,_⟩ ⟨k,e1,e2,e3⟩;dsimp only at e1 e3 ⊢
 subst e1 e3;refine zac (fun h4=>?_) fun h4=>zab ?_
 . simp only [qab]at h4;have hk:k<l.length:=by omega
   have w:W ((k:Int)+1)=((k+1:Nat):Int):=by rw [W_id (by omega)];omega
   have hx:=getD_some hk;rw [w,qac];have hin:inB (k:Int) l.length=true:=zag.2 ⟨by omega,h4⟩
   refine zae hin (zad (zgO h hw (l.getD k 0) (hwb _ (zaJ hk))) ?_);rintro ⟨⟨⟨(hk':Int),(n:Int),(m:Int),_⟩,(e':Int),_⟩,_⟩ ⟨-,hH⟩;dsimp only at hH ⊢
   have ek:(P.atH (toHp h) (l.getD k 0)).k=hk':=(congrArg P.Hd.k hH).symm
   have hol:=P.zy0 (toHp h) l k;refine zae (zaz fun _=>hin) (zae (zaz fun _=>zak.2 (by simp;omega)) (zac (fun h5=>zab ?_) fun h5=>zab ?_))
   . simp only [qaC,ne_eq]at h5;simp only [qam];exact ⟨⟨k+1,rfl,by omega,(P.objs_in hx (by rw [ek];exact h5)).symm⟩,by omega⟩
   . simp only [qaB]at h5;simp only [qam];exact ⟨⟨k+1,rfl,by omega,(P.zyZ hx (by rw [ek];exact h5)).symm⟩,by omega⟩
 . simp only [qag]at h4;simp only [qal];rw [qa3 (by omega)]
theorem zso(h:HpD)(hw:HpW h)(a:Int)(ha:0<=a/\a<18446744073709551616):Tot (fun r=>r.1.1=P.zbG (toHp h) a/\r.1.2.1=P.zx2 (toHp h) a) (F_r05_Fields (h,a,())):=by
 rw [zpz];dsimp only
 try rw [zas]
 refine zad (ziM h hw a ha) ?_;rintro ⟨⟨⟨(k:Int),(n:Int),(m:Int),_⟩,(e:Int),_⟩,_⟩ ⟨he,hH⟩;dsimp only at he hH ⊢
 have en:(P.getH (toHp h) a).n=n:=(congrArg P.Hd.n hH).symm
 unfold P.zbG P.zx2;rw [<-he,en];refine zac (fun h1=>zab ?_) fun h1=>?_
 . simp only [qaC,ne_eq]at h1;rw [if_neg h1,if_neg h1];exact ⟨rfl,rfl⟩
 . simp only [qaB]at h1;rw [if_pos h1,if_pos h1];obtain ⟨-,-,-,-,-,g6,g7,-,-,-⟩:=P.ztJ (he.symm.trans h1);have w:U (a+1)=a+1:=U_id (by omega)
   rw [w];exact zad (zoZ h.2.1 (a+1) n hw.wl (by omega)) fun r hr=>zab hr
end Go.VI
namespace Go.VI
open Go
theorem zpo(h:HpD)(j:Nat):P.pgAt (toHp h) (j:Int)=toPg (h.2.2.1.getD j PG0):=by
 unfold P.pgAt;rw [qac];exact zaB _ _
theorem zt6(h:HpD)(hw:HpW h)(hok:P.okH (toHp h)=true)(j:Nat)(hj:j<h.2.2.1.length)(l:List Int)(hl:l.length<=100000)(hlw:P.WB l):Tot (fun r=>r.1.1=P.clsV (toHp h) j l) (F_r09_class (h,(j:Int),l,())):=by
 obtain ⟨p1,p2,p3,p4,p5,p6⟩:=P.zaN (zf9 hok);have hcf:confB h.1.1 h.1.2.1=true:=by rw [<-zaD];exact p1
 have c3:=zaT.1 hcf;rw [zrh];dsimp only
 try rw [zas]
 refine zad (P:=fun r=>match r with
  | .inl x=>x.1.1=P.clsV (toHp h) j l
  | .inr _=>P.clsV (toHp h) j l=0) (zai (fun x=>∃ k:Nat,x.1.2.1=(k:Int)/\k<=l.length/\P.zmE (P.clsB (toHp h) j) (l.drop k)=P.clsV (toHp h) j l) (fun x=>((l.length:Int)-x.1.2.1).toNat) ⟨0,rfl,by omega,rfl⟩ ?_) ?_
 . rintro ⟨⟨(b:Int),(k':Int),_⟩,_⟩ ⟨k,e1,e2,e3⟩;dsimp only at e1 ⊢
   subst e1;refine zac (fun h4=>?_) fun h4=>zab ?_
   . simp only [qab]at h4;have hk:k<l.length:=by omega
     have w:W ((k:Int)+1)=((k+1:Nat):Int):=by rw [W_id (by omega)];omega
     rw [P.zvf (getD_some hk)]at e3;rw [w,qac];have hin:inB (k:Int) l.length=true:=zag.2 ⟨by omega,h4⟩
     have hinp:inB (j:Int) h.2.2.1.length=true:=zag.2 ⟨by omega,by omega⟩
     refine zae hin (zad (zgO h hw (l.getD k 0) (hlw _ (zaJ hk))) ?_);rintro ⟨⟨⟨(hk':Int),(n:Int),(m:Int),_⟩,(e':Int),_⟩,_⟩ ⟨-,hH⟩;dsimp only at hH ⊢
     have ek:(P.atH (toHp h) (l.getD k 0)).k=hk':=(congrArg P.Hd.k hH).symm
     have en:(P.atH (toHp h) (l.getD k 0)).n=n:=(congrArg P.Hd.n hH).symm
     have em:(P.atH (toHp h) (l.getD k 0)).m=m:=(congrArg P.Hd.m hH).symm
     have hmb:=P.atH_m (toHp h) (l.getD k 0);rw [em]at hmb;rw [zcq hk' n m hmb,qaa];dsimp only;rw [zdm,qaa];dsimp only;have hq:W (h.1.1.tdiv 4)=h.1.1 / 4:=by rw [qbB (by omega)];exact W_id (by omega)
     have hsm:P.zeA (toHp h).pw (toHp h).np=h.1.1 / 4:=P.zpd p1
     rw [hcf,if_pos rfl,hq,hinp,hin,qac];have hC:P.clsB (toHp h) j (l.getD k 0)=((h.2.2.1.getD j PG0).1 == 1 && !decide (P.zaP hk' n m<=h.1.1 / 4) || ((h.2.2.1.getD j PG0).1 == 2&&hk' == 0)):=by
      unfold P.clsB;rw [hsm,ek,en,em,zpo]
      rfl
     rw [hC]at e3;generalize (h.2.2.1.getD j PG0).1=gk at e3 ⊢
     refine zae rfl (zae ?_ (zae ?_ (zae ?_ (zac (fun h5=>zab ?_) fun h5=>zab ?_))))
     . cases (gk == 1) <;> cases (decide (P.zaP hk' n m<=h.1.1 / 4)) <;> rfl
     . cases (gk == 1) <;> rfl
     . cases (gk == 1) <;> cases (gk == 2) <;> cases (decide (P.zaP hk' n m<=h.1.1 / 4)) <;> cases (hk' == 0) <;> rfl
     . simp only [qal];have:((gk == 1 && !decide (P.zaP hk' n m<=h.1.1 / 4)) || (gk == 2&&hk' == 0))=true:=by
        revert h5
        cases (gk == 1) <;> cases (gk == 2) <;> cases (decide (P.zaP hk' n m<=h.1.1 / 4)) <;> cases (hk' == 0) <;> simp
       rw [if_pos this]at e3;exact e3
     . simp only [qam];have:((gk == 1 && !decide (P.zaP hk' n m<=h.1.1 / 4)) || (gk == 2&&hk' == 0))=false:=by
        revert h5
        cases h1:(gk == 1) <;> cases h2:(gk == 2) <;> cases (decide (P.zaP hk' n m<=h.1.1 / 4)) <;> cases (hk' == 0) <;> simp
        all_goals (simp only [qaz]at h1 h2;omega)
       rw [if_neg (by rw [this];decide)]at e3
       exact ⟨⟨k+1,rfl,by omega,e3⟩,by omega⟩
   . simp only [qag]at h4;rw [P.zr0 (by omega)]at e3
     simp only [qal];exact e3.symm
 . rintro r hr;refine zaR (fun x hx=>?_) fun y hy=>zab ?_
   . subst hx;exact zab hr
   . subst hy;exact hr.symm
theorem zwe(h:HpD)(hw:HpW h)(hok:P.okH (toHp h)=true)(j:Nat)(hj:j<h.2.2.1.length):Tot (fun r=>r.1.1=(P.za5 (toHp h).pages j:Int)) (F_r09_head (h,(j:Int),())):=by
 have hz:=P.zxV hok;have hpl:=hw.pl;have hpd:∀ t:Nat,((toHp h).pages.getD t P.Pg.zero).kind=(h.2.2.1.getD t PG0).1:=fun t=>by
  show ((h.2.2.1.map toPg).getD t P.Pg.zero).kind=_
  rw [zaB];rfl
 rw [zte];dsimp only
 refine zad (P:=fun r=>r.1.1=(P.za5 (toHp h).pages j:Int)) (zai (fun x=>∃ k:Nat,x.1.1=(k:Int)/\k<=j/\P.za5 (toHp h).pages k=P.za5 (toHp h).pages j) (fun x=>x.1.1.toNat) ⟨j,rfl,by omega,rfl⟩ ?_) fun r hr=>zab hr
 rintro ⟨⟨(k':Int),_⟩,_⟩ ⟨k,e1,e2,e3⟩;dsimp only at e1 ⊢
 subst e1;rw [qac];refine zae (zag.2 ⟨by omega,by omega⟩) (zac (fun h4=>zab ?_) fun h4=>zab ?_)
 . simp only [qaz]at h4;cases k with
   | zero=>rw [hpd]at hz;exact absurd h4 hz
   | succ k=>
    have w:W (((k+1:Nat):Int)-1)=(k:Int):=by rw [W_id (by omega)];omega
    rw [w];simp only [qam];refine ⟨⟨k,rfl,by omega,?_⟩,by omega⟩
    rw [<-e3,P.za5,if_pos (by rw [hpd];exact h4)]
 . simp only [qaI,ne_eq]at h4;simp only [qal];rw [<-e3];cases k with
   | zero=>rfl
   | succ k=>rw [P.za5,if_neg (by rw [hpd];exact h4)]
theorem zwc(h:HpD)(hw:HpW h)(hok:P.okH (toHp h)=true)(j:Nat)(hj:j<h.2.2.1.length)(l:List Int)(hl:l.length<=100000)(hla:∀ a∈l,P.atE (toHp h) a=0):Tot (fun r=>r.1.1=P.zhi (toHp h) j l) (F_r09_used (h,(j:Int),l,())):=by
 obtain ⟨p1,p2,p3,p4,p5,p6⟩:=P.zaN (zf9 hok);have c3:16<=h.1.1/\h.1.1<=64/\h.1.1 % 4=0/\8<=h.1.2.1/\h.1.2.1<=64:=P.zaj p1
 have hlm:(toHp h).pages.length=h.2.2.1.length:=qaj ..
 have hjn:(j:Int)<h.1.2.1:=by
  have:((toHp h).pages.length:Int)=h.1.2.1:=p3
  omega
 obtain ⟨kp1,kp2⟩:=P.zaM (p:=(j:Int)) (show P.confB h.1.1 h.1.2.1=true from p1) (by omega) hjn
 obtain ⟨cp1,cp2⟩:=P.conf_prod (show P.confB h.1.1 h.1.2.1=true from p1)
 have epw:(toHp h).pw=h.1.1:=rfl
 rw [ztc];dsimp only
 try rw [zas]
 refine zae (qad (by omega)) (zae (zak.2 (by omega)) (zad (P:=fun r=>r.2.2.1=P.zhi (toHp h) j l) (zai (fun x=>∃ k:Nat,x.1.1=(k:Int)/\k<=l.length/\x.2.2.1=P.zhi (toHp h) j (l.take k)) (fun x=>((l.length:Int)-x.1.1).toNat) ⟨0,rfl,by omega,(P.zwT (toHp h) j).symm⟩ ?_) fun r hr=>zab hr))
 rintro ⟨⟨(k':Int),_⟩,_,(us:List Bool),_⟩ ⟨k,e1,e2,e3⟩;dsimp only at e1 e3 ⊢
 subst e1 e3;refine zac (fun h4=>?_) fun h4=>zab ?_
 . simp only [qab]at h4;have hk:k<l.length:=by omega
   have w:W ((k:Int)+1)=((k+1:Nat):Int):=by rw [W_id (by omega)];omega
   have hin:inB (k:Int) l.length=true:=zag.2 ⟨by omega,h4⟩
   have hx:=getD_some hk;have hat:=hla _ (zaJ (d:=0) hk)
   have hbd:=P.zsg hat;rw [w,qac,hin];generalize l.getD k 0=a at hx hat hbd
   refine zae rfl (zad (zgO h hw a (by omega)) ?_)
   rintro ⟨⟨⟨(hk':Int),(n:Int),(m:Int),_⟩,(e':Int),_⟩,_⟩ ⟨-,hH⟩;dsimp only at hH ⊢
   have ek:(P.atH (toHp h) a).k=hk':=(congrArg P.Hd.k hH).symm
   have en:(P.atH (toHp h) a).n=n:=(congrArg P.Hd.n hH).symm
   have em:(P.atH (toHp h) a).m=m:=(congrArg P.Hd.m hH).symm
   have hmb:=P.atH_m (toHp h) a;rw [em]at hmb;rw [zcq hk' n m hmb,qaa];dsimp only;have hZ:(bif hk' == 0 then 1 else P.zaP hk' n m)=P.zeg (toHp h) a:=by
    unfold P.zeg;rw [ek,en,em];by_cases q:hk'=0
    . rw [if_pos q,show (hk' == 0)=true by simp [q]];rfl
    . rw [if_neg q,show (hk' == 0)=false by simp [q]];rfl
   have hzb:=P.zyt (toHp h) a;rw [hZ];refine zad (P:=fun r=>r.2.2.1=P.zhi (toHp h) j (l.take (k+1))) (zai (fun x=>∃ z:Nat,x.1.1=(z:Int)/\(z:Int)<=P.zeg (toHp h) a/\x.2.2.1=P.zjh (toHp h) j (l.take k) a z) (fun x=>(P.zeg (toHp h) a-x.1.1).toNat) ⟨0,rfl,by omega,(P.zvw (toHp h) j (l.take k) a).symm⟩ ?_) fun r hr=>zab ?_
   . rintro ⟨⟨(z':Int),_⟩,_,(us:List Bool),_⟩ ⟨z,f1,f2,f3⟩;dsimp only at f1 f3 ⊢
     subst f1 f3;refine zac (fun h5=>?_) fun h5=>zab ?_
     . simp only [qab]at h5;have wz:W ((z:Int)+1)=((z+1:Nat):Int):=by rw [W_id (by omega)];omega
       have t1:W a=a:=W_id (by omega)
       have t2:W (a-4096)=a-4096:=W_id (by omega)
       have t3:W (a-4096+z)=a-4096+z:=W_id (by omega)
       have t4:W ((j:Int)*h.1.1)=j*h.1.1:=W_id (by omega)
       have t5:W (a-4096+z-(j:Int)*h.1.1)=a-4096+z-j*h.1.1:=W_id (by omega)
       rw [wz,t1,t2,t3,t4,t5,P.zqO,epw];simp only [cand];refine zae rfl (zae (zaz fun hc=>?_) (zac (fun hc=>zab ?_) fun hc=>zab ?_))
       . simp only [qae,qab]at hc;exact zag.2 ⟨by omega,hc.2⟩
       . simp only [qae,qab]at hc;obtain ⟨T,hT⟩:=qaP (show 0<=a-4096+z-(j:Int)*h.1.1 by omega)
         rw [hT,qac];simp only [qam];refine ⟨⟨z+1,rfl,by omega,?_⟩,by omega⟩
         exact P.zyu (by rw [epw];omega) (by rw [epw];omega)
       . simp only [qbC,qag]at hc;simp only [qam];refine ⟨⟨z+1,rfl,by omega,?_⟩,by omega⟩
         exact (P.zwU (by rw [epw];omega)).symm
     . simp only [qag]at h5;simp only [qal];rw [P.zbd hx];exact P.zwV (by omega)
   . simp only [qam];exact ⟨⟨k+1,rfl,by omega,hr⟩,by omega⟩
 . simp only [qag]at h4;simp only [qal];rw [qa3 (by omega)]
end Go.VI
namespace Go.VI
open Go
def toFd(x:A7):P.Fd:=⟨x.1,x.2.1,x.2.2.1⟩
theorem zwf(h:HpD)(hw:HpW h)(hok:P.okH (toHp h)=true)(j:Nat)(hj:j<h.2.2.1.length):Tot (fun r=>r.1.1=P.zhB (toHp h) j) (F_r09_dirt (h,(j:Int),())):=by
 obtain ⟨p1,p2,p3,p4,p5,p6⟩:=P.zaN (zf9 hok);have c3:16<=h.1.1/\h.1.1<=64/\h.1.1 % 4=0/\8<=h.1.2.1/\h.1.2.1<=64:=P.zaj p1
 have hlm:(toHp h).pages.length=h.2.2.1.length:=qaj ..
 have hjn:(j:Int)<h.1.2.1:=by
  have:((toHp h).pages.length:Int)=h.1.2.1:=p3
  omega
 obtain ⟨kp1,kp2⟩:=P.zaM (p:=(j:Int)) (show P.confB h.1.1 h.1.2.1=true from p1) (by omega) hjn
 obtain ⟨cp1,cp2⟩:=P.conf_prod (show P.confB h.1.1 h.1.2.1=true from p1)
 rw [ztf];dsimp only
 try rw [zas]
 refine zad (zwe h hw hok j hj) ?_;rintro ⟨⟨(q:Int),_⟩,_⟩ hq;dsimp only at hq ⊢
 subst hq;refine zad (zjW h hw _) ?_;rintro ⟨⟨(l:List Int),(e:Int),_⟩,_⟩ ⟨hl,-⟩;dsimp only at hl ⊢
 subst hl;refine zad (zwc h hw hok j hj _ (by have:=P.zf4 (i:=(P.za5 (toHp h).pages j:Int)) hok;omega) (fun a ha=>P.zfe ha)) ?_
 rintro ⟨⟨(us:List Bool),_⟩,_⟩ hus;dsimp only at hus ⊢
 have hul:us.length=h.1.1.toNat:=by rw [hus];exact P.zlK _ _ _
 have hD:P.zhB (toHp h) j=P.zdi (toHp h) j 0 us:=by unfold P.zhB;rw [hus]
 rw [hD];refine zad (P:=fun r=>match r with
  | .inl x=>x.1.1=P.zdi (toHp h) j 0 us
  | .inr _=>P.zdi (toHp h) j 0 us=0) (zai (fun x=>∃ k:Nat,x.1.2.1=(k:Int)/\k<=us.length/\P.zdi (toHp h) j k (us.drop k)=P.zdi (toHp h) j 0 us) (fun x=>((us.length:Int)-x.1.2.1).toNat) ⟨0,rfl,by omega,rfl⟩ ?_) ?_
 . rintro ⟨⟨(b:Int),(k':Int),_⟩,_⟩ ⟨k,e1,e2,e3⟩;dsimp only at e1 ⊢
   subst e1;refine zac (fun h4=>?_) fun h4=>zab ?_
   . simp only [qab]at h4;have hk:k<us.length:=by omega
     have w:W ((k:Int)+1)=((k+1:Nat):Int):=by rw [W_id (by omega)];omega
     have hx:us[k]?=some (us.getD k false):=by rw [qax,qaq hk];rfl
     rw [P.dirt_at hx]at e3;rw [w,qac];generalize us.getD k false=u at e3 ⊢
     refine zae (zag.2 ⟨by omega,h4⟩) (zac (fun h5=>?_) fun h5=>zab ?_)
     . simp only [qar]at h5;subst h5;have h142:Tot (fun r=>r.1.1=P.zkS (toHp h) j k) (F_r06_Word (h,(j:Int),(k:Int),())):=by
        rw [ztj];dsimp only
        try rw [zas]
        rw [zti];dsimp only
        refine zad (P:=fun r=>r.1.1=P.zkS (toHp h) j k) ?_ fun r hr=>zab hr
        refine zad (ziP h.1.1 h.1.2.1 j k) ?_;rintro ⟨⟨(a:Int),_,_⟩,_⟩ ⟨ha,-⟩;dsimp only at ha ⊢
        have hab:=P.zmU (toHp h).pw (toHp h).np j k;have ha':a=P.zbm (toHp h).pw (toHp h).np j k:=ha
        rw [<-ha']at hab;refine zad (zc1 h.2.1 a hw.wl hab) fun r hr=>zab ?_
        unfold P.zkS;rw [<-ha'];exact hr.1
       refine zad h142 ?_;rintro ⟨⟨(v:Int),_⟩,_⟩ hv;dsimp only at hv ⊢
       rw [<-hv]at e3;refine zac (fun h6=>?_) fun h6=>zab ?_
       . simp only [qaC,ne_eq]at h6;rw [if_pos ⟨rfl,h6⟩]at e3;rw [znE];dsimp only
         rw [qaa];have v1:W ((j:Int)*h.1.1)=j*h.1.1:=W_id (by omega)
         have v2:W (4096+(j:Int)*h.1.1)=4096+j*h.1.1:=W_id (by omega)
         have v3:W (4096+(j:Int)*h.1.1+k)=4096+j*h.1.1+k:=W_id (by omega)
         have v4:U (4096+(j:Int)*h.1.1+k)=4096+j*h.1.1+k:=U_id (by omega)
         dsimp only;rw [v1,v2,v3,v4];refine zab ?_;simp only [qal];exact e3
       . simp only [qaB]at h6;rw [if_neg (fun c=>c.2 h6)]at e3
         simp only [qam];exact ⟨⟨k+1,rfl,by omega,e3⟩,by omega⟩
     . simp only [qaw]at h5;rw [if_neg (fun c=>by rw [h5]at c;cases c.1)]at e3
       simp only [qam];exact ⟨⟨k+1,rfl,by omega,e3⟩,by omega⟩
   . simp only [qag]at h4;rw [P.zzi (by omega)]at e3
     simp only [qal];exact e3.symm
 . rintro r hr;refine zaR (fun x hx=>?_) fun y hy=>zab ?_
   . subst hx;exact zab hr
   . subst hy;exact hr.symm
theorem zwd(h:HpD)(hw:HpW h)(hok:P.okH (toHp h)=true)(j:Nat)(hj:j<h.2.2.1.length):Tot (fun r=>toFd r.1.1=P.zej (toHp h) j) (F_r09_page (h,(j:Int),())):=by
 rw [ztd];dsimp only
 try rw [zas]
 rw [qac];have hin:inB (j:Int) h.2.2.1.length=true:=zag.2 ⟨by omega,by omega⟩
 have hk:(P.pgAt (toHp h) (j:Int)).kind=(h.2.2.1.getD j PG0).1:=by rw [zpo];rfl
 have hs:(P.pgAt (toHp h) (j:Int)).space=(h.2.2.1.getD j PG0).2.1:=by rw [zpo];rfl
 have esp:(toHp h).space=h.2.2.2.1:=rfl
 unfold P.zej;rw [hk,hs,esp];generalize h.2.2.1.getD j PG0=G
 obtain ⟨gk,gs,gu,gp,_⟩:=G;dsimp only;simp only [cand];refine zae hin (zae (zaz fun _=>hin) (zac (fun h1=>zab ?_) fun h1=>?_))
 . simp only [qae,qaC,ne_eq]at h1;rw [if_pos h1];rfl
 have h1':¬(¬gk=0/\¬gs=h.2.2.2.1):=by
  rintro ⟨c1,c2⟩;rw [show (gk != 0)=true by simp [c1],show (gs != h.2.2.2.1)=true by simp [c2]]at h1
  cases h1
 rw [if_neg h1'];refine zad (zjW h hw j) ?_;rintro ⟨⟨(l:List Int),(e:Int),_⟩,_⟩ ⟨hl,he⟩;dsimp only at hl he ⊢
 rw [<-he,<-hl];refine zac (fun h2=>zab ?_) fun h2=>?_
 . simp only [qaC,ne_eq]at h2;rw [if_pos h2];rfl
 simp only [qaB]at h2;rw [if_neg (fun c=>c h2)]
 have hll:=P.zf4 (i:=(j:Int)) hok
 have hlw:=P.zuN (toHp h) (j:Int);rw [<-hl]at hll hlw;refine zad (zt6 h hw hok j hj l (by omega) hlw) ?_
 rintro ⟨⟨(c:Int),_⟩,_⟩ hc;dsimp only at hc ⊢
 rw [<-hc];refine zac (fun h3=>zab ?_) fun h3=>?_
 . simp only [qaC,ne_eq]at h3;rw [if_pos h3];rfl
 simp only [qaB]at h3;rw [if_neg (fun c=>c h3)]
 refine zad (zwf h hw hok j hj) ?_;rintro ⟨⟨(dv:Int),_⟩,_⟩ hdv;dsimp only at hdv ⊢
 rw [<-hdv];refine zac (fun h4=>zab ?_) fun h4=>zab ?_
 . simp only [qaC,ne_eq]at h4;rw [if_pos h4];rfl
 . simp only [qaB]at h4;rw [if_neg (fun c=>c h4)];rfl
theorem zn2(h:HpD)(hw:HpW h):Tot (fun r=>toFd r.1.1=P.zbw (toHp h)) (F_r09_pointers (h,())):=by
 rw [zmi];dsimp only
 try rw [zas]
 refine zad (zdz h hw) ?_;rintro ⟨⟨(l:List Int),_,_⟩,_⟩ ⟨hl,-⟩;dsimp only at hl ⊢
 have hO:P.zbw (toHp h)=P.zb4 (toHp h) l l:=by unfold P.zbw;rw [<-hl]
 have hll:l.length<=4096/\∀ a∈l,P.atE (toHp h) a=0:=by
  rw [hl];unfold P.zaf P.zca;refine ⟨qaA (qbH _ _) (P.zcj _),fun a ha=>P.zgH (qbR.1 ha).1⟩
 rw [hO];refine zad (P:=fun r=>match r with
  | .inl x=>toFd x.2.2.1=P.zb4 (toHp h) l l
  | .inr _=>P.zb4 (toHp h) l l=P.Fd.none) (zai (fun x=>∃ k:Nat,x.1.1=(k:Int)/\k<=l.length/\P.zb4 (toHp h) l (l.drop k)=P.zb4 (toHp h) l l) (fun x=>((l.length:Int)-x.1.1).toNat) ⟨0,rfl,by omega,rfl⟩ ?_) ?_
 . rintro ⟨⟨(k':Int),_⟩,_,fd,_⟩ ⟨k,e1,e2,e3⟩;dsimp only at e1 ⊢
   subst e1;refine zac (fun h4=>?_) fun h4=>zab ?_
   . simp only [qab]at h4;have hk:k<l.length:=by omega
     have w:W ((k:Int)+1)=((k+1:Nat):Int):=by rw [W_id (by omega)];omega
     have hin:inB (k:Int) l.length=true:=zag.2 ⟨by omega,h4⟩
     rw [P.zxd (getD_some hk)]at e3;rw [w,qac,hin];have hat:=hll.2 _ (zaJ (d:=0) hk)
     have hbd:=P.zsg hat;generalize l.getD k 0=a at e3 hat hbd ⊢
     refine zae rfl (zad (ziM h hw a (by omega)) ?_)
     rintro ⟨⟨⟨(hk':Int),(n:Int),(m:Int),_⟩,(e':Int),_⟩,_⟩ ⟨-,hH⟩;dsimp only at hH ⊢
     have hmb:=P.getH_m (toHp h) a;rw [<-hH]at e3 hmb;have hmb:0<=m/\m<4294967296:=hmb
     refine zae rfl (zad (zso h hw a (by omega)) ?_)
     rintro ⟨⟨(fs:List Int),_,_⟩,_⟩ ⟨hfs,-⟩;dsimp only at hfs ⊢
     have hfl:=P.ztP (toHp h) a;have hwl:(toHp h).words.length<=100000000:=hw.wl
     rw [<-hfs]at e3 hfl;refine zad (P:=fun r=>match r with
      | .inl x=>∃ t:Nat,P.za1 l (toHd (hk',n,m,())) 0 fs=some t/\toFd x.2.2.1=P.zs1 (toHp h) (a+1+t)
      | .inr _=>P.za1 l (toHd (hk',n,m,())) 0 fs=none) (zai (fun x=>∃ t:Nat,x.1.1=(t:Int)/\t<=fs.length/\P.za1 l (toHd (hk',n,m,())) t (fs.drop t)=P.za1 l (toHd (hk',n,m,())) 0 fs) (fun x=>((fs.length:Int)-x.1.1).toNat) ⟨0,rfl,by omega,rfl⟩ ?_) ?_
     . rintro ⟨⟨(t':Int),_⟩,_,fd2,_⟩ ⟨t,f1,f2,f3⟩;dsimp only at f1 ⊢
       subst f1;refine zac (fun h5=>?_) fun h5=>zab ?_
       . simp only [qab]at h5;have ht:t<fs.length:=by omega
         have wt:W ((t:Int)+1)=((t+1:Nat):Int):=by rw [W_id (by omega)];omega
         have hin2:inB (t:Int) fs.length=true:=zag.2 ⟨by omega,h5⟩
         rw [P.bad_at (getD_some ht)]at f3;rw [wt,qac,hin2];generalize fs.getD t 0=f at f3 ⊢
         refine zad (zfn hk' n m t hmb) ?_;rintro ⟨⟨(pt:Bool),_⟩,_⟩ hpt;dsimp only at hpt ⊢
         have hpt':P.ptrB (toHd (hk',n,m,())).k (toHd (hk',n,m,())).n (toHd (hk',n,m,())).m t=pt:=hpt.symm
         rw [hpt']at f3;have next:(¬(pt=true/\¬f=0/\¬f∈l))->Tot (Sum.elim (fun x':Ao×Unit×A7×Unit=>(∃ t:Nat,x'.1.1=(t:Int)/\t<=fs.length/\P.za1 l (toHd (hk',n,m,())) t (fs.drop t)=P.za1 l (toHd (hk',n,m,())) 0 fs)/\((fs.length:Int)-x'.1.1).toNat<((fs.length:Int)-(t:Int)).toNat) fun (r:A6)=>match r with
          | .inl x=>∃ t:Nat,P.za1 l (toHd (hk',n,m,())) 0 fs=some t/\toFd x.2.2.1=P.zs1 (toHp h) (a+1+t)
          | .inr _=>P.za1 l (toHd (hk',n,m,())) 0 fs=none) (some (Sum.inl ((((t+1:Nat):Int),()),(),(fd2.1,fd2.2.1,fd2.2.2.1,()),()))):=fun hno=>by
          rw [if_neg hno]at f3;refine zab ?_;simp only [qam];exact ⟨⟨t+1,rfl,by omega,f3⟩,by omega⟩
         refine zae (zaz fun _=>rfl) (zae (zaz fun _=>zaz fun _=>rfl) (zac (fun h6=>zac (fun h7=>?_) fun h7=>next ?_) fun h6=>next ?_))
         . simp only [qaC,ne_eq]at h7;refine zad (zdW l f (by omega)) ?_
           rintro ⟨⟨(bb:Bool),_⟩,_⟩ hbb;dsimp only at hbb ⊢
           refine zae (zaz fun _=>rfl) (zac (fun h8=>?_) fun h8=>next ?_)
           . simp only [qar]at h8;rw [h8]at hbb;have hnm:¬f∈l:=qa4 hbb.symm;rw [if_pos ⟨h6,h7,hnm⟩]at f3;have u1:U (a+1)=a+1:=U_id (by omega)
             have u2:U (t:Int)=t:=U_id (by omega)
             have u3:U (a+1+(t:Int))=a+1+t:=U_id (by omega)
             rw [u1,u2,u3];refine zad (ziO h.1.1 h.1.2.1 (a+1+t) (by omega)) ?_
             rintro ⟨⟨(pi:Int),_,_,_⟩,_⟩ ⟨hpi,-,-⟩;dsimp only at hpi ⊢
             refine zab ?_;simp only [qal];refine ⟨t,f3.symm,?_⟩;unfold P.zs1;rw [show (toHp h).pw=h.1.1 from rfl,show (toHp h).np=h.1.2.1 from rfl,<-hpi];rfl
           . simp only [qaw]at h8;rw [h8]at hbb;exact fun c=>c.2.2 (qat hbb.symm)
         . simp only [qaB]at h7;exact fun c=>c.2.1 h7
         . exact fun c=>by rw [c.1]at h6;cases h6
       . simp only [qag]at h5;rw [P.bad_end (by omega)]at f3
         simp only [qal];exact f3.symm
     . rintro r hr;refine zaR (fun x hx=>zab ?_) fun y hy=>zab ?_
       . subst hx;obtain ⟨t,ht,hfd⟩:=hr;rw [ht]at e3;simp only [qal];exact hfd.trans e3
       . subst hy;have hr:P.za1 l (toHd (hk',n,m,())) 0 fs=none:=hr
         rw [hr]at e3;simp only [qam];exact ⟨⟨k+1,rfl,by omega,e3⟩,by omega⟩
   . simp only [qag]at h4;rw [P.zuK (by omega)]at e3
     simp only [qal];exact e3.symm
 . rintro r hr;refine zaR (fun x hx=>zab ?_) fun y hy=>zab ?_
   . subst hx;exact hr
   . subst hy;exact hr.symm
end Go.VI
namespace Go.VI
open Go
theorem zt7(h:HpD)(hw:HpW h):Tot (fun r=>toFd r.1.1=P.zeY (toHp h)) (F_r09_Check (h,())):=by
 rw [zri];dsimp only
 try rw [zas]
 refine zad (za3 _ hw) fun r hr=>?_
 obtain ⟨⟨(b:Bool),_⟩,_⟩:=r;have hb:b=P.okH (toHp h):=hr
 subst hb;dsimp only;unfold P.zeY;refine zac (fun h1=>zab ?_) fun h1=>?_
 . simp only [qar]at h1;rw [if_neg (by rw [h1];decide)];rfl
 simp only [qaw]at h1;rw [if_pos h1];have hlm:(toHp h).pages.length=h.2.2.1.length:=qaj ..
 have hpl:=hw.pl;rw [hlm];refine zad (P:=fun r=>match r with
  | .inl x=>toFd x.2.2.1=P.zaC (toHp h) 0 h.2.2.1.length/\¬(toFd x.2.2.1).fault=0
  | .inr _=>P.zaC (toHp h) 0 h.2.2.1.length=P.Fd.none) (zai (fun x=>∃ k:Nat,x.1.1=(k:Int)/\k<=h.2.2.1.length/\P.zaC (toHp h) k (h.2.2.1.length-k)=P.zaC (toHp h) 0 h.2.2.1.length) (fun x=>((h.2.2.1.length:Int)-x.1.1).toNat) ⟨0,rfl,by omega,rfl⟩ ?_) ?_
 . rintro ⟨⟨(k':Int),_⟩,_,fd,_⟩ ⟨k,e1,e2,e3⟩;dsimp only at e1 ⊢
   subst e1;refine zac (fun h4=>?_) fun h4=>zab ?_
   . simp only [qab]at h4;have hk:k<h.2.2.1.length:=by omega
     have w:W ((k:Int)+1)=((k+1:Nat):Int):=by rw [W_id (by omega)];omega
     rw [w];rw [show h.2.2.1.length-k=(h.2.2.1.length-(k+1))+1 by omega,P.zaC]at e3
     refine zad (zwd h hw h1 k hk) ?_;rintro ⟨⟨⟨(f1:Int),(f2:Int),(f3:Int),_⟩,_⟩,_⟩ hf;dsimp only at hf ⊢
     rw [<-hf]at e3;have hff:(toFd (f1,f2,f3,())).fault=f1:=rfl
     refine zac (fun h5=>zab ?_) fun h5=>zab ?_
     . simp only [qaC,ne_eq]at h5;have e3:=(if_pos (show ¬(toFd (f1,f2,f3,())).fault=0 from h5)).symm.trans e3
       simp only [qal];exact ⟨e3,h5⟩
     . simp only [qaB]at h5;have e3:=(if_neg (show ¬¬(toFd (f1,f2,f3,())).fault=0 from fun c=>c h5)).symm.trans e3
       simp only [qam];exact ⟨⟨k+1,rfl,by omega,e3⟩,by omega⟩
   . simp only [qag]at h4;rw [show h.2.2.1.length-k=0 by omega,P.zaC]at e3
     simp only [qal];exact e3.symm
 . rintro r hr;refine zaR (fun x hx=>zab ?_) fun y hy=>?_
   . subst hx;obtain ⟨g1,g2⟩:=hr;rw [<-g1,if_pos g2]
   . subst hy;have hr:P.zaC (toHp h) 0 h.2.2.1.length=P.Fd.none:=hr
     rw [hr,if_neg (fun c=>c rfl)]
     refine zad (zn2 h hw) ?_;rintro ⟨⟨⟨(f1:Int),(f2:Int),(f3:Int),_⟩,_⟩,_⟩ hf;dsimp only at hf ⊢
     rw [<-hf];refine zac (fun h5=>zab ?_) fun h5=>?_
     . simp only [qaC,ne_eq]at h5;exact (if_pos (show ¬(toFd (f1,f2,f3,())).fault=0 from h5)).symm
     simp only [qaB]at h5;have e4:∀ z:P.Fd,(if ¬(toFd (f1,f2,f3,())).fault=0 then toFd (f1,f2,f3,()) else z)=z:=fun z=>if_neg (show ¬¬(toFd (f1,f2,f3,())).fault=0 from fun c=>c h5)
     rw [e4];obtain ⟨p1,p2,p3,p4,p5,p6⟩:=P.zaN (zf9 h1);have c3:16<=h.1.1/\h.1.1<=64/\h.1.1 % 4=0/\8<=h.1.2.1/\h.1.2.1<=64:=P.zaj p1
     have hq4:W (h.1.2.1.tdiv 4)=h.1.2.1 / 4:=by rw [qbB (by omega)];exact W_id (by omega)
     have hcl:=zkG h hpl;rw [zid]at hcl;dsimp only at hcl
     obtain ⟨r0,hr0,hv0⟩:=hcl;rw [qbt]at hr0;obtain ⟨r1,hr1,hr1'⟩:=hr0;refine zad (P:=fun r=>r.1.1=(P.zaZ (h.2.2.1.map toPg):Int)) ⟨r1,hr1,?_⟩ ?_
     . have:=Option.some.inj hr1'
       rw [<-this]at hv0;exact hv0
     . rintro ⟨⟨(c:Int),_⟩,_⟩ hc;dsimp only at hc ⊢
       rw [hq4];have enp:(toHp h).np=h.1.2.1:=rfl
       have epg:(toHp h).pages=h.2.2.1.map toPg:=rfl
       rw [enp,epg];refine zae rfl (zac (fun h6=>zab ?_) fun h6=>zab ?_)
       . simp only [qab]at h6;rw [if_pos (by omega)];rfl
       . simp only [qag]at h6;rw [if_neg (by omega)];rfl
theorem zjV(h:HpD)(hw:HpW h):Tot (fun r=>r.1.1=P.zg1 (toHp h)) (F_r09_Good (h,())):=by
 rw [ztg];dsimp only
 try rw [zas]
 refine zad (zt7 h hw) ?_;rintro ⟨⟨⟨(f1:Int),(f2:Int),(f3:Int),_⟩,_⟩,_⟩ hf;dsimp only at hf ⊢
 refine zab ?_;unfold P.zg1;by_cases h0:(P.zeY (toHp h)).fault=0
 . rw [qad h0];have hn:=P.zoT h0;rw [<-hf]at hn;simp only [toFd,P.Fd.none,P.Fd.mk.injEq]at hn;obtain ⟨a1,a2,a3⟩:=hn;subst a1 a2 a3
   rfl
 . rw [qai h0];rw [<-hf]at h0;have h0:¬f1=0:=h0
   simp [h0]
theorem zkE(h:HpD)(hw:HpW h)(l:List Int)(hl:l.length<=100000000):Tot (fun r=>r.1.1=P.zjn (toHp h) l) (F_r09_Refers (h,l,())):=by
 rw [zpx];dsimp only
 try rw [zas]
 unfold P.zjn;refine zad (zjV h hw) ?_;rintro ⟨⟨(b:Bool),_⟩,_⟩ hb;dsimp only at hb ⊢
 rw [<-hb];refine zac (fun h1=>zab ?_) fun h1=>zad (zdz h hw) ?_
 . simp only [qar]at h1;rw [h1];rfl
 simp only [qaw]at h1;rw [h1,qaY];rintro ⟨⟨(all:List Int),_,_⟩,_⟩ ⟨hall,-⟩;dsimp only at hall ⊢
 have hal:all.length<=4096:=by
  rw [hall];unfold P.zaf P.zca
  exact qaA (qbH _ _) (P.zcj _)
 rw [<-hall];refine zad (P:=fun r=>match r with
  | .inl x=>x.1.1=false/\(l.all fun x=>decide (x=0\/x∈all))=false
  | .inr _=>(l.all fun x=>decide (x=0\/x∈all))=true) (zai (fun x=>∃ k:Nat,x.1.2.1=(k:Int)/\k<=l.length/\((l.drop k).all fun x=>decide (x=0\/x∈all))=(l.all fun x=>decide (x=0\/x∈all))) (fun x=>((l.length:Int)-x.1.2.1).toNat) ⟨0,rfl,by omega,rfl⟩ ?_) ?_
 . rintro ⟨⟨(bb:Bool),(k':Int),_⟩,_⟩ ⟨k,e1,e2,e3⟩;dsimp only at e1 ⊢
   subst e1;refine zac (fun h4=>?_) fun h4=>zab ?_
   . simp only [qab]at h4;have hk:k<l.length:=by omega
     have w:W ((k:Int)+1)=((k+1:Nat):Int):=by rw [W_id (by omega)];omega
     have hin:inB (k:Int) l.length=true:=zag.2 ⟨by omega,h4⟩
     rw [P.all_at (getD_some hk)]at e3;rw [w,qac,hin];generalize l.getD k 0=f at e3 ⊢
     have next:(f=0\/f∈all)->∀ q:Bool,Tot (Sum.elim (fun x':AW×Unit×Unit=>(∃ k:Nat,x'.1.2.1=(k:Int)/\k<=l.length/\((l.drop k).all fun x=>decide (x=0\/x∈all))=(l.all fun x=>decide (x=0\/x∈all)))/\((l.length:Int)-x'.1.2.1).toNat<((l.length:Int)-(k:Int)).toNat) fun (r:A8)=>match r with
      | .inl x=>x.1.1=false/\(l.all fun x=>decide (x=0\/x∈all))=false
      | .inr _=>(l.all fun x=>decide (x=0\/x∈all))=true) (some (Sum.inl ((q,((k+1:Nat):Int),()),(),()))):=fun hf q=>by
      rw [qad hf,qaY]at e3;refine zab ?_;simp only [qam];exact ⟨⟨k+1,rfl,by omega,e3⟩,by omega⟩
     refine zae rfl (zae (zaz fun _=>rfl) (zac (fun h5=>?_) fun h5=>next ?_ _))
     . simp only [qaC,ne_eq]at h5;refine zad (zdW all f (by omega)) ?_
       rintro ⟨⟨(hb2:Bool),_⟩,_⟩ hhas;dsimp only at hhas ⊢
       refine zac (fun h6=>zab ?_) fun h6=>next ?_ _
       . simp only [qar]at h6;rw [h6]at hhas;have hnm:=qa4 hhas.symm;rw [qai (show ¬(f=0\/f∈all) from fun c=>c.elim h5 hnm),Bool.false_and]at e3
         simp only [qal];exact ⟨by trivial,e3.symm⟩
       . simp only [qaw]at h6;rw [h6]at hhas;exact .inr (qat hhas.symm)
     . simp only [qaB]at h5;exact .inl h5
   . simp only [qag]at h4;rw [qbx (by omega)]at e3
     simp only [qal];exact e3.symm
 . rintro r hr;refine zaR (fun x hx=>zab ?_) fun y hy=>zab ?_
   . subst hx;exact hr.1.trans hr.2.symm
   . subst hy;exact hr.symm
end Go.VI
namespace Go.VI
open Go
abbrev WkD:=HpD×List Int×List Int×List Int×Int×(Int×Int×Int×Int×Int×Int×Unit)×Unit
def toWk(d:WkD):P.Wk:=⟨toHp d.1,d.2.1,d.2.2.1,d.2.2.2.1,d.2.2.2.2.1,d.2.2.2.2.2.1.1,d.2.2.2.2.2.1.2.1,d.2.2.2.2.2.1.2.2.1,d.2.2.2.2.2.1.2.2.2.1,d.2.2.2.2.2.1.2.2.2.2.1,d.2.2.2.2.2.1.2.2.2.2.2.1⟩
theorem zkI(n:Int):W n=RowKit.wrap64 n:=by rw [W,IntKind.wrap_i64];unfold RowKit.wrap64;omega
theorem zt4(d:WkD)(a:Int)(hl:d.2.2.1.length<=100000000):Tot (fun r=>r.1.1=decide (a∈d.2.2.1)) (F_r10_taken (d,a,())):=by
 obtain ⟨h,old,l,q,sc,rs,_⟩:=d;dsimp only at hl
 rw [zrf];dsimp only
 refine zad (P:=fun r=>match r with
  | .inl x=>x.1.1=true/\a∈l
  | .inr _=>¬a∈l) (zai (fun x=>∃ k:Nat,x.1.2.1=(k:Int)/\k<=l.length/\¬a∈l.take k) (fun x=>((l.length:Int)-x.1.2.1).toNat) ⟨0,rfl,by omega,by simp⟩ ?_) ?_
 . rintro ⟨⟨(b:Bool),(k':Int),_⟩,_⟩ ⟨k,e1,e2,e3⟩;dsimp only at e1 ⊢
   subst e1;refine zac (fun h4=>?_) fun h4=>zab ?_
   . simp only [qab]at h4;have hk:k<l.length:=by omega
     have w:W ((k:Int)+1)=((k+1:Nat):Int):=by rw [W_id (by omega)];omega
     rw [w,qac];refine zae (zag.2 ⟨by omega,h4⟩) (zac (fun h5=>zab ?_) fun h5=>zab ?_)
     . simp only [qaz]at h5;simp only [qal];exact ⟨by trivial,by rw [<-h5];exact zaJ hk⟩
     . simp only [qaI,ne_eq]at h5;simp only [qam];refine ⟨⟨k+1,rfl,by omega,?_⟩,by omega⟩
       rw [P.zbd (getD_some hk),qak,qaE];rintro (c | c)
       . exact e3 c
       . exact h5 c.symm
   . simp only [qag]at h4;simp only [qal];rwa [qa3 (by omega)]at e3
 . rintro r hr;refine zaR (fun x hx=>?_) fun y hy=>zab ?_
   . subst hx;exact zab (by rw [qad hr.2];exact hr.1)
   . subst hy;exact (qai hr).symm
theorem zer(d:WkD)(i:Int)(hl:d.2.2.1.length<=100000000)(hp:d.1.2.2.1.length<=100000000):Tot (fun r=>r.1.1=P.zdv (toWk d) i) (F_r10_Promoted (d,i,())):=by
 rw [zmh];dsimp only
 simp only [cor];have hpg:(toWk d).h.pages=d.1.2.2.1.map toPg:=rfl
 have hsp:(toWk d).h.space=d.1.2.2.2.1:=rfl
 have htk:(toWk d).taken=d.2.2.1:=rfl
 unfold P.zdv;refine zac (fun h1=>zab ?_) fun h1=>?_
 . simp only [qaZ,qab]at h1;cases hg:(toWk d).h.pages[i.toNat]? with
   | none=>rfl
   | some g=>
    have hlt:=(qap.1 hg).1;rw [hpg,qaj]at hlt;have:¬0<=i:=by omega
    simp [this]
 simp only [qaQ,qag]at h1;obtain ⟨j,rfl⟩:=qaP (show 0<=i by omega)
 have hj:j<d.1.2.2.1.length:=by omega
 rw [hpg,qac,zaF hj,hsp,htk];generalize d.1.2.2.1.getD j PG0=G
 obtain ⟨gk,gs,gu,gp,_⟩:=G;dsimp only;have e1:(toPg (gk,gs,gu,gp,())).kind=gk:=rfl
 have e2:(toPg (gk,gs,gu,gp,())).space=gs:=rfl
 refine zae (zag.2 ⟨by omega,by omega⟩) (zac (fun h2=>zac (fun h3=>?_) fun h3=>zab ?_) fun h2=>zab ?_)
 . refine zad (zt4 d j hl) ?_;rintro ⟨⟨(b:Bool),_⟩,_⟩ hb;dsimp only at hb ⊢
   refine zab ?_;simp only [qaz]at h2;simp only [qaC,ne_eq]at h3;simp only [toPg];rw [hb];simp [h2,h3]
 . simp only [qaB]at h3;simp only [toPg];simp [h3]
 . simp only [qaI,ne_eq]at h2;simp only [toPg];simp [h2]
theorem zoY(d:WkD)(a:Int)(hl:d.2.2.2.1.length<=100000000):Tot (fun r=>toWk r.1.1=P.zcA (toWk d) a) (F_r10_keep (d,a,())):=by
 rw [ztb];dsimp only
 refine zae (zak.2 (by omega)) (zae (zak.2 (by simp;omega)) (zab ?_))
 unfold toWk P.zcA;dsimp only;rw [zkI]
theorem zmX(h:HpD)(hw:HpW h):Tot (fun r=>r.1.2.1=(if P.okH (toHp h) then (if P.zg1 (toHp h) then 0 else 19) else 1)/\(r.1.2.1=0->toWk r.1.1=P.zbB (toHp h))) (F_r10_Begin (h,())):=by
 rw [zgb];dsimp only
 try rw [zas]
 refine zad (za3 _ hw) fun r hr=>?_
 obtain ⟨⟨(b:Bool),_⟩,_⟩:=r;have hb:b=P.okH (toHp h):=hr
 subst hb;dsimp only;refine zac (fun h1=>zab ?_) fun h1=>zad (zjV h hw) ?_
 . simp only [qar]at h1;rw [h1];exact ⟨rfl,fun c=>by cases c⟩
 simp only [qaw]at h1;rintro ⟨⟨(g:Bool),_⟩,_⟩ hg;dsimp only at hg ⊢
 rw [<-hg,if_pos h1];refine zac (fun h2=>zab ?_) fun h2=>zad (zdz h hw) ?_
 . simp only [qar]at h2;rw [h2];exact ⟨rfl,fun c=>by cases c⟩
 simp only [qaw]at h2;rw [h2];rintro ⟨⟨(all:List Int),_,_⟩,_⟩ ⟨hall,-⟩;dsimp only at hall ⊢
 have hpl:=hw.pl;have hsp:0<=h.2.2.2.1/\h.2.2.2.1<=1:=P.zd7.1 (P.zaN (zf9 h1)).2.2.2.1
 have ws:W (1-h.2.2.2.1)=1-h.2.2.2.1:=W_id (by omega)
 rw [ws];refine zae (zak.2 (by omega)) (zad (P:=fun r=>r.2.2.1.map toPg=(P.zbB (toHp h)).h.pages) (zai (fun x=>∃ k:Nat,x.1.1=(k:Int)/\k<=h.2.2.1.length/\x.2.2.1.map toPg=P.bgPs (toHp h) k) (fun x=>((h.2.2.1.length:Int)-x.1.1).toNat) ⟨0,rfl,by omega,rfl⟩ ?_) fun r hr=>zab ⟨rfl,fun _=>?_⟩)
 . rintro ⟨⟨(k':Int),_⟩,_,(ps:List PgD),_⟩ ⟨k,e1,e2,e3⟩;dsimp only at e1 e3 ⊢
   subst e1;have hlp:ps.length=h.2.2.1.length:=by
    have:=congrArg List.length e3
    rw [P.ziJ,qaj]at this;exact this.trans (qaj ..)
   refine zac (fun h4=>?_) fun h4=>zab ?_
   . simp only [qab]at h4;have hk:k<h.2.2.1.length:=by omega
     have w:W ((k:Int)+1)=((k+1:Nat):Int):=by rw [W_id (by omega)];omega
     have hin:inB (k:Int) ps.length=true:=zag.2 ⟨by omega,h4⟩
     have hat:(toHp h).pages[k]?=some (toPg (h.2.2.1.getD k PG0)):=zaF hk
     have h5:=P.zqi (toHp h) k k _ hat;rw [if_neg (by omega),<-e3,zaF (by omega)]at h5
     have h5:toPg (ps.getD k PG0)=toPg (h.2.2.1.getD k PG0):=Option.some.inj h5
     have hD:(toHp h).pages.getD k P.Pg.zero=toPg (ps.getD k PG0):=by rw [P.zam hat,h5]
     have hB:P.bgB (toHp h) k=((ps.getD k PG0).1 == 1&&decide (0<(ps.getD k PG0).2.2.2.1)):=by
      unfold P.bgB;rw [hD,qa8,qae,qae,qab,qab,qab,qaz];exact Iff.rfl
     have hbg:P.bgPs (toHp h) (k+1)=if P.bgB (toHp h) k then (P.bgPs (toHp h) k).set k ⟨((toHp h).pages.getD k P.Pg.zero).kind,1-(toHp h).space,((toHp h).pages.getD k P.Pg.zero).used,((toHp h).pages.getD k P.Pg.zero).pins⟩ else P.bgPs (toHp h) k:=rfl
     rw [hD,hB]at hbg;rw [w,qac];simp only [cand];refine zae hin (zae (zaz fun _=>hin) (zac (fun h6=>zab ?_) fun h6=>zab ?_))
     . rw [if_pos h6]at hbg;simp only [qam];refine ⟨⟨k+1,rfl,by omega,?_⟩,by omega⟩
       rw [hbg,qba,e3];rfl
     . rw [if_neg (fun c=>Bool.noConfusion (c.symm.trans h6))]at hbg
       simp only [qam];exact ⟨⟨k+1,rfl,by omega,by rw [hbg,e3]⟩,by omega⟩
   . simp only [qag]at h4;simp only [qal];rw [e3,<-P.zvo];have:(toHp h).pages.length=h.2.2.1.length:=qaj ..
     rw [this,show k=h.2.2.1.length by omega]
 . unfold toWk;dsimp only;rw [hall];have e:toHp ((h.1.1,h.1.2.1,()),h.2.1,r.2.2.1,h.2.2.2.1,h.2.2.2.2.1,())={ toHp h with pages:=(P.zbB (toHp h)).h.pages }:=by
    unfold toHp;dsimp only;rw [hr];rfl
   rw [e]
   rfl
end Go.VI
namespace Go.VI
open Go
theorem zt5(d:WkD)(hx:P.PlOK (toWk d))(n:Int)(hn:0<=n/\n<=100000):
 Tot (fun r=>r.1.2.2.1=P.plB (toWk d) n/\(r.1.2.2.1=true->toWk r.1.1=P.plW (toWk d) n/\r.1.2.1=P.plA (toWk d) n)) (F_r10_place (d,n,())):=by
 obtain ⟨⟨⟨pw,np,_⟩,ws,ps,sp,bu,_⟩,old,taken,queue,sc,⟨r0,r1,r2,r3,r4,r5,_⟩,_⟩:=d;have x1:=hx.pw0;have x2:=hx.pw1;have x3:=hx.np0;have x4:=hx.np1;have x5:=hx.sp0;have x6:=hx.sp1;have x7:=hx.tk;have x8:=hx.last
 have hps:=fun hb=>P.zeH (n:=n) hx hb
 have hlm:(ps.map toPg).length=ps.length:=qaj ..
 have hreu:P.zcO (toWk (((pw,np,()),ws,ps,sp,bu,()),old,taken,queue,sc,(r0,r1,r2,r3,r4,r5,()),())) n=(match taken.getLast? with | some l=>decide (((ps.map toPg).getD l.toNat P.Pg.zero).used+n<=pw) | none=>false):=rfl
 have hplB:P.plB (toWk (((pw,np,()),ws,ps,sp,bu,()),old,taken,queue,sc,(r0,r1,r2,r3,r4,r5,()),())) n=(P.zcO (toWk (((pw,np,()),ws,ps,sp,bu,()),old,taken,queue,sc,(r0,r1,r2,r3,r4,r5,()),())) n || decide (0<=P.zau (ps.map toPg) 1)):=rfl
 have hplJ:P.plJ (toWk (((pw,np,()),ws,ps,sp,bu,()),old,taken,queue,sc,(r0,r1,r2,r3,r4,r5,()),())) n=if P.zcO (toWk (((pw,np,()),ws,ps,sp,bu,()),old,taken,queue,sc,(r0,r1,r2,r3,r4,r5,()),())) n then taken.getLast?.getD (-1) else P.zau (ps.map toPg) 1:=rfl
 have hplPs:P.plPs (toWk (((pw,np,()),ws,ps,sp,bu,()),old,taken,queue,sc,(r0,r1,r2,r3,r4,r5,()),())) n=if P.zcO (toWk (((pw,np,()),ws,ps,sp,bu,()),old,taken,queue,sc,(r0,r1,r2,r3,r4,r5,()),())) n then ps.map toPg else P.zb6 (ps.map toPg) (P.zau (ps.map toPg) 1) (1-sp):=rfl
 have hplT:P.plT (toWk (((pw,np,()),ws,ps,sp,bu,()),old,taken,queue,sc,(r0,r1,r2,r3,r4,r5,()),())) n=if P.zcO (toWk (((pw,np,()),ws,ps,sp,bu,()),old,taken,queue,sc,(r0,r1,r2,r3,r4,r5,()),())) n then taken else taken++[P.zau (ps.map toPg) 1]:=rfl
 have hplW:P.plW (toWk (((pw,np,()),ws,ps,sp,bu,()),old,taken,queue,sc,(r0,r1,r2,r3,r4,r5,()),())) n=⟨⟨pw,np,ws,P.zgS (P.plPs (toWk (((pw,np,()),ws,ps,sp,bu,()),old,taken,queue,sc,(r0,r1,r2,r3,r4,r5,()),())) n) (P.plJ (toWk (((pw,np,()),ws,ps,sp,bu,()),old,taken,queue,sc,(r0,r1,r2,r3,r4,r5,()),())) n).toNat n,sp,bu⟩,old,P.plT (toWk (((pw,np,()),ws,ps,sp,bu,()),old,taken,queue,sc,(r0,r1,r2,r3,r4,r5,()),())) n,queue,sc,r0,r1,r2,r3,r4,r5⟩:=rfl
 have hplA:P.plA (toWk (((pw,np,()),ws,ps,sp,bu,()),old,taken,queue,sc,(r0,r1,r2,r3,r4,r5,()),())) n=4096+P.plJ (toWk (((pw,np,()),ws,ps,sp,bu,()),old,taken,queue,sc,(r0,r1,r2,r3,r4,r5,()),())) n*pw+((P.plPs (toWk (((pw,np,()),ws,ps,sp,bu,()),old,taken,queue,sc,(r0,r1,r2,r3,r4,r5,()),())) n).getD (P.plJ (toWk (((pw,np,()),ws,ps,sp,bu,()),old,taken,queue,sc,(r0,r1,r2,r3,r4,r5,()),())) n).toNat P.Pg.zero).used:=rfl
 generalize hX:toWk (((pw,np,()),ws,ps,sp,bu,()),old,taken,queue,sc,(r0,r1,r2,r3,r4,r5,()),())=X at *
 have x1:16<=pw:=by rw [<-hX]at x1;exact x1
 have x2:pw<=64:=by rw [<-hX]at x2;exact x2
 have x3:1<=ps.length:=by rw [<-hX]at x3;rw [<-hlm];exact x3
 have x4:ps.length<=64:=by rw [<-hX]at x4;rw [<-hlm];exact x4
 have x5:0<=sp:=by rw [<-hX]at x5;exact x5
 have x6:sp<=1:=by rw [<-hX]at x6;exact x6
 have x7:taken.length<=1000:=by rw [<-hX]at x7;exact x7
 have x8:∀ l,taken.getLast?=some l->∃ k:Nat,l=k/\∃ g,(ps.map toPg)[k]?=some g/\0<=g.used/\g.used<=pw:=by rw [<-hX]at x8;exact x8
 have hps:P.plB X n=true->∃ j:Nat,∃ y:P.Pg,P.plJ X n=j/\j<ps.length/\(P.plPs X n).length=ps.length/\(P.plPs X n)[j]?=some y/\0<=y.used/\y.used<=pw:=fun hb=>by
  obtain ⟨j,y,a1,a2,a3,a4,a5,a6,-⟩:=hps hb;have e1:X.h.pages.length=ps.length:=by rw [<-hX];exact hlm
  have e2:X.h.pw=pw:=by rw [<-hX];rfl
  rw [e1]at a2 a3;rw [e2]at a6;exact ⟨j,y,a1,a2,a3,a4,a5,a6⟩
 have hT:0<taken.length->∃ k:Nat,taken.getD (W ((taken.length:Int)-1)).toNat 0=(k:Int)/\k<ps.length/\taken.getLast?=some (k:Int)/\0<=(ps.getD k PG0).2.2.1/\(ps.getD k PG0).2.2.1<=pw:=fun h0=>by
  rcases qcg taken with e | ⟨pre,t,e⟩
  . rw [e]at h0;cases h0
  . rw [qcw]at e;have hl:taken.getLast?=some t:=by rw [e];simp
    obtain ⟨k,rfl,g,hg,g0,g1⟩:=x8 t hl;have hk:=(qap.1 hg).1;rw [hlm]at hk;rw [zaF hk]at hg;have hg:=Option.some.inj hg;have hlen:taken.length=pre.length+1:=by rw [e];simp
    have w:W ((taken.length:Int)-1)=pre.length:=by rw [W_id (by omega)];omega
    refine ⟨k,?_,hk,hl,?_,?_⟩
    . rw [w,qac,e,qax,qbo (qao _),qbG];rfl
    . rw [<-hg]at g0;exact g0
    . rw [<-hg]at g1;exact g1
 have hC:(bif decide ((taken.length:Int) > 0) then decide (W ((ps.getD (taken.getD (W ((taken.length:Int)-1)).toNat 0).toNat PG0).2.2.1+n)<=pw) else false)=P.zcO X n:=by
  rw [hreu];by_cases h0:0<taken.length
  . obtain ⟨k,t1,t2,t3,t4,t5⟩:=hT h0;rw [t1,t3,qac,qad (show (taken.length:Int) > 0 by omega)]
    simp only [qah,qac];have w:W ((ps.getD k PG0).2.2.1+n)=(ps.getD k PG0).2.2.1+n:=W_id (by omega)
    have e:((ps.map toPg).getD k P.Pg.zero).used=(ps.getD k PG0).2.2.1:=by rw [zaB];rfl
    rw [w];exact decide_eq_decide.2 (by rw [e])
  . have e:taken=[]:=qbT (by omega)
    rw [e];rfl
 have hG1:(bif decide ((taken.length:Int) > 0) then inB (W ((taken.length:Int)-1)) taken.length else true)=true:=zaz fun h=>by
  simp only [qab]at h;rw [W_id (by omega)]
  exact zag.2 ⟨by omega,by omega⟩
 have hG2:(bif decide ((taken.length:Int) > 0) then inB (taken.getD (W ((taken.length:Int)-1)).toNat 0) ps.length else true)=true:=zaz fun h=>by
  simp only [qab]at h;obtain ⟨k,t1,t2,-⟩:=hT (by omega)
  rw [t1];exact zag.2 ⟨by omega,by omega⟩
 have hpos:P.zcO X n=true->0<taken.length:=fun h=>by
  rw [<-hC]at h;by_cases h0:0<taken.length
  . exact h0
  . rw [qai (show ¬(taken.length:Int) > 0 by omega)]at h;cases h
 rw [zrg];dsimp only
 rw [hC];refine zae (zak.2 (by omega)) (zae hG1 (zae hG2 (zae (zaz fun h=>?_) (zac (fun hc=>?_) fun hc=>?_))))
 . have h0:=hpos h;rw [qad (show (taken.length:Int) > 0 by omega)]at hG1
   exact hG1
 . have h0:=hpos hc;have hb:P.plB X n=true:=by rw [hplB,hc];rfl
   obtain ⟨k,t1,t2,t3,t4,t5⟩:=hT h0;rw [t1,qac];have hin:inB (k:Int) ps.length=true:=zag.2 ⟨by omega,by omega⟩
   have hkp:0<=(k:Int)*pw/\(k:Int)*pw<=4096:=⟨qbl (by omega) (by omega),by
    calc (k:Int)*pw<=64*pw:=qaV (by omega) (by omega)
     _<=4096:=by omega⟩
   have v1:W ((k:Int)*pw)=k*pw:=W_id (by omega)
   have v2:W (4096+(k:Int)*pw)=4096+k*pw:=W_id (by omega)
   have v3:W (4096+(k:Int)*pw+(ps.getD k PG0).2.2.1)=4096+k*pw+(ps.getD k PG0).2.2.1:=W_id (by omega)
   have v4:U (4096+(k:Int)*pw+(ps.getD k PG0).2.2.1)=4096+k*pw+(ps.getD k PG0).2.2.1:=U_id (by omega)
   have v5:W ((ps.getD k PG0).2.2.1+n)=(ps.getD k PG0).2.2.1+n:=W_id (by omega)
   have eJ:P.plJ X n=(k:Int):=by rw [hplJ,if_pos hc,t3];rfl
   have eP:P.plPs X n=ps.map toPg:=by rw [hplPs,if_pos hc]
   have eT:P.plT X n=taken:=by rw [hplT,if_pos hc]
   refine zae hin (zae hin (zae hin (zab ⟨hb.symm,fun _=>⟨?_,?_⟩⟩)))
   . rw [hplW,eJ,eP,eT,qac];unfold toWk toHp P.zgS;dsimp only;rw [qba,zaB,v5];rfl
   . rw [hplA,eJ,eP,qac,zaB];dsimp only;rw [v1,v2,v3,v4];rfl
 . refine zad (zhF ps 1 (by omega)) ?_
   rintro ⟨⟨(K':Int),_⟩,_⟩ hK;dsimp only at hK ⊢
   refine zac (fun h1=>zab ?_) fun h1=>?_
   . simp only [qab]at h1;refine ⟨?_,fun c=>by cases c⟩
     rw [hplB,hc,<-hK,qai (by omega)];rfl
   simp only [qag]at h1;have hb:P.plB X n=true:=by rw [hplB,<-hK,qad (show 0<=K' by omega),Bool.or_true]
   obtain ⟨K,rfl⟩:=qaP (show 0<=K' by omega)
   obtain ⟨j,y,a1,a2,a3,a4,a5,a6⟩:=hps hb;have eJ:P.plJ X n=(K:Int):=by rw [hplJ,if_neg (by rw [hc];decide),<-hK]
   have eP:P.plPs X n=P.zb6 (ps.map toPg) K (1-sp):=by rw [hplPs,if_neg (by rw [hc];decide),<-hK]
   have eT:P.plT X n=taken++[(K:Int)]:=by rw [hplT,if_neg (by rw [hc];decide),<-hK]
   have hj:j=K:=by rw [eJ]at a1;omega
   subst hj;obtain ⟨-,s1,s2⟩:=P.zdF (ps:=ps.map toPg) (k:=1) (by omega)
   rw [<-hK]at s1 s2;obtain ⟨z,hz,hz0⟩:=s2 j (by omega) (by omega)
   have hf:P.zcB (ps.map toPg) j 1=true:=by
    have:=P.zcp (ps:=ps.map toPg) (i:=j) (k:=0) (x:=z) (by rw [qa9];exact hz)
    rw [P.zcY,hz0]at this;simpa using this
   have ws':W (1-sp)=1-sp:=W_id (by omega)
   rw [ws'];refine zad (ziN ps j (1-sp) (by omega) (by omega) (by omega) hf) ?_
   rintro ⟨⟨(qs:List PgD),_,_⟩,_⟩ ⟨hqs,-⟩;dsimp only at hqs ⊢
   rw [<-hqs]at eP;rw [eP]at a3 a4;rw [qaj]at a3;have hjq:j<qs.length:=by omega
   rw [zaF hjq]at a4;have a4:=Option.some.inj a4;rw [<-a4]at a5 a6;have a5:0<=(qs.getD j PG0).2.2.1:=a5
   have a6:(qs.getD j PG0).2.2.1<=pw:=a6
   rw [qac];have hin:inB (j:Int) qs.length=true:=zag.2 ⟨by omega,by omega⟩
   have hkp:0<=(j:Int)*pw/\(j:Int)*pw<=4096:=⟨qbl (by omega) (by omega),by
    calc (j:Int)*pw<=64*pw:=qaV (by omega) (by omega)
     _<=4096:=by omega⟩
   have v1:W ((j:Int)*pw)=j*pw:=W_id (by omega)
   have v2:W (4096+(j:Int)*pw)=4096+j*pw:=W_id (by omega)
   have v3:W (4096+(j:Int)*pw+(qs.getD j PG0).2.2.1)=4096+j*pw+(qs.getD j PG0).2.2.1:=W_id (by omega)
   have v4:U (4096+(j:Int)*pw+(qs.getD j PG0).2.2.1)=4096+j*pw+(qs.getD j PG0).2.2.1:=U_id (by omega)
   have v5:W ((qs.getD j PG0).2.2.1+n)=(qs.getD j PG0).2.2.1+n:=W_id (by omega)
   refine zae (zak.2 (by omega)) (zae (zak.2 (by simp;omega)) (zae hin (zae hin (zae hin (zab ⟨hb.symm,fun _=>⟨?_,?_⟩⟩)))))
   . rw [hplW,eJ,eP,eT,qac];unfold toWk toHp P.zgS;dsimp only;rw [qba,zaB,v5];rfl
   . rw [hplA,eJ,eP,qac,zaB];dsimp only;rw [v1,v2,v3,v4];rfl
end Go.VI
namespace Go.VI
open Go
abbrev WK0:WkD:=(H0,[],[],[],0,(0,0,0,0,0,0,()),())
theorem zez:toWk WK0=P.Wk.zero:=rfl
theorem zfm(d:WkD)(hx:P.FwOK (toWk d))(hwb:WBo d.1.2.1)(hol:d.2.1.length<=100000000)(a:Int)(ha:0<=a/\a<18446744073709551616):
 Tot (fun r=>r.1.2.2.1=P.evE (toWk d) a/\r.1.2.1=P.evA (toWk d) a/\toWk r.1.1=P.evW (toWk d) a) (F_r10_Forward (d,a,())):=by
 obtain ⟨⟨⟨pw,np,_⟩,ws,ps,sp,bu,_⟩,old,taken,queue,sc,⟨r0,r1,r2,r3,r4,r5,_⟩,_⟩:=d;have hwl:ws.length<=100000:=hx.wl
 have hql:queue.length<=1000000:=hx.ql
 have htk:taken.length<=1000:=hx.pl.tk
 have hlm:(ps.map toPg).length=ps.length:=qaj ..
 have hpl:ps.length<=64:=by rw [<-hlm];exact hx.pl.np1
 have hs0:0<=sp:=hx.pl.sp0
 have hs1:sp<=1:=hx.pl.sp1
 dsimp only at hwb hol
 generalize hX:toWk (((pw,np,()),ws,ps,sp,bu,()),old,taken,queue,sc,(r0,r1,r2,r3,r4,r5,()),())=X at *
 have Xq:X.queue=queue:=by rw [<-hX];rfl
 have Xo:X.old=old:=by rw [<-hX];rfl
 have Xw:X.h.words=ws:=by rw [<-hX];rfl
 have Xp:X.h.pages=ps.map toPg:=by rw [<-hX];rfl
 have Xpw:X.h.pw=pw:=by rw [<-hX];rfl
 have Xnp:X.h.np=np:=by rw [<-hX];rfl
 have Xs:X.h.space=sp:=by rw [<-hX];rfl
 have fin:∀ (e b:Int) (g:WkD) (c:Nat),P.evC X a=c->e=(match c with | 1=>19 | 3=>19 | 6=>3 | _=>0)->b=(match c with | 0=>a | 2=>P.tgtV (P.evWd X a).toNat | 4=>a | 5=>a | 7=>P.plA X (P.evN X a) | _=>0)->toWk g=(match c with | 0=>X | 2=>X | 4=>P.zcA X a | 5=>P.zcA (P.zbV X (P.evI X a).toNat) a | 7=>P.zbi X a | _=>P.Wk.zero) ->
  Tot (fun r:(WkD×Int×Int×Unit)×Unit=>r.1.2.2.1=P.evE X a/\r.1.2.1=P.evA X a/\toWk r.1.1=P.evW X a) (some ((g,b,e,()),())):=fun e b g c hc h1 h2 h3=>by
  refine zab ?_;unfold P.evE P.evA P.evW;rw [hc];exact ⟨h1,h2,h3⟩
 rw [zem];dsimp only
 refine zac (fun h1=>?_) fun h1=>zad (zdW queue a (by omega)) ?_
 . simp only [qaz]at h1;exact fin _ _ _ 0 (by unfold P.evC;rw [if_pos (.inl h1)]) rfl rfl hX
 simp only [qaI,ne_eq]at h1;rintro ⟨⟨(b1:Bool),_⟩,_⟩ hb1;dsimp only at hb1 ⊢
 refine zac (fun h2=>?_) fun h2=>zad (zdW old a (by omega)) ?_
 . rw [h2]at hb1;exact fin _ _ _ 0 (by unfold P.evC;rw [Xq,if_pos (.inr (qat hb1.symm))]) rfl rfl hX
 rw [h2]at hb1;have hnq:=qa4 hb1.symm;rintro ⟨⟨(b2:Bool),_⟩,_⟩ hb2;dsimp only at hb2 ⊢
 have c0:¬(a=0\/a∈X.queue):=by rw [Xq];exact fun c=>c.elim h1 hnq
 refine zac (fun h3=>?_) fun h3=>zad (zc1 ws a (by omega) ha) ?_
 . simp only [qar]at h3;rw [h3]at hb2;exact fin _ _ _ 1 (by unfold P.evC;rw [if_neg c0,Xo,if_pos (qa4 hb2.symm)]) rfl rfl zez
 simp only [qaw]at h3;rw [h3]at hb2;have hold:=qat hb2.symm;have c1:¬¬a∈X.old:=by rw [Xo];exact fun c=>c hold
 rintro ⟨⟨(wd:Int),_,_⟩,_⟩ ⟨hwd,-⟩;dsimp only at hwd ⊢
 obtain ⟨y,hy,hy2⟩:=P.zeU hwb a;rw [hy]at hwd;subst hwd;have hev:(P.evWd X a).toNat=y:=by unfold P.evWd;rw [Xw,hy];rfl
 refine zad (zkF y hy2) ?_;rintro ⟨⟨(tg:Int),(tok:Bool),_⟩,_⟩ ⟨htg,htok⟩;dsimp only at htg htok ⊢
 refine zac (fun h4=>?_) fun h4=>zad (ziO pw np a ha) ?_
 . refine fin _ _ _ 2 ?_ rfl ?_ hX
   . unfold P.evC;rw [if_neg c0,if_neg c1,hev,<-htok,if_pos h4]
   . show tg=P.tgtV (P.evWd X a).toNat
     rw [hev,htg]
 have c2:¬P.okT (P.evWd X a).toNat=true:=by rw [hev,<-htok,h4];decide
 rintro ⟨⟨(i:Int),(o:Int),(e:Int),_⟩,_⟩ ⟨g1,g2,g3⟩;dsimp only at g1 g2 g3 ⊢
 have hI:P.evI X a=i:=by unfold P.evI;rw [Xpw,Xnp,g1]
 simp only [cor];refine zac (fun h5=>?_) fun h5=>zad (zer _ i (by show taken.length<=_;omega) (by show ps.length<=_;omega)) ?_
 . simp only [qaZ,qaC,ne_eq,qab]at h5;refine fin _ _ _ 3 ?_ rfl rfl zez;unfold P.evC;rw [if_neg c0,if_neg c1,if_neg c2,Xpw,Xnp,<-g3,hI,Xp,hlm,if_pos (by omega)]
 simp only [qaQ,qaB,qag]at h5;have c3:¬(¬P.ofE X.h.pw X.h.np a=0\/(X.h.pages.length:Int)<=P.evI X a):=by rw [Xpw,Xnp,<-g3,hI,Xp,hlm];omega
 have hi0:0<=i:=by
  obtain ⟨_,q,_⟩:=P.zuT (pw:=pw) (np:=np) (a:=a) (by omega)
  omega
 rw [hX];rintro ⟨⟨(pr:Bool),_⟩,_⟩ hpr;dsimp only at hpr ⊢
 refine zac (fun h6=>zad (zoY _ a (by show queue.length<=_;omega)) ?_) fun h6=>?_
 . rintro ⟨⟨(g:WkD),_⟩,_⟩ hg;rw [hX]at hg;dsimp only at hg ⊢
   refine fin _ _ g 4 ?_ rfl rfl hg;unfold P.evC;rw [if_neg c0,if_neg c1,if_neg c2,if_neg c3,hI,<-hpr,if_pos h6]
 have c4:¬P.zdv X (P.evI X a)=true:=by rw [hI,<-hpr,h6];decide
 obtain ⟨j,rfl⟩:=qaP hi0;have hj:j<ps.length:=by omega
 have hinj:inB (j:Int) ps.length=true:=zag.2 ⟨by omega,by omega⟩
 rw [qac];have hBig:P.zeq X a=((ps.getD j PG0).1 == 2):=by
  unfold P.zeq;rw [hI,qac,qa8,qab,qaz,Xp,zaB];exact Iff.rfl
 refine zae hinj (zae (zaz fun _=>zak.2 (by omega)) (zae (zaz fun _=>hinj) (zac (fun h7=>?_) fun h7=>?_)))
 . have hsw:W (1-sp)=1-sp:=W_id (by omega)
   have hw1:W ((j:Int)+1)=((j+1:Nat):Int):=by rw [W_id (by omega)];omega
   rw [hsw,hw1];refine zad (P:=fun r=>r.2.2.1.map toPg=P.spc (ps.map toPg) j (P.zbR (ps.map toPg) j) (1-sp)) (zai (fun x=>∃ k:Nat,x.1.1=(k:Int)/\j+1<=k/\k<=ps.length/\x.2.2.1.map toPg=P.spc (ps.map toPg) j k (1-sp)/\∀ t y,j<t->t<k->(ps.map toPg)[t]?=some y->y.kind=3) (fun x=>((ps.length:Int)-x.1.1).toNat) ⟨j+1,rfl,by omega,by omega,?_,fun t y t1 t2=>by omega⟩ ?_) ?_
   . have:=P.zlr (ps:=ps.map toPg) (i:=j) (k:=j) (sp:=1-sp) (qao _) (zaF hj)
     rw [P.zqU]at this;rw [<-this,qba];rfl
   . rintro ⟨⟨(k':Int),_⟩,_,(qs:List PgD),_⟩ ⟨k,e1,e2,e3,e4,e5⟩;dsimp only at e1 e4 ⊢
     subst e1;have hql:qs.length=ps.length:=by
      have:=congrArg List.length e4
      rw [P.zsT,qaj,qaj]at this;exact this
     have hkd:k<ps.length->toPg (qs.getD k PG0)=toPg (ps.getD k PG0):=fun hk=>by
      have h8:=P.zhl (i:=j) (k:=k) (sp:=1-sp) (zaF hk)
      rw [<-e4,zaF (by omega),if_neg (by omega)]at h8
      exact Option.some.inj h8
     have w:W ((k:Int)+1)=((k+1:Nat):Int):=by rw [W_id (by omega)];omega
     rw [w,qac];simp only [cand];refine zae (zaz fun h=>?_) (zac (fun h8=>zae ?_ (zab ?_)) fun h8=>zab ?_)
     . simp only [qab]at h;exact zag.2 ⟨by omega,h⟩
     . simp only [qae,qab]at h8;exact zag.2 ⟨by omega,h8.1⟩
     . simp only [qae,qab,qaz]at h8;have hk:k<ps.length:=by omega
       have hkk:=hkd hk;simp only [qam];refine ⟨⟨k+1,rfl,by omega,by omega,?_,fun t y t1 t2 hy=>?_⟩,by omega⟩
       . rw [<-P.zlr (by omega) (zaF hk),qba,e4,<-hkk];rfl
       . by_cases ht:t=k
         . subst ht;rw [zaF hk]at hy;rw [<-Option.some.inj hy,<-hkk];exact h8.2
         . exact e5 t y t1 (by omega) hy
     . simp only [qal];rw [e4,P.zjj e2 (by rw [hlm];exact e3) e5 (fun y hy=>?_)]
       have hk:=(qap.1 hy).1;rw [hlm]at hk;have hkk:=hkd hk;rw [zaF hk]at hy;rw [<-Option.some.inj hy,<-hkk];intro h9;have h9:(qs.getD k PG0).1=3:=h9
       rw [h9,qad (show (k:Int)<(qs.length:Int) by omega)]at h8
       cases h8
   . rintro ⟨_,_,(qs:List PgD),_⟩ hqs;dsimp only at hqs ⊢
     refine zad (zoY _ a (by show queue.length<=_;omega)) ?_
     rintro ⟨⟨(g:WkD),_⟩,_⟩ hg;dsimp only at hg ⊢
     refine fin _ _ g 5 ?_ rfl rfl ?_
     . unfold P.evC;rw [if_neg c0,if_neg c1,if_neg c2,if_neg c3,if_neg c4,hBig,if_pos h7]
     . show toWk g=P.zcA (P.zbV X (P.evI X a).toNat) a
       rw [hg,hI,qac];have:toWk (((pw,np,()),ws,qs,sp,bu,()),old,taken,queue,sc,(r0,r1,r2,r3,r4,r5,()),())=P.zbV X j:=by
        unfold P.zbV;rw [Xp,Xs,<-hqs,<-hX];rfl
       rw [this]
 . have c5:¬P.zeq X a=true:=by rw [hBig,h7];decide
   refine zad (zgt y hy2) ?_;rintro ⟨⟨⟨(dk:Int),(dn:Int),(dm:Int),_⟩,_,_⟩,_⟩ ⟨-,hd⟩;dsimp only at hd ⊢
   simp only [Prod.mk.injEq,qbn]at hd;obtain ⟨hk1,hk2,hk3⟩:=hd;have hmb:=P.zx6 y;rw [<-hk3]at hmb;have hN:P.evN X a=P.zaP dk dn dm:=by unfold P.evN;rw [hev,hk1,hk2,hk3]
   have hNb:=P.evN_bd X a;rw [zcq dk dn dm hmb,qaa];dsimp only;rw [<-hN];have hx':P.PlOK (toWk (((pw,np,()),ws,ps,sp,bu,()),old,taken,queue,sc,(r0,r1,r2,r3,r4,r5,()),())):=by rw [hX];exact hx.pl
   refine zad (zt5 _ hx' (P.evN X a) (by omega)) ?_
   rw [hX];rintro ⟨⟨(g:WkD),(to:Int),(ok:Bool),_⟩,_⟩ ⟨hok,hg⟩;dsimp only at hok hg ⊢
   refine zac (fun h8=>?_) fun h8=>?_
   . simp only [qar]at h8;refine fin _ _ _ 6 ?_ rfl rfl zez;unfold P.evC;rw [if_neg c0,if_neg c1,if_neg c2,if_neg c3,if_neg c4,if_neg c5,<-hok,h8];rfl
   . simp only [qaw]at h8;obtain ⟨hg1,hg2⟩:=hg h8;have hplb:P.plB X (P.evN X a)=true:=by rw [<-hok];exact h8
     have hto:=P.zxg hx.pl hplb;rw [<-hg2]at hto;obtain ⟨⟨⟨pw',np',_⟩,ws',ps',sp',bu',_⟩,old',taken',queue',sc',⟨s0,s1,s2,s3,s4,s5,_⟩,_⟩:=g;have ew:ws'=ws:=by
      have:=congrArg (fun z=>z.h.words) hg1
      exact this.trans Xw
     have eq:queue'=queue:=by
      have:=congrArg (fun z=>z.queue) hg1
      exact this.trans Xq
     subst ew eq;refine zad (zwk ws' to a (P.evN X a) (by omega) hto ha) ?_
     rintro ⟨⟨(w2:List Int),_,_⟩,_⟩ ⟨hw2,-⟩;dsimp only at hw2 ⊢
     have hw2l:w2.length<=ws'.length:=by rw [hw2];exact P.zuY _ _ _ _
     refine zad (zqn to hto) ?_;rintro ⟨⟨(fw:Int),_,_⟩,_⟩ ⟨hfw,-⟩;dsimp only at hfw ⊢
     refine zad (zhG w2 a fw (by omega) ha) ?_
     rintro ⟨⟨(w3:List Int),_,_⟩,_⟩ ⟨hw3,-⟩;dsimp only at hw3 ⊢
     refine zae (zak.2 (by omega)) (zae (zak.2 (by simp;omega)) ?_)
     refine fin _ _ _ 7 ?_ rfl hg2 ?_
     . unfold P.evC;rw [if_neg c0,if_neg c1,if_neg c2,if_neg c3,if_neg c4,if_neg c5,if_pos hplb]
     . show _=P.zbi X a
       have hcw:P.zkB X a=w3:=by
        unfold P.zkB;rw [Xw,<-hg2,<-hw2,<-hfw,hw3]
       unfold P.zbi;rw [hcw,<-hg1,Xq,<-hg2,zkI];have e0:X.r0=s0:=by
        have:=congrArg (fun z=>z.r0) hg1
        exact this.symm
       rw [e0];rfl
end Go.VI
namespace Go.VI
open Go
abbrev BxD:=Int×Int×List Int×List PgD×Int×Int×List Int×List Int×List Int×Int×Int×Int×Int×Int×Int×Int×Unit
def unfl(b:BxD):WkD:=(((b.1,b.2.1,()),b.2.2.1,b.2.2.2.1,b.2.2.2.2.1,b.2.2.2.2.2.1,()),b.2.2.2.2.2.2.1,b.2.2.2.2.2.2.2.1,b.2.2.2.2.2.2.2.2.1,b.2.2.2.2.2.2.2.2.2.1,(b.2.2.2.2.2.2.2.2.2.2.1,b.2.2.2.2.2.2.2.2.2.2.2.1,b.2.2.2.2.2.2.2.2.2.2.2.2.1,b.2.2.2.2.2.2.2.2.2.2.2.2.2.1,b.2.2.2.2.2.2.2.2.2.2.2.2.2.2.1,b.2.2.2.2.2.2.2.2.2.2.2.2.2.2.2.1,()),())
theorem zx3{x:P.Wk}(hx:P.PlOK x)(hw:P.WB x.h.words)(a:Int):P.WB (P.evW x a).h.words:=by
 unfold P.evW;split
 . exact hw
 . exact hw
 . exact hw
 . exact hw
 . rename_i h;refine P.zzO hx ?_ hw;unfold P.evC at h;repeat' (split at h <;> try cases h)
   all_goals first | assumption | (exfalso;omega)
 . exact P.WB.nil
theorem zx4(x:P.Wk)(a:Int):(P.evW x a).old=x.old\/(P.evW x a).old=[]:=by
 unfold P.evW;split <;> first | exact .inl rfl | exact .inr rfl
theorem zt3(d:WkD)(rs:List Int)(hR:P.zqF (toWk d) rs)(hwb:WBo d.1.2.1)(hol:d.2.1.length<=100000000)(hrl:rs.length<=1000000):
 Tot (fun r=>r.1.2.2.1=(P.zba (toWk d) [] rs).2.2/\r.1.2.1=(P.zba (toWk d) [] rs).2.1/\toWk r.1.1=(P.zba (toWk d) [] rs).1/\WBo r.1.1.1.2.1) (F_r11_Roots (d,rs,())):=by
 rw [zre];dsimp only
 refine zad (P:=fun r=>match r with
  | .inl x=>x.1.1=[]/\toWk (unfl x.2.2.2.1)=P.Wk.zero/\WBo x.2.2.2.1.2.2.1/\P.zba (toWk d) [] rs=(P.Wk.zero,[],x.1.2.1)
  | .inr y=>P.zba (toWk d) [] rs=(toWk (unfl y.2.2.1),y.2.1.1,0)/\WBo y.2.2.1.2.2.1) (zai (fun x=>∃ k:Nat,x.1.2.2.2.1=(k:Int)/\k<=rs.length/\x.2.1.1.length=k/\P.zqF (toWk (unfl x.2.2.1)) (rs.drop k)/\P.zba (toWk (unfl x.2.2.1)) x.2.1.1 (rs.drop k)=P.zba (toWk d) [] rs/\WBo x.2.2.1.2.2.1/\(unfl x.2.2.1).2.1.length<=100000000) (fun x=>((rs.length:Int)-x.1.2.2.2.1).toNat) ?_ ?_) ?_
 . exact ⟨0,rfl,by omega,rfl,hR,rfl,hwb,hol⟩
 . rintro ⟨⟨q1,q2,_,(k':Int),_⟩,⟨(acc:List Int),_⟩,(b:BxD),(b0:BxD),_⟩ ⟨k,e1,e2,e3,e4,e5,e6,e7⟩;dsimp only at e1 e3 e4 e5 e6 e7 ⊢
   subst e1;refine zac (fun h4=>?_) fun h4=>zab ?_
   . simp only [qab]at h4;have hk:k<rs.length:=by omega
     have w:W ((k:Int)+1)=((k+1:Nat):Int):=by rw [W_id (by omega)];omega
     have hd:rs.drop k=rs.getD k 0::rs.drop (k+1):=by
      rw [qaU hk,qax,qaq hk];rfl
     rw [hd]at e4 e5;rw [w,qac];generalize rs.getD k 0=a at e4 e5 ⊢
     obtain ⟨f1,f2,f3⟩:=e4;rw [P.zba]at e5;refine zae (zag.2 ⟨by omega,h4⟩) (zad (zfm (unfl b) f1 e6 e7 a f2) ?_)
     rintro ⟨⟨(g:WkD),(ad:Int),(e:Int),_⟩,_⟩ ⟨he,had,hg⟩;dsimp only at he had hg ⊢
     rw [<-he,<-had,<-hg]at e5;rw [<-he,<-hg]at f3;refine zac (fun h5=>zab ?_) fun h5=>zae (zak.2 (by simp;omega)) (zab ?_)
     . simp only [qaC,ne_eq]at h5;rw [if_neg h5]at e5;simp only [qal];exact ⟨by trivial,rfl,fun x hx=>(by cases hx),e5.symm⟩
     . simp only [qaB]at h5;rw [if_pos h5]at e5;simp only [qam];refine ⟨⟨k+1,rfl,by omega,by simp;omega,f3 h5,e5,?_,?_⟩,by omega⟩
       . show WBo (toWk g).h.words
         rw [hg];exact zx3 f1.pl e6 a
       . show (toWk g).old.length<=_
         rw [hg];rcases zx4 (toWk (unfl b)) a with c | c
         . rw [c];exact e7
         . rw [c];simp
   . simp only [qag]at h4;rw [qbx (by omega),P.zba]at e5
     simp only [qal];exact ⟨e5.symm,e6⟩
 . rintro r hr;refine zaR (fun x hx=>zab ?_) fun y hy=>zab ?_
   . subst hx;obtain ⟨g1,g2,g3,g4⟩:=hr;rw [g4];exact ⟨rfl,g1,g2,g3⟩
   . subst hy;obtain ⟨g1,g2⟩:=hr;rw [g1];exact ⟨rfl,rfl,rfl,g2⟩
end Go.VI
namespace Go.VI
open Go
theorem zsk(d:WkD)(hwb:WBo d.1.2.1)(hwl:d.1.2.1.length<=100000000)(a:Int)(ha:0<=a/\a<18446744073709551616):Tot (fun r=>toHd r.1.1=P.evH (toWk d) a) (F_r10_Get (d,a,())):=by
 rw [zvN];dsimp only
 obtain ⟨y,hy,hy2⟩:=P.zeU (show P.WB (toWk d).h.words from hwb) a
 refine zad (zc1 d.1.2.1 a hwl ha) ?_;rintro ⟨⟨(wd:Int),_,_⟩,_⟩ ⟨hwd,-⟩;dsimp only at hwd ⊢
 have hwd:wd=(y:Int):=hwd.trans hy
 subst hwd;refine zad (zgt y hy2) ?_;rintro ⟨⟨⟨(dk:Int),(dn:Int),(dm:Int),_⟩,_,_⟩,_⟩ ⟨-,hd⟩;dsimp only at hd ⊢
 simp only [Prod.mk.injEq,qbn]at hd;obtain ⟨h1,h2,h3⟩:=hd;refine zab ?_;unfold P.evH P.evWd;rw [hy,qac,h1,h2,h3];rfl
theorem zvC(x:P.Wk)(A:Int):(P.zdq x A).old=x.old\/(P.zdq x A).old=[]:=zx4 x _
theorem zwb(d:WkD)(k:Nat)(hk:(toWk d).sc=k)(hq:(toWk d).queue[k]?=none\/∃ A,(toWk d).queue[k]?=some A/\0<=A/\A<=1000000/\(toWk d).h.words.length<=100000/\P.StOK (toWk d) A (P.stL (toWk d) A))(hwb:WBo d.1.2.1)(hol:d.2.1.length<=100000000):
 Tot (fun r=>((toWk d).queue[k]?=none->r=((d,false,0,()),()))/\∀ A,(toWk d).queue[k]?=some A->r.1.2.2.1=P.stE (toWk d) A/\(P.stE (toWk d) A=0->r.1.2.1=true/\toWk r.1.1=P.stW (toWk d) A/\WBo r.1.1.1.2.1/\r.1.1.2.1.length<=100000000)) (F_r11_Step (d,())):=by
 have ek:d.2.2.2.2.1=(k:Int):=hk
 have eq:(toWk d).queue=d.2.2.2.1:=rfl
 rw [eq]at hq ⊢
 rw [zta];dsimp only
 rw [ek,qac];refine zac (fun h1=>zab ?_) fun h1=>?_
 . simp only [qab]at h1;have hn:d.2.2.2.1[k]?=none:=qbV (by omega)
   refine ⟨fun _=>?_,fun A hA=>by rw [hn]at hA;cases hA⟩
   try rw [<-ek]
   try rfl
 simp only [qag]at h1;have hkl:k<d.2.2.2.1.length:=by omega
 have hx:=getD_some hkl;obtain ⟨A,hA,a0,a1,hwl,hst⟩:∃ A,d.2.2.2.1[k]?=some A/\0<=A/\A<=1000000/\(toWk d).h.words.length<=100000/\P.StOK (toWk d) A (P.stL (toWk d) A):=by
  rcases hq with c | c
  . rw [hx]at c;cases c
  . exact c
 have hD:d.2.2.2.1.getD k 0=A:=by rw [hx]at hA;exact Option.some.inj hA
 rw [hD];have hwl':d.1.2.1.length<=100000:=hwl
 refine zae (zag.2 ⟨by omega,by omega⟩) (zad (P:=fun r=>toHd r.1.1=P.evH (toWk d) A) ?_ ?_)
 . try rw [<-ek]
   exact zsk d hwb (by omega) A (by omega)
 rintro ⟨⟨⟨(dk:Int),(dn:Int),(dm:Int),_⟩,_⟩,_⟩ hH;dsimp only at hH ⊢
 have e1:(P.evH (toWk d) A).k=dk:=(congrArg P.Hd.k hH).symm
 have e2:(P.evH (toWk d) A).n=dn:=(congrArg P.Hd.n hH).symm
 have e3:(P.evH (toWk d) A).m=dm:=(congrArg P.Hd.m hH).symm
 have hdm:0<=dm/\dm<4294967296:=by rw [<-e3];exact P.zx6 _
 have hdn:dn<=1000000:=by
  rw [<-e2];show P.decN _<=_
  unfold P.decN;split
  . unfold P.dN;omega
  . omega
 refine zad (zn4 dk dn dm hdm hdn) ?_;rintro ⟨⟨(l:List Int),_⟩,_⟩ hl;dsimp only at hl ⊢
 have hL:P.stL (toWk d) A=l:=by unfold P.stL;rw [e1,e2,e3,hl]
 have hlb:∀ i∈l,0<=i/\i<=1000:=fun i hi=>P.stL_bd (by rw [hL];exact hi)
 have hll:l.length<=1000000:=by
  rw [hl];unfold P.zgU;split
  . refine qaA (P.zvG _ _ _ _) (by omega)
  . simp
 have hE:P.stE (toWk d) A=(P.stGo (toWk d) A l).2:=by unfold P.stE;rw [hL]
 have hW:P.stW (toWk d) A={ (P.stGo (toWk d) A l).1 with sc:=RowKit.wrap64 ((P.stGo (toWk d) A l).1.sc+1),r5:=RowKit.wrap64 (RowKit.wrap64 ((P.stGo (toWk d) A l).1.r5+1)+l.length) }:=by unfold P.stW;rw [hL]
 rw [hL]at hst;try rw [<-ek]
 refine zad (P:=fun r=>match r with
  | .inl x=>P.stGo (toWk d) A l=(P.Wk.zero,x.1.2.1)/\¬x.1.2.1=0
  | .inr y=>P.stGo (toWk d) A l=(toWk (unfl y.2.2.1),0)/\WBo y.2.2.1.2.2.1/\(unfl y.2.2.1).2.1.length<=100000000) (zai (fun x=>∃ t:Nat,x.1.2.2.1=(t:Int)/\t<=l.length/\P.StOK (toWk (unfl x.2.2.1)) A (l.drop t)/\P.stGo (toWk (unfl x.2.2.1)) A (l.drop t)=P.stGo (toWk d) A l/\WBo x.2.2.1.2.2.1/\(unfl x.2.2.1).2.1.length<=100000000) (fun x=>((l.length:Int)-x.1.2.2.1).toNat) ?_ ?_) ?_
 . exact ⟨0,rfl,by omega,hst,rfl,hwb,hol⟩
 . rintro ⟨⟨q1,q2,(t':Int),_⟩,_,(b:BxD),(b0:BxD),_⟩ ⟨t,f1,f2,f3,f4,f5,f6⟩;dsimp only at f1 f3 f4 f5 f6 ⊢
   subst f1;refine zac (fun h4=>?_) fun h4=>zab ?_
   . simp only [qab]at h4;have ht:t<l.length:=by omega
     have w:W ((t:Int)+1)=((t+1:Nat):Int):=by rw [W_id (by omega)];omega
     have hd:l.drop t=l.getD t 0::l.drop (t+1):=by
      rw [qaU ht,qax,qaq ht];rfl
     have hpb:=hlb _ (zaJ (d:=0) ht)
     rw [hd]at f3 f4;rw [w,qac];generalize l.getD t 0=p at f3 f4 hpb ⊢
     obtain ⟨s1,s2⟩:=f3;have u1:U (A+1)=A+1:=U_id (by omega)
     have u2:U p=p:=U_id (by omega)
     have u3:U (A+1+p)=A+1+p:=U_id (by omega)
     rw [u1,u2,u3];have hbw:b.2.2.1.length<=100000:=s1.wl
     refine zae (zag.2 ⟨by omega,h4⟩) (zad (zc1 b.2.2.1 (A+1+p) (by omega) (by omega)) ?_)
     rintro ⟨⟨(v:Int),_,_⟩,_⟩ ⟨hv,-⟩;dsimp only at hv ⊢
     obtain ⟨y,hy,hy2⟩:=P.zeU (show P.WB (toWk (unfl b)).h.words from f5) (A+1+p)
     have hv':P.zap (toWk (unfl b)).h.words (A+1+p)=v:=hv.symm
     have hvb:0<=v/\v<18446744073709551616:=by rw [<-hv',hy];omega
     have hnext:P.zdq (toWk (unfl b)) (A+1+p)={ P.evW (toWk (unfl b)) v with h:={ (P.evW (toWk (unfl b)) v).h with words:=P.zaI (P.evW (toWk (unfl b)) v).h.words (A+1+p) [P.evA (toWk (unfl b)) v] } }:=by
      unfold P.zdq;rw [hv']
     have hwbn:=P.wb_next (A:=A+1+p) s1.pl (show P.WB (toWk (unfl b)).h.words from f5) (zx3 s1.pl f5 _)
     have holn:=zvC (toWk (unfl b)) (A+1+p);have hwl2:=P.evW_wl (x:=toWk (unfl b)) (n:=100000) s1.wl v
     rw [P.stGo,hv']at f4;rw [hv']at s2;refine zad (zfm (unfl b) s1 f5 f6 v hvb) ?_;rintro ⟨⟨(g:WkD),(ad:Int),(e:Int),_⟩,_⟩ ⟨he,had,hg⟩;dsimp only at he had hg ⊢
     rw [<-he]at f4 s2;rw [<-hg,<-had]at hnext;rw [<-hg]at hwl2;have hwl2:g.1.2.1.length<=100000:=hwl2
     refine zac (fun h5=>zab ?_) fun h5=>zad (zhG g.1.2.1 (A+1+p) ad (by omega) (by omega)) ?_
     . simp only [qaC,ne_eq]at h5;rw [if_neg h5]at f4;simp only [qal];exact ⟨f4.symm,h5⟩
     . simp only [qaB]at h5;rw [if_pos h5]at f4;have s2:=s2 h5;rintro ⟨⟨(w3:List Int),_,_⟩,_⟩ ⟨hw3,-⟩;dsimp only at hw3 ⊢
       have hnew:P.zdq (toWk (unfl b)) (A+1+p)=toWk ((g.1.1,w3,g.1.2.2),g.2):=by
        rw [hnext,hw3];rfl
       rw [hnew]at f4 s2 hwbn holn;refine zab ?_;simp only [qam];refine ⟨⟨t+1,rfl,by omega,s2,f4,hwbn,?_⟩,by omega⟩
       rcases holn with c | c
       . show (toWk ((g.1.1,w3,g.1.2.2),g.2)).old.length<=_
         rw [c];exact f6
       . show (toWk ((g.1.1,w3,g.1.2.2),g.2)).old.length<=_
         rw [c];simp
   . simp only [qag]at h4;rw [qbx (by omega),P.stGo]at f4
     simp only [qal];exact ⟨f4.symm,f5,f6⟩
 . rintro r hr;refine zaR (fun x hx=>zab ?_) fun y hy=>zab ?_
   . subst hx;obtain ⟨g1,g2⟩:=hr;refine ⟨fun c=>(by rw [hx]at c;cases c),fun A' hA'=>?_⟩
     rw [hA]at hA'
     have:=Option.some.inj hA'
     subst this;rw [hE,g1];exact ⟨rfl,fun c=>absurd c g2⟩
   . subst hy;obtain ⟨g1,g2,g3⟩:=hr;refine ⟨fun c=>(by rw [hx]at c;cases c),fun A' hA'=>?_⟩
     rw [hA]at hA'
     have:=Option.some.inj hA'
     subst this;rw [hE,hW,g1];refine ⟨rfl,fun _=>⟨rfl,?_,g2,g3⟩⟩
     simp only [zkI]
     rfl
end Go.VI
namespace Go.VI
open Go
theorem zpa{X Y:Type}{f:X->Option (X⊕Y)}{x:X}(Inv:Nat->X->Prop){Q:Y->Prop}(n:Nat)(h0:Inv n x)(h:∀ n x,Inv n x->Tot (Sum.elim (fun x'=>∃ m,m<n/\Inv m x') Q) (f x)):Tot Q (runLoop f x):=by
 have key:∀ (n m:Nat) (x:X),m<=n->Inv m x->∃ k y,iter f k x=some y/\Q y:=by
  intro n;induction n with
  | zero=>
   intro m x hm hi;obtain ⟨r,hr,hq⟩:=h m x hi;cases r with
   | inl x'=>obtain ⟨m',hm',-⟩:=hq;omega
   | inr y=>exact ⟨1,y,by simp [iter,hr],hq⟩
  | succ n ih=>
   intro m x hm hi;obtain ⟨r,hr,hq⟩:=h m x hi;cases r with
   | inl x'=>
    obtain ⟨m',hm',hi'⟩:=hq;obtain ⟨k,y,h1,h2⟩:=ih m' x' (by omega) hi'
    exact ⟨k+1,y,by simp [iter,hr,h1],h2⟩
   | inr y=>exact ⟨1,y,by simp [iter,hr],hq⟩
 obtain ⟨k,y,h1,h2⟩:=key n n x (qao _) h0;exact ⟨y,zoh h1,h2⟩
theorem zyf(d:WkD)(f:Nat)(hA:P.zym f (toWk d))(hwb:WBo d.1.2.1)(hol:d.2.1.length<=100000000):
 Tot (fun r=>r.1.2.1=(P.allV f (toWk d)).2/\toWk r.1.1=(P.allV f (toWk d)).1/\((P.allV f (toWk d)).2=0->WBo r.1.1.1.2.1/\r.1.1.2.1.length<=100000000)) (F_r11_All (d,())):=by
 rw [zvM];dsimp only
 refine zad (P:=fun r=>r.1.1=(P.allV f (toWk d)).2/\toWk (unfl r.2.2.2.1)=(P.allV f (toWk d)).1/\((P.allV f (toWk d)).2=0->WBo r.2.2.2.1.2.2.1/\(unfl r.2.2.2.1).2.1.length<=100000000)) (zpa (fun n x=>P.zym n (toWk (unfl x.2.2.1))/\P.allV n (toWk (unfl x.2.2.1))=P.allV f (toWk d)/\WBo x.2.2.1.2.2.1/\(unfl x.2.2.1).2.1.length<=100000000) f ?_ ?_) fun r hr=>zab hr
 . exact ⟨hA,rfl,hwb,hol⟩
 . rintro n ⟨⟨(e0:Int),_⟩,_,(b:BxD),(b0:BxD),_⟩ ⟨h1,h2,h3,h4⟩;dsimp only at h1 h2 h3 h4 ⊢
   cases n with
   | zero=>exact absurd h1 (by simp [P.zym])
   | succ n=>
    obtain ⟨k,k1,k2,k3⟩:=h1;refine zad (zwb (unfl b) k k1 (k3.imp id fun ⟨A,a1,a2,a3,a4,a5,_⟩=>⟨A,a1,a2,a3,a4,a5⟩) h3 h4) ?_
    rintro ⟨⟨(g:WkD),(more:Bool),(e:Int),_⟩,_⟩ ⟨g1,g2⟩;dsimp only at g1 g2 ⊢
    rcases k3 with hn | ⟨A,a1,a2,a3,a4,a5,a6⟩
    . have hr:=g1 hn;simp only [Prod.mk.injEq,qbn]at hr;obtain ⟨hg,hm,he⟩:=hr;rw [P.zvq k1 hn]at h2;rw [he,hm];refine zac (fun c=>by simp at c) fun _=>zac (fun _=>zab ?_) fun c=>by simp at c
      simp only [qal];rw [<-h2];refine ⟨rfl,?_,fun _=>⟨?_,?_⟩⟩
      . show toWk g=toWk (unfl b)
        rw [hg]
      . show WBo g.1.2.1
        rw [hg];exact h3
      . show g.2.1.length<=_
        rw [hg];exact h4
    . obtain ⟨g3,g4⟩:=g2 A a1;rw [P.zye k1 a1,<-g3]at h2;rw [<-g3]at g4 a6;refine zac (fun h5=>zab ?_) fun h5=>?_
      . simp only [qaC,ne_eq]at h5;rw [if_neg h5]at h2;simp only [qal];rw [<-h2];exact ⟨rfl,rfl,fun c=>absurd c h5⟩
      . simp only [qaB]at h5;rw [if_pos h5]at h2;obtain ⟨g5,g6,g7,g8⟩:=g4 h5;obtain ⟨-,a7⟩:=a6 h5;rw [<-g6]at h2 a7;rw [g5];refine zac (fun c=>by simp at c) fun _=>zab ?_
        simp only [qam];exact ⟨n,by omega,a7,h2,g7,g8⟩
end Go.VI
