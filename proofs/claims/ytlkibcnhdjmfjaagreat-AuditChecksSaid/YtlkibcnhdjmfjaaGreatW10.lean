import Derived.Test.YtlkibcnhdjmfjaaGreatW04
import Derived.Test.YtlkibcnhdjmfjaaGreatW08
import Derived.Test.YtlkibcnhdjmfjaaGreatW09
set_option linter.unusedSimpArgs false
set_option linter.unusedVariables false
set_option maxRecDepth 100000
set_option maxHeartbeats 4000000
namespace Go.VI
open Go
theorem zaB{c e:Bool}(h:c=true->e=true):(bif c then e else true)=true:=by cases c <;> simp_all
theorem cor(a b:Bool):(bif a then true else b)=(a || b):=by cases a <;> rfl
theorem cand(a b:Bool):(bif a then b else false)=(a&&b):=by cases a <;> rfl
theorem cimp(a b:Bool):(bif a then b else true)=(!a || b):=by cases a <;> rfl
def confB(pw np:Int):Bool:=decide (16<=pw)&&decide (pw<=64)&&decide (pw.tmod 4=0)&&decide (8<=np)&&decide (np<=64)
theorem zaV{pw np:Int}:confB pw np=true↔16<=pw/\pw<=64/\pw.tmod 4=0/\8<=np/\np<=64:=by simp [confB,and_assoc]
theorem zbh(pw np:Int):F_r04_ValidConf ((pw,np,()),())=some ((confB pw np,()),()):=by
 rw [zjs];dsimp only
 have e1:decide (16<=pw)=decide (pw >= 16):=rfl
 have e2:decide (8<=np)=decide (np >= 8):=rfl
 have e3:decide (pw.tmod 4=0)=(pw.tmod 4 == 0):=by rw [qbb];simp
 simp only [confB,e1,e2,e3];cases decide (pw >= 16) <;> cases decide (pw<=64) <;> cases decide (np >= 8) <;> cases (pw.tmod 4 == 0) <;> rfl
theorem zc6(pw np:Int):F_r04_SmallWords ((pw,np,()),())=some (((if confB pw np then W (pw.tdiv 4) else 0),()),()):=by
 rw [zia];dsimp only
 rw [zbh];cases confB pw np <;> rfl
theorem ztS(n:Int):F_r04_pins (n,())=some ((decide (0<=n)&&decide (n<=2147483647),()),()):=by
 rw [zqZ];dsimp only
 cases h:decide (0<=n) <;> simp [h]
structure HpW (h:HpD):Prop where
 wl:h.2.1.length<=100000000
 pl:h.2.2.1.length<=100000000
 wb:∀ x∈h.2.1,0<=x/\x<18446744073709551616
theorem zaC{α:Type}{l:List α}{i:Nat}{d:α}(h:i<l.length):l.getD i d∈l:=by
 rw [qay,qap h];exact qcp h
end Go.VI
namespace Go.VI
open Go
def toPg(x:PgD):P.Pg:=⟨x.1,x.2.1,x.2.2.1,x.2.2.2.1⟩
theorem zaR(ps:List PgD)(i:Nat):(ps.map toPg).getD i P.Pg.zero=toPg (ps.getD i PG0):=by
 rw [qay,qay,qbo];cases ps[i]? <;> rfl
theorem zaH(pw np:Int):P.confB pw np=confB pw np:=by
 rw [qbb,zaV];unfold P.confB;rw [qaa];constructor
 · intro h;rw [qb2 (by omega)];omega
 · intro h;have:=h.2.2.1;rw [qb2 (by omega)]at this;omega
theorem zfF(pw np n:Int):Tot (fun r=>r.1.1=P.zau pw np n) (F_r04_Need ((pw,np,()),n,())):=by
 rw [zq1];dsimp only
 rw [zbh,qab];dsimp only;rw [cor];refine zac (fun h1=>zab ?_) fun h1=>?_
 · rw [P.zgh];simp only [qaT,qao,qaa]at h1;rw [zaH];exact h1
 rw [zc6,qab];dsimp only;simp only [qaI,qav,qaf]at h1;obtain ⟨hc,h1⟩:=h1;have c:=zaV.1 hc;have hq:W (pw.tdiv 4)=pw / 4:=by rw [qbv (by omega)];exact W_id (by omega)
 rw [hc,if_pos rfl,hq,P.zgg (by rw [zaH];exact hc) (by omega)]
 unfold P.zd9;refine zac (fun h2=>zab ?_) fun h2=>?_
 · rw [if_pos (by simpa using h2)]
 simp only [qaf]at h2;rw [if_neg h2];refine zad (P:=fun r=>match r with
  | .inl x=>x.1.1=if n<=pw then 1 else if n<=2*pw then 2 else if n<=3*pw then 3 else if n<=4*pw then 4 else -1
  | .inr _=>4*pw<n) (zao (fun x=>1<=x.1.2.1/\x.1.2.1<=5/\(x.1.2.1-1)*pw<n) (fun x=>(5-x.1.2.1).toNat) ?_ ?_) ?_
 · dsimp only;omega
 · rintro ⟨⟨a,k,_⟩,_⟩ ⟨h3,h4,h5⟩;dsimp only at h3 h4 h5 ⊢
   have hk:k=1\/k=2\/k=3\/k=4\/k=5:=by omega
   have hw:W (k*pw)=k*pw:=W_id (by rcases hk with e | e | e | e | e <;> subst e <;> omega)
   have hw1:W (k+1)=k+1:=W_id (by omega)
   rw [hw];refine zac (fun h6=>zac (fun h7=>zab ?_) fun h7=>zab ?_) fun h6=>zab ?_
   · simp only [qaa,qan] at *
     rcases hk with e | e | e | e | e <;> subst e <;> first | (split <;> omega) | omega
   · simp only [qaa,qaf,qaq,hw1] at *
     rcases hk with e | e | e | e | e <;> subst e <;> omega
   · simp only [qaf,qan] at *
     have:k=5:=by omega
     subst this;omega
 · rintro r hr;refine zbp (fun a ha=>?_) fun b hb=>zab ?_
   · subst ha;exact zab hr
   · subst hb;dsimp only at hr ⊢
     rw [if_neg (by omega),if_neg (by omega),if_neg (by omega),if_neg (by omega)]
theorem zrJ(ps:List PgD)(i:Nat)(s:Int)(hi:i<ps.length)(hl:ps.length<=100000000):Tot (fun r=>r.1.1=(P.zf6 s ((ps.map toPg).drop (i+1)):Int)) (F_r04_tails (ps,(i:Int),s,())):=by
 rw [zpb];dsimp only
 refine zad (P:=fun r=>r.1.1=(P.zf6 s ((ps.map toPg).drop (i+1)):Int)) (zao (fun x=>∃ k n:Nat,x.1.1=(n:Int)/\x.1.2.1=(k:Int)/\k<=ps.length/\n<=k/\n+P.zf6 s ((ps.map toPg).drop k)=P.zf6 s ((ps.map toPg).drop (i+1))) (fun x=>((ps.length:Int)-x.1.2.1).toNat) ?_ ?_) fun r hr=>zab hr
 · have:W ((i:Int)+1)=i+1:=W_id (by omega)
   exact ⟨i+1,0,rfl,by dsimp only;omega,by omega,by omega,by omega⟩
 · rintro ⟨⟨n',k',_⟩,_⟩ ⟨k,n,e1,e2,h1,h2,h3⟩;dsimp only at e1 e2 ⊢
   subst e1 e2;have w1:W ((n:Int)+1)=n+1:=W_id (by omega)
   have w2:W ((k:Int)+1)=k+1:=W_id (by omega)
   simp only [w1,w2,qad,cand];refine zae ?_ (zae ?_ (zac (fun h4=>zab ?_) fun h4=>zab ?_))
   · exact zaB fun h=>zaj.2 (by simp only [qaa]at h;omega)
   · exact zaB fun h=>zaB fun _=>zaj.2 (by simp only [qaa]at h;omega)
   · simp only [qae,qaa,qaC]at h4;obtain ⟨q1,q2,q3⟩:=h4;have hk:k<(ps.map toPg).length:=by rw [qai];omega
     simp only [qaq];refine ⟨⟨k+1,n+1,by omega,by omega,by omega,by omega,?_⟩,by omega⟩
     have e:(ps.map toPg)[k]=toPg (ps.getD k PG0):=by
      rw [<-zaR,qay,qap hk];rfl
     rw [<-h3,qaU hk,P.zf6,e,if_pos ⟨q2,q3⟩];omega
   · simp only [qan];rw [<-h3];have:P.zf6 s ((ps.map toPg).drop k)=0:=by
      by_cases hk:k<(ps.map toPg).length
      · have e:(ps.map toPg)[k]=toPg (ps.getD k PG0):=by
         rw [<-zaR,qay,qap hk];rfl
        rw [qaU hk,P.zf6,e,if_neg];rintro ⟨q2,q3⟩;rw [qai]at hk;rw [show decide ((k:Int)<(ps.length:Int))=true from qac (by omega)]at h4
        simp only [toPg]at q2 q3;rw [q2,q3]at h4;simp at h4
      · rw [qbp (by omega)];rfl
     omega
theorem pins_eq(n:Int):(decide (0<=n)&&decide (n<=2147483647))=P.zeO n:=by
 unfold P.zeO;rw [qbb];simp
def toHp(h:HpD):P.Hp:=⟨h.1.1,h.1.2.1,h.2.1,h.2.2.1.map toPg,h.2.2.2.1,h.2.2.2.2.1⟩
def zuD(h:HpD):Bool:=P.zcI h.1.1 h.1.2.1 h.2.1.length (h.2.2.1.map toPg) h.2.2.2.1 h.2.2.2.2.1
theorem zw1(a:Int):(if a > 0 then a else 0)=max 0 a:=by split <;> omega
theorem zbn(h:HpD)(hw:HpW h):Tot (fun r=>r.1.1=zuD h) (F_r04_Proper (h,())):=by
 obtain ⟨⟨pw,np,_⟩,ws,ps,sp,bu,_⟩:=h;have hl:=hw.pl;have hwl:=hw.wl;dsimp only at hl hwl
 unfold zuD;dsimp only;rw [znB];dsimp only
 rw [zbh,qab];dsimp only;simp only [cor,cand,cimp];have hlm:(ps.map toPg).length=ps.length:=qai ..
 refine zac (fun h1=>zab ?_) fun h1=>?_
 · unfold P.zcI;rw [zaH];cases hc:confB pw np
   · rfl
   have c2:=zaV.1 hc;have cm:0<=np*pw/\np*pw<=4096:=⟨qa0 (by omega) (by omega),by
    calc np*pw<=64*pw:=qaR (by omega) (by omega)
     _<=64*64:=qcv (by omega) (by omega)⟩
   have cw:W (np*pw)=np*pw:=W_id (by omega)
   rw [hc,cw]at h1;simp only [qaT,qbX,qbi,false_or,qaz,ne_eq,qaa]at h1;rw [hlm];dsimp only;symm
   rw [qbF,qbF,qbF,qbF,qbF,qaf,qaf,qaf];rcases h1 with h1 | h1 | h1 | h1
   · exact .inl (.inl (.inl (.inl (.inr h1))))
   · exact .inl (.inl (.inl (.inr h1)))
   · exact .inl (.inl (.inr (by omega)))
   · exact .inl (.inl (.inr (by omega)))
 simp only [qaI,qav,qaf,qaA]at h1;obtain ⟨c1,h1a,h1b,h1c,h1d⟩:=h1;have c2:=zaV.1 c1;have cm:0<=np*pw/\np*pw<=4096:=⟨qa0 (by omega) (by omega),by
  calc np*pw<=64*pw:=qaR (by omega) (by omega)
   _<=64*64:=qcv (by omega) (by omega)⟩
 have cw:W (np*pw)=np*pw:=W_id (by omega)
 rw [cw]at h1a;have hpre:P.zcI pw np ws.length (ps.map toPg) sp bu=(P.zfk (ps.map toPg) bu&&P.zaG pw np (ps.map toPg) 0):=by
  unfold P.zcI;rw [zaH,c1,hlm,qac h1a,qac h1b,qac (show 0<=sp/\sp<=1 by omega)]
  rfl
 rw [hpre];refine zae ?_ (zac (fun h2=>zab ?_) fun h2=>?_)
 · by_cases q1:bu = -1
   · simp [q1]
   · by_cases q2:bu<0
     · simp [q2]
     · by_cases q3:bu >= (ps.length:Int)
       · simp [q3]
       · simp [inB];omega
 · simp only [qae,qaz,ne_eq,qaT,qaa]at h2;have:P.zfk (ps.map toPg) bu=false:=by
    unfold P.zfk;rw [hlm,zaR];refine qaj ?_;simp only [toPg];rintro (e | ⟨e1,e2,e3⟩)
    · exact h2.1 e
    · rcases h2.2 with h | h | h
      · omega
      · omega
      · exact h e3
   rw [this];rfl
 have hbump:P.zfk (ps.map toPg) bu=true:=by
  unfold P.zfk;rw [hlm,zaR];refine qac ?_;simp only [toPg];simp only [qbF,qaA,qaI,qaf]at h2;rcases h2 with h2 | ⟨a,b,c⟩
  · exact .inl h2
  · exact .inr ⟨by omega,by omega,c⟩
 rw [hbump,qaS];refine zad (P:=fun r=>match r with
  | .inl x=>x.1.1=false/\P.zaG pw np (ps.map toPg) 0=false
  | .inr y=>P.zaG pw np (ps.map toPg) 0=true) (zao (fun x=>0<=x.1.2.1/\x.1.2.1<=1000/\∃ k:Nat,x.1.2.2.1=(k:Int)/\k<=ps.length/\P.zaG pw np ((ps.map toPg).drop k) x.1.2.1=P.zaG pw np (ps.map toPg) 0) (fun x=>((ps.length:Int)-x.1.2.2.1).toNat) ⟨by dsimp only;omega,by dsimp only;omega,0,rfl,by omega,rfl⟩ ?_) ?_
 · rintro ⟨⟨(b:Bool),(due:Int),(i:Int),_⟩,_⟩ ⟨d0,d1,k,e,hk,hp⟩;dsimp only at d0 d1 e hk hp ⊢
   subst e;refine zac (fun h3=>?_) fun h3=>zab ?_
   · simp only [qaa]at h3;have wi:W ((k:Int)+1)=k+1:=W_id (by omega)
     have wd:W (due-1)=due-1:=W_id (by omega)
     have hkm:k<(ps.map toPg).length:=by omega
     have ek:(ps.map toPg)[k]?=some (toPg (ps.getD k PG0)):=by
      rw [<-zaR,qay,qap hkm];rfl
     rw [P.zqH ek]at hp;rw [wi,wd,qad];generalize hX:ps.getD k PG0=X at *
     obtain ⟨xk,xs,xu,xp,_⟩:=X;dsimp only;refine zae (zaj.2 ⟨by omega,h3⟩) ?_
     have bad:P.zbT pw np (toPg (xk,xs,xu,xp,())) ((ps.map toPg).drop (k+1)) due=none->Tot (Sum.elim (fun x':(Bool×Int×Int×Unit)×Unit×Unit=>(0<=x'.1.2.1/\x'.1.2.1<=1000/\∃ k:Nat,x'.1.2.2.1=(k:Int)/\k<=ps.length/\P.zaG pw np ((ps.map toPg).drop k) x'.1.2.1=P.zaG pw np (ps.map toPg) 0)/\((ps.length:Int)-x'.1.2.2.1).toNat<((ps.length:Int)-(k:Int)).toNat) fun (r:(Bool×Unit)×Unit×Unit⊕(Bool×Unit)×Unit×Unit)=>match r with
      | .inl x=>x.1.1=false/\P.zaG pw np (ps.map toPg) 0=false
      | .inr y=>P.zaG pw np (ps.map toPg) 0=true) (some (Sum.inr (Sum.inl ((false,()),(),())))):=fun hs=>by
      rw [hs]at hp;exact zab ⟨rfl,hp.symm⟩
     have good:∀ (d:Int),0<=d->d<=1000->P.zbT pw np (toPg (xk,xs,xu,xp,())) ((ps.map toPg).drop (k+1)) due=some d->Tot (Sum.elim (fun x':(Bool×Int×Int×Unit)×Unit×Unit=>(0<=x'.1.2.1/\x'.1.2.1<=1000/\∃ k:Nat,x'.1.2.2.1=(k:Int)/\k<=ps.length/\P.zaG pw np ((ps.map toPg).drop k) x'.1.2.1=P.zaG pw np (ps.map toPg) 0)/\((ps.length:Int)-x'.1.2.2.1).toNat<((ps.length:Int)-(k:Int)).toNat) fun (r:(Bool×Unit)×Unit×Unit⊕(Bool×Unit)×Unit×Unit)=>match r with
      | .inl x=>x.1.1=false/\P.zaG pw np (ps.map toPg) 0=false
      | .inr y=>P.zaG pw np (ps.map toPg) 0=true) (some (Sum.inl ((b,d,(k:Int)+1,()),(),()))):=fun d q0 q1 hs=>by
      rw [hs]at hp;refine zab ?_;simp only [qaq];exact ⟨⟨q0,q1,k+1,by omega,by omega,hp⟩,by omega⟩
     have st:∀ r,P.zbT pw np (toPg (xk,xs,xu,xp,())) r due=if ¬(xk=3↔0<due)\/xs<0\/1<xs\/P.zeO xp=false then none
      else if xk=0 then (if toPg (xk,xs,xu,xp,())=P.Pg.zero then some (max 0 (due-1)) else none)
      else if xk=1 then (if xu<0\/pw<xu then none else some (max 0 (due-1)))
      else if xk=2 then (if P.zau pw np xu<1\/(P.zf6 xs r:Int)<P.zau pw np xu-1 then none else some (max 0 (P.zau pw np xu-1)))
      else if xk=3 then (if xu=0/\xp=0 then some (max 0 (due-1)) else none)
      else none:=fun _=>rfl
     rw [st]at bad good;rw [ztS,qab];dsimp only;rw [pins_eq,zw1];have hm:0<=max 0 (due-1)/\max 0 (due-1)<=1000:=by omega
     refine zac (fun h4=>bad ?_) fun h4=>zac (fun h5=>bad ?_) fun h5=>zac (fun h6=>bad ?_) fun h6=>zac (fun h7=>bad ?_) fun h7=>?_
     · refine if_pos (.inl fun h8=>?_)
       simp only [qao,qaX,ne_eq]at h4;refine h4 ?_;rw [qbb];simp [h8]
     · rw [if_pos (.inr (.inl (by simpa using h5)))]
     · rw [if_pos (.inr (.inr (.inl (by simpa using h6))))]
     · rw [if_pos (.inr (.inr (.inr (by simpa using h7))))]
     have hA:¬(¬(xk=3↔0<due)\/xs<0\/1<xs\/P.zeO xp=false):=by
      simp only [qav,qaC,qaf]at h4 h5 h6 h7;rw [qbb]at h4;simp only [qaC,qaa]at h4;rintro (q | q | q | q)
      · exact q h4
      · omega
      · omega
      · rw [h7]at q;cases q
     rw [if_neg hA]at bad good;refine zac (fun k0=>?_) fun k0=>?_
     · simp only [qaC]at k0;rw [if_pos k0]at bad good;refine zac (fun h8=>bad ?_) fun h8=>good _ hm.1 hm.2 ?_
       · rw [if_neg];intro e;simp only [toPg,P.Pg.zero,P.Pg.mk.injEq]at e;obtain ⟨e1,e2,e3,e4⟩:=e;subst e1 e2 e3 e4;simp at h8
       · rw [if_pos];simp only [qav,qae,qaC,qbf]at h8;simp only [toPg,P.Pg.zero,P.Pg.mk.injEq];exact h8
     simp only [qaX,ne_eq]at k0;rw [if_neg k0]at bad good;refine zac (fun k1=>?_) fun k1=>?_
     · simp only [qaC]at k1;rw [if_pos k1]at bad good;refine zac (fun h8=>bad ?_) fun h8=>good _ hm.1 hm.2 ?_
       · rw [if_pos];simpa using h8
       · rw [if_neg];simp only [qaI,qaf]at h8;omega
     simp only [qaX,ne_eq]at k1;rw [if_neg k1]at bad good;refine zac (fun k2=>?_) fun k2=>?_
     · simp only [qaC]at k2;rw [if_pos k2]at bad good;refine zad (zfF pw np xu) fun r hr=>?_
       obtain ⟨⟨(n:Int),_⟩,_⟩:=r;dsimp only at hr ⊢
       rw [<-hr]at bad good;have hn:=P.ze8 (pw:=pw) (np:=np) (n:=xu)
       refine zac (fun h8=>bad ?_) fun h8=>?_
       · rw [if_pos];left;simpa using h8
       simp only [qaf]at h8;have wn:W (n-1)=n-1:=W_id (by omega)
       rw [wn,zw1];refine zad (zrJ ps k xs (by omega) hl) fun r2 hr2=>?_
       obtain ⟨⟨(t:Int),_⟩,_⟩:=r2;dsimp only at hr2 ⊢
       rw [<-hr2]at bad good;refine zac (fun h9=>bad ?_) fun h9=>good _ (by omega) (by omega) ?_
       · rw [if_pos];right;simpa using h9
       · simp only [qaf]at h9;rw [if_neg (by omega)]
     simp only [qaX,ne_eq]at k2;rw [if_neg k2]at bad good;refine zac (fun k3=>?_) fun k3=>bad ?_
     · simp only [qaC]at k3;rw [if_pos k3]at bad good;refine zac (fun h8=>bad ?_) fun h8=>good _ hm.1 hm.2 ?_
       · rw [if_neg];simp only [qaT,qaz,ne_eq]at h8;omega
       · rw [if_pos];simp only [qaI,qaA]at h8;exact h8
     · simp only [qaX,ne_eq]at k3;rw [if_neg k3]
   · simp only [qaf]at h3;rw [qbp (by omega)]at hp
     simp only [qan];exact hp.symm
 · intro r hr;refine zbp (fun a ha=>?_) fun b hb=>?_
   · subst ha;exact zab (by rw [hr.2];exact hr.1)
   · subst hb;exact zab hr.symm
end Go.VI
namespace Go.VI
open Go
structure NextP (l:List Int) (at' n:Int) (r:(Int×Unit)×(List Int×Int×Unit)×Unit):Prop where
 lo:0<=r.1.1
 hi:1<=n->r.1.1<n
 z:n<1->r.1.1=0
 l:r.2.1.1=l
 a0:at'<=r.2.1.2.1
 a1:r.2.1.2.1<=at'+1
 a2:1<=n->r.2.1.2.1=at'+1
theorem zap(l:List Int)(a n:Int)(h0:0<=a)(h1:a<=1000000000)(hn:n<=4611686018427387904):Tot (NextP l a n) (F_made_Tape_Next ((l,a,()),n,())):=by
 rw [zie];dsimp only
 refine zac (fun h=>zab ?_) fun h=>?_
 · simp only [qaa]at h;exact ⟨by simp,fun _=>by omega,fun _=>rfl,rfl,by simp,by simp;omega,fun _=>by omega⟩
 · simp only [qaf]at h;have hn0:(!n == 0)=true:=by simp;omega
   refine zae (zaB fun h=>zaj.2 (by simp only [qaa]at h;omega)) (zae hn0 (zae hn0 (zab ?_)))
   generalize (bif decide (a<(l.length:Int)) then l.getD a.toNat 0 else W (W (a*7)+3))=v
   have b1:v.tmod n<n:=Int.tmod_lt_of_pos _ (by omega)
   have b2 : -n<v.tmod n:=by
    have:=Int.neg_tmod (-v) n
    have:=Int.tmod_lt_of_pos (-v) (show 0<n by omega)
    have h3:(-v).tmod n = -(v.tmod n):=Int.neg_tmod v n
    omega
   have w:W (v.tmod n+n)=v.tmod n+n:=W_id (by omega)
   have wa:W (a+1)=a+1:=W_id (by omega)
   rw [w,wa];have e:(v.tmod n+n).tmod n=(v.tmod n+n) % n:=qb2 (by omega)
   rw [e];exact ⟨Int.emod_nonneg _ (by omega),fun _=>Int.emod_lt_of_pos _ (by omega),fun _=>by omega,rfl,by dsimp only;omega,by dsimp only;omega,fun _=>rfl⟩
theorem conf_prod{pw np:Int}(h:confB pw np=true):128<=np*pw/\np*pw<=4096:=by
 have c2:=zaV.1 h;refine ⟨?_,?_⟩
 · calc (128:Int)=8*16:=rfl
    _<=np*16:=qaR (by omega) (by omega)
    _<=np*pw:=qcv (by omega) (by omega)
 · calc np*pw<=64*pw:=qaR (by omega) (by omega)
    _<=64*64:=qcv (by omega) (by omega)
structure HOk (h:HpD):Prop where
 cf:confB h.1.1 h.1.2.1=true
 wl:(h.2.1.length:Int)=h.1.2.1*h.1.1
 pl:(h.2.2.1.length:Int)=h.1.2.1
 wb:∀ x∈h.2.1,0<=x/\x<18446744073709551616
theorem HOk.hw{h:HpD}(k:HOk h):HpW h:=by
 have c:=conf_prod k.cf;have c2:=zaV.1 k.cf;have h1:=k.wl;have h2:=k.pl;exact ⟨by omega,by omega,k.wb⟩
theorem zjG(l:List Int)(a:Int):F_made_Tape_Done ((l,a,()),())=some ((decide (a >= (l.length:Int)),()),(l,a,()),()):=by rw [zif]
theorem mem_set{α:Type}{l:List α}{i:Nat}{v x:α}(h:x∈l.set i v):x∈l\/x=v:=List.mem_or_eq_of_mem_set h
end Go.VI
namespace Go.VI
open Go
theorem zbe{ps:List PgD}{k:Nat}(h:k<ps.length):(ps.map toPg)[k]?=some (toPg (ps.getD k PG0)):=by
 have hk:k<(ps.map toPg).length:=by rw [qai];exact h
 rw [<-zaR,qay,qap hk];rfl
theorem zli(pw np:Int):Tot (fun r=>r.1.1=P.zfV pw np) (F_r04_Limit ((pw,np,()),())):=by
 rw [zpc];dsimp only
 rw [zbh,qab];dsimp only;refine zac (fun h=>zab ?_) fun h=>zae rfl (zab ?_)
 · rw [P.zwq];simpa [zaH] using h
 · simp only [qav]at h;have c:=zaV.1 h;rw [P.zwp (by rw [zaH];exact h)]
   dsimp only;rw [qbv (by omega)]
   exact W_id (by omega)
theorem zlj(ps:List PgD)(hl:ps.length<=100000000):Tot (fun r=>r.1.1=(P.zbE (ps.map toPg):Int)) (F_r04_InUse (ps,())):=by
 rw [zpe];dsimp only
 refine zad (P:=fun r=>r.1.1=(P.zbE (ps.map toPg):Int)) (zao (fun x=>∃ k:Nat,x.1.2.1=(k:Int)/\k<=ps.length/\x.1.1=(P.zbE ((ps.map toPg).take k):Int)) (fun x=>((ps.length:Int)-x.1.2.1).toNat) ⟨0,rfl,by omega,by simp [P.zbE]⟩ ?_) fun r hr=>zab hr
 rintro ⟨⟨(n:Int),(i:Int),_⟩,_⟩ ⟨k,e,hk,e2⟩;dsimp only at e e2 ⊢
 subst e e2;have hle:=P.zjV ((ps.map toPg).take k);rw [qau]at hle;refine zac (fun h=>?_) fun h=>zab ?_
 · simp only [qaa]at h;have hk:k<ps.length:=by omega
   have w2:W ((k:Int)+1)=k+1:=W_id (by omega)
   have w1:W ((P.zbE ((ps.map toPg).take k):Int)+1)=P.zbE ((ps.map toPg).take k)+1:=W_id (by omega)
   refine zae (zaj.2 ⟨by omega,h⟩) (zab ?_)
   rw [w1,w2,qad];simp only [qaq];refine ⟨⟨k+1,by omega,by omega,?_⟩,by omega⟩
   rw [P.zts (zbe hk)];have:(toPg (ps.getD k PG0)).kind=(ps.getD k PG0).1:=rfl
   rw [this];cases hc:((ps.getD k PG0).1 != 0)
   · simp only [qaA]at hc;rw [if_pos hc];simp
   · simp only [qaz,ne_eq]at hc;rw [if_neg hc];simp
 · simp only [qaf]at h;simp only [qan];rw [qa7 (by rw [qai];omega)]
def toR(r:Int×Int×Unit):Int×Int:=(r.1,r.2.1)
theorem ztP(ps:List PgD)(hl:ps.length<=1000000):Tot (fun r=>r.1.1.map toR=P.zqB (ps.map toPg)) (F_r04_Runs (ps,())):=by
 rw [zq0];dsimp only
 refine zad (P:=fun r=>r.2.1.1.map toR=P.zqB (ps.map toPg)) (zao (fun x=>∃ k:Nat,x.1.2.1=(k:Int)/\k<=ps.length/\x.2.1.1.map toR=P.zb8 (ps.map toPg) k) (fun x=>((ps.length:Int)-x.1.2.1).toNat) ⟨0,rfl,by omega,rfl⟩ ?_) fun r hr=>zab hr
 rintro ⟨⟨_,(i:Int),_⟩,⟨rs,_⟩,_⟩ ⟨k,e,hk,e2⟩;dsimp only at e e2 ⊢
 subst e;refine zac (fun h=>?_) fun h=>zab ?_
 rotate_left
 · simp only [qaf]at h;simp only [qan];rw [e2,P.zqB,show (ps.map toPg).length=k by rw [qai];omega]
 simp only [qaa]at h;have hk:k<ps.length:=by omega
 have w1:W ((k:Int)+1)=k+1:=W_id (by omega)
 have hstep:=P.zek (zbe hk);have hlen:=P.zng (ps.map toPg) k;rw [<-e2,qai]at hlen;have hkind:(toPg (ps.getD k PG0)).kind=(ps.getD k PG0).1:=rfl
 rw [w1,qad];refine zae (zaj.2 ⟨by omega,h⟩) (zac (fun h4=>zab ?_) fun h4=>?_)
 · simp only [qaz,ne_eq]at h4;simp only [qaq];exact ⟨⟨k+1,by omega,by omega,by rw [hstep,P.zfB (by rw [hkind];exact h4),e2]⟩,by omega⟩
 simp only [qaA]at h4;have hz:(toPg (ps.getD k PG0)).kind=0:=h4
 rcases qcE rs with e3 | ⟨pre,g,e3⟩
 · subst e3;rw [show decide (((([]:List (Int×Int×Unit))).length:Int) > 0)=false from rfl]
   simp only [qag];refine zae rfl (zae rfl (zae rfl (zae rfl (zae (zan.2 (by simp)) (zab ?_)))))
   simp only [qaq];refine ⟨⟨k+1,by omega,by omega,?_⟩,by omega⟩
   rw [hstep,<-e2];exact (P.zel hz).symm
 · rw [qcD]at e3;subst e3;obtain ⟨gf,gl,_⟩:=g;rw [qbM,qaY,List.map_nil]at e2;have hmem:toR (gf,gl,())∈P.zb8 (ps.map toPg) k:=by rw [<-e2];simp
   obtain ⟨b1,b2,b3⟩:=P.zqA _ _ _ hmem;simp only [toR]at b1 b2 b3;rw [qaB,qaM,qbO]at hlen ⊢
   have wl:W (((pre.length+(0+1):Nat):Int)-1)=pre.length:=by rw [W_id (by omega)];omega
   have hg:(pre++[(gf,gl,())]).getD pre.length (0,0,())=(gf,gl,()):=by
    rw [qay,qbA (qam _),qbK];rfl
   have w3:W (gf+gl)=gf+gl:=W_id (by omega)
   have w4:W (gl+1)=gl+1:=W_id (by omega)
   rw [wl,qad,hg];dsimp only;rw [w3,w4,show decide (((pre.length+(0+1):Nat):Int) > 0)=true from qac (by omega)]
   simp only [qah];have hin:inB (pre.length:Int) (pre.length+(0+1))=true:=zaj.2 ⟨by omega,by omega⟩
   refine zae hin (zae hin (zae (zaB fun _=>hin) (zae (zaB fun _=>hin) (zae ?_ (zac (fun hc=>zab ?_) fun hc=>zab ?_)))))
   · rw [cor,qaT];exact .inr (zan.2 (by simp only [qaM,qbO];omega))
   · simp only [qaC]at hc;simp only [qaq];refine ⟨⟨k+1,by omega,by omega,?_⟩,by omega⟩
     rw [hstep,<-e2,P.zdH hz hc,List.set_append_right _ _ (qam _),qbK];simp [toR]
   · simp only [qaX,ne_eq]at hc;simp only [qaq];refine ⟨⟨k+1,by omega,by omega,?_⟩,by omega⟩
     rw [hstep,<-e2,P.zem hz hc];simp [toR]
theorem zgo(ps:List PgD)(k:Int)(hl:ps.length<=1000000):Tot (fun r=>r.1.1=P.zaz (ps.map toPg) k) (F_r04_First (ps,k,())):=by
 rw [zpf];dsimp only
 refine zad (ztP ps hl) ?_;rintro ⟨⟨(rs:List (Int×Int×Unit)),_⟩,_⟩ h0;dsimp only at h0 ⊢
 have hlen:=P.zng (ps.map toPg) (ps.map toPg).length;rw [show P.zb8 (ps.map toPg) (ps.map toPg).length=rs.map toR from h0.symm,qai,qai]at hlen
 rw [P.zkS,<-h0];refine zad (P:=fun r=>match r with
  | .inl x=>x.1.1=P.zbl k (rs.map toR)
  | .inr _=>P.zbl k (rs.map toR) = -1) (zao (fun x=>∃ i:Nat,x.1.2.1=(i:Int)/\i<=rs.length/\P.zbl k ((rs.map toR).drop i)=P.zbl k (rs.map toR)) (fun x=>((rs.length:Int)-x.1.2.1).toNat) ⟨0,rfl,by omega,rfl⟩ ?_) ?_
 · rintro ⟨⟨(a:Int),(j:Int),_⟩,_⟩ ⟨i,e,hi,he⟩;dsimp only at e ⊢
   subst e;refine zac (fun h=>?_) fun h=>zab ?_
   · simp only [qaa]at h;have hi:i<rs.length:=by omega
     have w1:W ((i:Int)+1)=i+1:=W_id (by omega)
     have hat:(rs.map toR)[i]?=some (toR (rs.getD i (0,0,()))):=by
      rw [qbo,qay,qap hi];rfl
     rw [P.zpJ hat]at he;rw [w1,qad];have hb:inB (i:Int) rs.length=true:=zaj.2 ⟨by omega,h⟩
     refine zae (zaB fun _=>hb) (zae (zaB fun _=>hb) (zac (fun hc=>zab ?_) fun hc=>zab ?_))
     · simp only [cand,qae,qaa]at hc;rw [if_pos ⟨by omega,show k<=(rs.getD i (0,0,())).2.1 by omega⟩]at he
       simp only [qan];exact he
     · simp only [cand,qbF,qaf]at hc;rw [if_neg (by simp only [toR];omega)]at he
       simp only [qaq];exact ⟨⟨i+1,by omega,by omega,he⟩,by omega⟩
   · simp only [qaf]at h;rw [P.zn1 (by rw [qai];omega)]at he
     simp only [qan];exact he.symm
 · rintro r hr;refine zbp (fun a ha=>?_) fun b hb=>zab ?_
   · subst ha;exact zab hr
   · subst hb;exact hr.symm
end Go.VI
namespace Go.VI
open Go
def WBo(l:List Int):Prop:=∀ x∈l,0<=x/\x<18446744073709551616
theorem WBo.set{l:List Int}(h:WBo l){i:Nat}{v:Int}(hv:0<=v/\v<18446744073709551616):WBo (l.set i v):=fun x hx=>(mem_set hx).elim (h x) fun e=>e ▸ hv
theorem WBo.getD{l:List Int}(h:WBo l)(i:Nat):0<=l.getD i 0/\l.getD i 0<18446744073709551616:=by
 by_cases hi:i<l.length
 · exact h _ (zaC hi)
 · rw [qay,qbQ (by omega)];simp
end Go.VI
namespace Go.VI
open Go
theorem zmi{ps out:List PgD}{i n:Nat}{b:PgD}(h:i+n<ps.length)(ho:out.map toPg=P.put (ps.map toPg) i n (toPg b)):
 out.length=ps.length/\toPg (out.getD (i+n) PG0)=toPg (ps.getD (i+n) PG0)/\(out.set (i+n) b).map toPg=P.put (ps.map toPg) i (n+1) (toPg b):=by
 have hl:out.length=ps.length:=by
  have:=congrArg List.length ho
  rwa [P.zeo (by rw [qai];omega),qai,qai]at this
 refine ⟨hl,?_,?_⟩
 · have this:(out.map toPg)[i+n]?=_:=congrArg (fun l=>l[i+n]?) ho
   rw [P.zdo (by rw [qai];omega) (by omega),zbe (by omega),zbe (by omega)]at this
   exact Option.some.inj this
 · rw [qbw,ho,P.zv3 (by rw [qai];omega)]
theorem ztO(ps:List PgD)(i k:Int)(a b:PgD)(hl:ps.length<=1000000)(hk : -1000000<=k/\k<=1000000)(hi : -1000000000<=i/\i<=1000000000):
 Tot (fun r=>r.1.1.map toPg=P.zf5 (ps.map toPg) i k (toPg a) (toPg b)/\r.1.2.1=P.zjp (ps.map toPg) i k) (F_r04_take (ps,i,k,a,b,())):=by
 obtain ⟨b1,b2,b3,b4,_⟩:=b;obtain ⟨a1,a2,a3,a4,_⟩:=a;rw [zqY];dsimp only
 simp only [cor];have hlm:(ps.map toPg).length=ps.length:=qai ..
 have w0:i<ps.length->0<=i->W ((ps.length:Int)-i)=(ps.length:Int)-i:=fun _ _=>W_id (by omega)
 refine zac (fun h=>zab ?_) fun h=>?_
 · obtain ⟨e1,e2⟩:=P.zvR (ps:=ps.map toPg) (i:=i) (k:=k) (x:=toPg (a1,a2,a3,a4,())) (y:=toPg (b1,b2,b3,b4,())) (by
    rw [hlm];simp only [qaT,qaa]at h;rintro ⟨q1,q2,q3⟩;rw [w0 q2 q1]at h;omega)
   rw [e1,e2];exact ⟨rfl,rfl⟩
 simp only [qaI,qaf]at h;obtain ⟨h1,h2,h3⟩:=h;rw [w0 (by omega) (by omega)]at h3
 obtain ⟨j,rfl⟩:=qaQ (show 0<=i by omega)
 have hC:0<=(j:Int)/\(j:Int)<(ps.map toPg).length/\k<=(ps.map toPg).length-(j:Int):=by rw [hlm];omega
 have hfr:∀ m:Nat,P.zct (ps.map toPg) j m=true->k.toNat=m->P.zf5 (ps.map toPg) j k (toPg (a1,a2,a3,a4,())) (toPg (b1,b2,b3,b4,()))=(P.put (ps.map toPg) j m (toPg (b1,b2,b3,b4,()))).set j (toPg (a1,a2,a3,a4,()))/\P.zjp (ps.map toPg) j k=0:=fun m hf hm=>by
  unfold P.zf5 P.zjp;rw [if_pos hC,if_pos hC,hm,qad,if_pos hf,if_pos hf];exact ⟨rfl,rfl⟩
 have hno:P.zct (ps.map toPg) j k.toNat=false->P.zf5 (ps.map toPg) j k (toPg (a1,a2,a3,a4,())) (toPg (b1,b2,b3,b4,()))=[]/\P.zjp (ps.map toPg) j k=20:=fun hf=>by
  unfold P.zf5 P.zjp;rw [if_pos hC,if_pos hC,qad,hf];exact ⟨rfl,rfl⟩
 refine zae (zan.2 (by omega)) (zad (P:=fun r=>match r with
  | .inl x=>x.1.1=[]/\x.1.2.1=20/\P.zct (ps.map toPg) j k.toNat=false
  | .inr y=>y.2.2.1.map toPg=P.put (ps.map toPg) j k.toNat (toPg (b1,b2,b3,b4,()))/\P.zct (ps.map toPg) j k.toNat=true) (zao (fun x=>∃ n:Nat,x.1.2.2.1=(n:Int)/\(n<=k.toNat)/\x.2.2.1.map toPg=P.put (ps.map toPg) j n (toPg (b1,b2,b3,b4,()))/\P.zct (ps.map toPg) j n=true) (fun x=>(k-x.1.2.2.1).toNat) ⟨0,rfl,by omega,by rw [P.znm],P.zcM _ _⟩ ?_) ?_)
 · rintro ⟨⟨q,e,(m:Int),_⟩,_,(out:List PgD),_⟩ ⟨n,e1,n1,n2,n3⟩;dsimp only at e1 n2 ⊢
   subst e1;refine zac (fun h4=>?_) fun h4=>zab ?_
   · simp only [qaa]at h4;have w1:W ((j:Int)+n)=((j+n:Nat):Int):=by rw [W_id (by omega)];omega
     have w2:W ((n:Int)+1)=n+1:=W_id (by omega)
     have hjn:j+n<ps.length:=by omega
     obtain ⟨r1,r2,r3⟩:=zmi hjn n2;rw [w1,w2,qad];have hb:inB ((j+n:Nat):Int) out.length=true:=zaj.2 ⟨by omega,by omega⟩
     have hkd:(out.getD (j+n) PG0).1=(toPg (ps.getD (j+n) PG0)).kind:=congrArg P.Pg.kind r2
     refine zae hb (zac (fun h5=>zab ?_) fun h5=>zae hb (zab ?_))
     · simp only [qaz,ne_eq]at h5;simp only [qan];exact ⟨by trivial,by trivial,P.zmK (zbe hjn) (by omega) (by rw [<-hkd];exact h5)⟩
     · simp only [qaA]at h5;simp only [qaq];refine ⟨⟨n+1,by omega,by omega,r3,?_⟩,by omega⟩
       rw [P.zce (zbe hjn),n3,<-hkd,h5];rfl
   · simp only [qaf]at h4;simp only [qan];have:n=k.toNat:=by omega
     rw [<-this];exact ⟨n2,n3⟩
 · rintro r hr;refine zbp (fun x hx=>?_) fun y hy=>?_
   · subst hx;obtain ⟨q1,q2,q3⟩:=hr;obtain ⟨e1,e2⟩:=hno q3;exact zab (by rw [e1,e2];exact ⟨by dsimp only;rw [q1];rfl,q2⟩)
   · subst hy;obtain ⟨q1,q2⟩:=hr;obtain ⟨e1,e2⟩:=hfr _ q2 rfl;have hyl:y.2.2.1.length=ps.length:=by
      have:=congrArg List.length q1
      rwa [P.zeo (by rw [qai];omega),qai,qai]at this
     refine zae (zaj.2 ⟨by omega,by omega⟩) (zab ?_)
     rw [e1,e2,qbw,q1,qad];exact ⟨rfl,rfl⟩
theorem zp5(ps:List PgD)(j k:Nat)(a b:PgD)(hl:ps.length<=1000000)(hk:1<=k)(hj:j+k<=ps.length)(hf:P.zct (ps.map toPg) j k=true):
 Tot (fun r=>r.1.1.map toPg=P.zf5 (ps.map toPg) j k (toPg a) (toPg b)/\r.1.2.1=0) (F_r04_take_o (ps,(j:Int),(k:Int),a,b,())):=by
 obtain ⟨b1,b2,b3,b4,_⟩:=b;obtain ⟨a1,a2,a3,a4,_⟩:=a;rw [znA];dsimp only
 simp only [cor];have hlm:(ps.map toPg).length=ps.length:=qai ..
 have w0:W ((ps.length:Int)-j)=(ps.length:Int)-j:=W_id (by omega)
 rw [w0];have hc:(decide ((j:Int)<0) || (decide ((j:Int) >= (ps.length:Int)) || decide ((k:Int) > (ps.length:Int)-j)))=false:=by
  simp only [qaI,qaf];omega
 rw [hc,qag];have hfr:=(P.zj7 (ps:=ps.map toPg) (i:=j) (k:=k) (x:=toPg (a1,a2,a3,a4,())) (y:=toPg (b1,b2,b3,b4,())) (by omega) (by omega) hf).1
 rw [hfr];refine zae (zan.2 (by omega)) (zad (P:=fun r=>match r with
  | .inl x=>False
  | .inr y=>y.2.2.1.map toPg=P.put (ps.map toPg) j k (toPg (b1,b2,b3,b4,()))) (zao (fun x=>∃ n:Nat,x.1.2.2.1=(n:Int)/\(n<=k)/\x.2.2.1.map toPg=P.put (ps.map toPg) j n (toPg (b1,b2,b3,b4,()))) (fun x=>((k:Int)-x.1.2.2.1).toNat) ⟨0,rfl,by omega,by rw [P.znm]⟩ ?_) ?_)
 · rintro ⟨⟨q,e,(m:Int),_⟩,_,(out:List PgD),_⟩ ⟨n,e1,n1,n2⟩;dsimp only at e1 n2 ⊢
   subst e1;refine zac (fun h4=>?_) fun h4=>zab ?_
   · simp only [qaa]at h4;have w1:W ((j:Int)+n)=((j+n:Nat):Int):=by rw [W_id (by omega)];omega
     have w2:W ((n:Int)+1)=n+1:=W_id (by omega)
     have hjn:j+n<ps.length:=by omega
     obtain ⟨r1,r2,r3⟩:=zmi hjn n2;rw [w1,w2,qad];have hb:inB ((j+n:Nat):Int) out.length=true:=zaj.2 ⟨by omega,by omega⟩
     have hkd:(out.getD (j+n) PG0).1=(toPg (ps.getD (j+n) PG0)).kind:=congrArg P.Pg.kind r2
     refine zae hb (zac (fun h5=>?_) fun h5=>zae hb (zab ?_))
     · simp only [qaz,ne_eq]at h5;rw [hkd]at h5;have:=P.zmK (zbe hjn) (show n<k by omega) h5
       rw [hf]at this;cases this
     · simp only [qaq];exact ⟨⟨n+1,by omega,by omega,r3⟩,by omega⟩
   · simp only [qaf]at h4;simp only [qan];have:n=k:=by omega
     rw [<-this];exact n2
 · rintro r hr;refine zbp (fun x hx=>?_) fun y hy=>?_
   · subst hx;exact hr.elim
   · subst hy;have q1:y.2.2.1.map toPg=P.put (ps.map toPg) j k (toPg (b1,b2,b3,b4,())):=hr
     have hyl:y.2.2.1.length=ps.length:=by
      have:=congrArg List.length q1
      rwa [P.zeo (by rw [qai];omega),qai,qai]at this
     refine zae (zaj.2 ⟨by omega,by omega⟩) (zab ?_)
     rw [qbw,q1,qad];exact ⟨rfl,rfl⟩
theorem zhr(ps:List PgD)(j:Nat)(s:Int)(hl:ps.length<=1000000)(hs:0<=s/\s<=1)(hj:j+1<=ps.length)(hf:P.zct (ps.map toPg) j 1=true):
 Tot (fun r=>r.1.1.map toPg=P.zcl (ps.map toPg) j s/\r.1.2.1=0) (F_r04_Small_o (ps,(j:Int),s,())):=by
 rw [zlQ];dsimp only
 simp only [cor];have hc:(decide (s<0) || decide (s > 1))=false:=by
  simp only [qaI,qaf];omega
 rw [hc,qag];refine zad (zp5 ps j 1 (1,s,0,0,()) PG0 hl (by omega) hj hf) fun r hr=>zab ?_
 unfold P.zcl;rw [if_pos hs];exact hr
theorem zrK(pw np:Int)(ps:List PgD)(i s n:Int)(hl:ps.length<=1000000)(hi : -1000000000<=i/\i<=1000000000):
 Tot (fun r=>r.1.1.map toPg=P.zfe pw np (ps.map toPg) i s n/\r.1.2.1=P.zkG pw np (ps.map toPg) i s n) (F_r04_Large ((pw,np,()),ps,i,s,n,())):=by
 rw [zpd];dsimp only
 simp only [cor];refine zad (zfF pw np n) fun r hr=>?_
 obtain ⟨⟨(m:Int),_⟩,_⟩:=r;dsimp only at hr ⊢
 have n1:=P.ze8 pw np n;have n2:=P.znN pw np n;rw [<-hr]at n1 n2;unfold P.zfe P.zkG;rw [<-hr];refine zac (fun h=>zab ?_) fun h=>zad (ztO ps i m (2,s,n,0,()) (3,s,0,0,()) hl (by omega) hi) fun q hq=>zab ?_
 · simp only [qaT,qaa]at h;rw [if_neg (by omega),if_neg (by omega)]
   exact ⟨rfl,rfl⟩
 · simp only [qaI,qaf]at h;rw [if_pos (by omega),if_pos (by omega)]
   exact hq
end Go.VI
namespace Go.VI
open Go
theorem pow_32{n:Nat}(h:n<=32):(2:Int) ^ n<=4294967296/\1<=(2:Int) ^ n:=by
 have h1:2 ^ n<=2 ^ 32:=qb8 (by omega) h
 have h2:0<2 ^ n:=Nat.pow_pos (by omega)
 have e:((2 ^ n:Nat):Int)=(2:Int) ^ n:=by rw [qck];rfl
 rw [<-e];have:(2:Nat) ^ 32=4294967296:=by decide
 omega
theorem zdz(k n m:Int)(hm:0<=m/\m<4294967296):F_r03_Valid ((k,n,m,()),())=some ((P.zaA k n m,()),()):=by
 rw [zpg];dsimp only
 simp only [cor];have key:∀ {o:Option ((Bool×Unit)×Unit)},Tot (fun r=>r=((P.zaA k n m,()),())) o->o=some ((P.zaA k n m,()),()):=fun h=>by
  obtain ⟨r,rfl,e⟩:=h;rw [e]
 refine key (zac (fun h=>zab ?_) fun h=>?_)
 · simp only [qaT,qaa]at h;rw [P.zch (by omega)]
 simp only [qaI,qaf]at h;refine zac (fun h1=>zab ?_) fun h1=>?_
 · simp only [qaz,ne_eq]at h1;by_cases h0:m=0
   · rw [P.zgB (by omega)];simp [h0]
   · rw [P.zch (by omega)];simp [h0]
 simp only [qaA]at h1;by_cases h3:n<=32
 · have un:U n=n:=U_id (by omega)
   have um:U m=m:=U_id (by omega)
   have hp:=pow_32 (n:=n.toNat) (by omega)
   have hb:min n.toNat IntKind.u64.bits=n.toNat:=by
    have:IntKind.u64.bits=64:=rfl
    omega
   rw [show decide (n<=32)=true from qac h3]
   simp only [qah];rw [un,um,hb,qbj,U_id (by omega)]
   refine zae ?_ (zab ?_)
   · simp only [qao,qaf];omega
   · by_cases hlt:m<2 ^ n.toNat
     · rw [qac hlt,P.zgB ⟨by omega,by omega,by omega,by omega,fun _=>⟨h3,hlt⟩,fun c=>absurd h1 c⟩]
     · rw [qaj hlt,P.zch (fun c=>hlt (c.2.2.2.2.1 h1).2)]
 · rw [show decide (n<=32)=false from qaj h3]
   simp only [qag];refine zae rfl (zab ?_);rw [P.zch (fun c=>h3 (c.2.2.2.2.1 h1).1)]
theorem zcg(k n m:Int)(hm:0<=m/\m<4294967296):F_r03_Size ((k,n,m,()),())=some ((P.zaO k n m,()),()):=by
 rw [zq2];dsimp only
 rw [zdz k n m hm,qab];dsimp only;cases h:P.zaA k n m
 · rw [P.zqz h];rfl
 · have:=P.zay h
   rw [P.zcm h];have w:W (n+1)=n+1:=W_id (by omega)
   simp only [qbX,qag,w]
theorem zfm(k n m:Int)(hm:0<=m/\m<4294967296):F_r03_Encode ((k,n,m,()),())=some ((P.encV k n m,P.encE k n m,()),()):=by
 rw [znD];dsimp only
 rw [zdz k n m hm,qab];dsimp only;unfold P.encV P.encE;cases h:P.zaA k n m
 · rfl
 · have c:=P.zay h;have hb:min (Int.toNat 16) IntKind.u64.bits=16:=rfl
   have e1:U k=k:=U_id (by omega)
   have e2:U (4*k)=4*k:=U_id (by omega)
   have e3:U n=n:=U_id (by omega)
   have e4:U (16*n)=16*n:=U_id (by omega)
   have e5:U m=m:=U_id (by omega)
   have e6:U (m*2 ^ 16)=m*65536:=by rw [show (2:Int) ^ 16=65536 by decide];exact U_id (by omega)
   rw [hb,e1,e2,e3,e4,e5,e6,U_id (n:=1+4*k) (by omega),U_id (n:=1+4*k+16*n) (by omega),U_id (by omega)]
   simp only [qbX,qag,if_true];refine congrArg some ?_;rw [show P.zdD k n m=1+4*k+16*n+m*65536 by unfold P.zdD;omega]
theorem ztM(pw np k n m:Int)(hm:0<=m/\m<4294967296):Tot (fun r=>r.1.1=P.zjA pw np k n m) (F_r07_Asks ((pw,np,()),(k,n,m,()),())):=by
 rw [zqT];dsimp only
 rw [zdz k n m hm,qab];dsimp only;refine zac (fun h=>zac (fun h0=>?_) fun h0=>zab ?_) fun h=>zab ?_
 · rw [zcg k n m hm,qab];dsimp only;refine zad (zfF pw np _) fun r hr=>zab ?_
   rw [P.zvy (by simpa using h0),hr]
 · rw [P.zvx (by simpa using h0)]
 · unfold P.zjA;rw [h];rfl
theorem zfJ{h:P.Hp}(k:P.okH h=true):P.okP h=true:=by
 unfold P.okP;rw [P.zgJ];exact k
theorem zrG(h:HpD)(hw:HpW h)(hp:P.okH (toHp h)=true)(n:Int)(hn:1<=n/\n<=100000):
 Tot (fun r=>r.1.2.2.1=P.zbZ (toHp h) n/\(r.1.2.2.1=true->toHp r.1.1=P.zkc (toHp h) n/\r.1.2.1=P.zkd (toHp h) n)) (F_r07_small (h,n,())):=by
 have hP:=zfJ hp;have hpl:=P.PlOK7.of hP;obtain ⟨p1,p2,p3,p4,p5,p6⟩:=P.zaU hP;obtain ⟨c1,c2⟩:=P.conf_prod p1;have c3:=P.zai p1;obtain ⟨⟨pw,np,_⟩,ws,ps,sp,bu,_⟩:=h;have hlm:(ps.map toPg).length=ps.length:=qai ..
 simp only [toHp]at p1 p2 p3 p4 p5 p6 c1 c2 c3;rw [hlm]at p3;have hps:ps.length<=1000000:=by omega
 have hb:=hpl.bump;have hsp:=hpl.sp;simp only [toHp]at hb hsp;rw [zaR,hlm]at hb;generalize hB:ps.getD bu.toNat PG0=B at *
 obtain ⟨bk,bs,bx,bp,_⟩:=B;have hnb:P.newB (toHp ((pw,np,()),ws,ps,sp,bu,())) n=(decide (bu<0) || (!(bs == sp)) || decide (bx+n > pw) || decide ((P.zbE (ps.map toPg):Int) > P.zfV pw np)):=by
  rw [qbb];unfold P.newB;rw [qaa];unfold P.zjb;simp only [toHp];rw [zaR,hB];simp only [toPg];simp [or_assoc]
 rw [zo8];dsimp only
 rw [hB];dsimp only;simp only [cor];refine zae (zan.2 (by omega)) (zad (zli pw np) fun r0 h0=>zad (zlj ps (by omega)) fun r1 h1=>?_)
 obtain ⟨⟨(lim:Int),_⟩,_⟩:=r0;obtain ⟨⟨(use:Int),_⟩,_⟩:=r1;dsimp only at h0 h1 ⊢
 rw [<-h0,<-h1]at hnb;have hin:¬bu<0->inB bu ps.length=true:=fun h=>zaj.2 (by omega)
 have hwb:¬bu<0->W (bx+n)=bx+n:=fun h=>W_id (by
  have:=hb.2 (by omega)
  simp only [toPg]at this;omega)
 have hcond:(decide (bu<0) || ((bs != sp) || (decide (W (bx+n) > pw) || decide (use > lim))))=P.newB (toHp ((pw,np,()),ws,ps,sp,bu,())) n:=by
  rw [hnb];by_cases q:bu<0
  · simp [q]
  · rw [hwb q];simp [q,Bool.or_assoc,bne]
 rw [hcond];have ho1:(decide (bu<0) || inB bu ps.length)=true:=by
  by_cases q:bu<0
  · simp [q]
  · simp [hin q]
 have ho2:(decide (bu<0) || (bs != sp || inB bu ps.length))=true:=by
  by_cases q:bu<0
  · simp [q]
  · simp [hin q]
 refine zae ho1 (zae ho2 (zac (fun hc=>?_) fun hc=>?_))
 · refine zad (zgo ps 1 hps) fun r2 h2=>?_
   obtain ⟨⟨(K':Int),_⟩,_⟩:=r2;dsimp only at h2 ⊢
   have hfull:P.zdk (toHp ((pw,np,()),ws,ps,sp,bu,()))=(decide (K'<0) || decide (use >= lim)):=by
    rw [qbb];unfold P.zdk;rw [qaa];simp only [toHp];rw [<-h2,<-h1,<-h0];simp
   rw [<-hfull];refine zac (fun h3=>zab ?_) fun h3=>?_
   · rw [P.zs8 hc h3];exact ⟨rfl,fun c=>by cases c⟩
   obtain ⟨K,e1,e2,e3,e4,⟨y,e5,e5'⟩,e6,e7,e8,e9⟩:=P.zoP hpl hc h3;rw [e6,e7,e9];simp only [toHp]at e1 e2 e3 e4 e5 e8 ⊢;rw [hlm]at e2;have hK:K'=K:=by rw [h2,e1]
   subst hK;have hf:P.zct (ps.map toPg) K 1=true:=by
    have:=P.zce (ps:=ps.map toPg) (i:=K) (k:=0) (x:=y) (by rw [qa4];exact e5)
    rw [P.zcM,e5']at this;simpa using this
   refine zad (zhr ps K sp hps hsp (by omega) hf) fun r3 h4=>?_
   obtain ⟨⟨(qs:List PgD),_,_⟩,_⟩:=r3;dsimp only at h4 ⊢
   obtain ⟨h4,-⟩:=h4;rw [e4]at h4;have hql:qs.length=ps.length:=by
    have:=congrArg List.length h4
    simpa using this
   have hqk:toPg (qs.getD K PG0)=⟨1,sp,0,0⟩:=by
    rw [<-zaR,h4,qay,qaW,if_pos rfl,if_pos (by rw [hlm];exact e2)];rfl
   rw [qad];generalize qs.getD K PG0=G at *
   obtain ⟨g1,g2,g3,g4,_⟩:=G;simp only [toPg,P.Pg.mk.injEq]at hqk;obtain ⟨q1,q2,q3,q4⟩:=hqk;subst q1 q2 q3 q4;have hkin:inB (K:Int) qs.length=true:=zaj.2 ⟨by omega,by omega⟩
   obtain ⟨a1,a2⟩:=P.zfl (K:=K) (o:=0) p1 (by omega) (by omega) (by omega)
   have kp:=P.zaY p1 (p:=(K:Int)) (by omega) (by omega)
   have v1:W ((K:Int)*pw)=K*pw:=W_id (by omega)
   have v2:W (4096+(K:Int)*pw)=4096+K*pw:=W_id (by omega)
   have v3:W (4096+(K:Int)*pw+0)=4096+K*pw+0:=W_id (by omega)
   have v4:U (4096+(K:Int)*pw+0)=4096+K*pw+0:=U_id (by omega)
   have v5:W (0+n)=0+n:=W_id (by omega)
   refine zae hkin (zae hkin (zae hkin (zab ?_)));dsimp only;rw [v1,v2,v3,v4,v5,a2];refine ⟨rfl,fun _=>⟨?_,rfl⟩⟩
   rw [qbw,h4];rfl
 · obtain ⟨K,x,e1,e2,e3,e4,e5,e6,e7⟩:=P.zmt hpl hn.1 hc;rw [e4,e5,e7];simp only [toHp]at e1 e2 e6 ⊢;subst e1;have hK:K<ps.length:=by
    have:=(qak.1 e2).1
    rwa [hlm]at this
   rw [zbe hK]at e2;rw [qad]at hB ⊢
   rw [hB]at e2;have e2:=(Option.some.inj e2).symm;subst e2;have hkin:inB (K:Int) ps.length=true:=zaj.2 ⟨by omega,by omega⟩
   have hun:=qa3 hc;unfold P.zjb at hun;simp only [toHp]at hun;rw [qad,zaR,hB]at hun;simp only [toPg]at e3 e6 e7 hun ⊢;obtain ⟨a1,a2⟩:=P.zfl (K:=K) (o:=bx) p1 (by omega) (by omega) (by omega)
   have kp:=P.zaY p1 (p:=(K:Int)) (by omega) (by omega)
   have v1:W ((K:Int)*pw)=K*pw:=W_id (by omega)
   have v2:W (4096+(K:Int)*pw)=4096+K*pw:=W_id (by omega)
   have v3:W (4096+(K:Int)*pw+bx)=4096+K*pw+bx:=W_id (by omega)
   have v4:U (4096+(K:Int)*pw+bx)=4096+K*pw+bx:=U_id (by omega)
   have v5:W (bx+n)=bx+n:=W_id (by omega)
   refine zae hkin (zae hkin (zae hkin (zab ?_)));rw [v1,v2,v3,v4,v5,a2];refine ⟨rfl,fun _=>⟨?_,rfl⟩⟩
   rw [qbw];rfl
end Go.VI
namespace Go.VI
open Go
theorem zrH(h:HpD)(hw:HpW h)(hp:P.okH (toHp h)=true)(n k:Int)(hk:P.zau (toHp h).pw (toHp h).np n=k)(h1:1<=k):
 Tot (fun r=>r.1.2.2.1=P.zg9 (toHp h) k/\(r.1.2.2.1=true->toHp r.1.1=P.zmH (toHp h) n k/\r.1.2.1=P.zmI (toHp h) k)) (F_r07_large (h,n,k,())):=by
 have hP:=zfJ hp;have hpl:=P.PlOK7.of hP;obtain ⟨p1,p2,p3,p4,p5,p6⟩:=P.zaU hP;obtain ⟨c1,c2⟩:=P.conf_prod p1;have c3:=P.zai p1;have k4:=P.ze8 (toHp h).pw (toHp h).np n;obtain ⟨⟨pw,np,_⟩,ws,ps,sp,bu,_⟩:=h;have hlm:(ps.map toPg).length=ps.length:=qai ..
 simp only [toHp]at p1 p2 p3 p4 p5 p6 c1 c2 c3 k4 hk;rw [hlm]at p3;have hps:ps.length<=1000000:=by omega
 have hsp:=hpl.sp;simp only [toHp]at hsp;rw [zo9];dsimp only
 refine zad (zgo ps k hps) fun r hr=>?_
 obtain ⟨⟨(K:Int),_⟩,_⟩:=r;dsimp only at hr ⊢
 have huse:=P.zjV (ps.map toPg);rw [hlm]at huse;have hlok:P.zg9 (toHp ((pw,np,()),ws,ps,sp,bu,())) k=true↔¬(K<0\/P.zfV pw np<P.zbE (ps.map toPg)+k):=by
  unfold P.zg9;rw [qaa];simp only [toHp];rw [<-hr]
 refine zac (fun h2=>zab ?_) fun h2=>zad (zlj ps (by omega)) fun r1 hr1=>zad (zli pw np) fun r2 hr2=>?_
 · simp only [qaa]at h2;refine ⟨?_,fun c=>by cases c⟩
   symm
   rw [<-qbs,hlok];exact fun c=>c (.inl h2)
 obtain ⟨⟨(use:Int),_⟩,_⟩:=r1;obtain ⟨⟨(lim:Int),_⟩,_⟩:=r2;dsimp only at hr1 hr2 ⊢
 simp only [qaf]at h2;have w1:W (use+k)=use+k:=W_id (by omega)
 rw [w1];refine zac (fun h3=>zab ?_) fun h3=>?_
 · simp only [qaa]at h3;refine ⟨?_,fun c=>by cases c⟩
   symm
   rw [<-qbs,hlok];exact fun c=>c (.inr (by omega))
 simp only [qaf]at h3;have hsp1:=P.zdf (ps:=ps.map toPg) (k:=k) (by omega)
 rw [<-hr,hlm]at hsp1;refine zad (zrK pw np ps K sp n hps (by omega)) fun r3 hr3=>zab ?_
 obtain ⟨K,rfl⟩:=qaQ (show 0<=K by omega)
 have kp:=P.zaY p1 (p:=(K:Int)) (by omega) (by omega)
 have v1:W ((K:Int)*pw)=K*pw:=W_id (by omega)
 have v2:W (4096+(K:Int)*pw)=4096+K*pw:=W_id (by omega)
 have v4:U (4096+(K:Int)*pw)=4096+K*pw:=U_id (by omega)
 dsimp only;rw [v1,v2,v4];refine ⟨(hlok.2 (by omega)).symm,fun _=>⟨?_,?_⟩⟩
 · unfold P.zmH;simp only [toHp];rw [<-hr,<-hr3.1]
 · unfold P.zmI;simp only [toHp];rw [<-hr]
theorem zix(ws:List Int)(a:Int)(n:Nat)(hl:ws.length<=100000000)(ha:0<=a/\a<18446744073709551616):Tot (fun r=>r.1.2.1=P.okA ws.length a n/\(r.1.2.1=true->r.1.1=a-4096)) (F_r02_span (ws,a,(n:Int),())):=by
 rw [zq3];dsimp only
 simp only [cor];have w1:U (ws.length:Int)=ws.length:=U_id (by omega)
 have w2:U (4096+(ws.length:Int))=4096+ws.length:=U_id (by omega)
 rw [w1,w2];refine zac (fun h=>zab ?_) fun h=>zab ?_
 · simp only [qaT,qaa]at h;refine ⟨?_,fun c=>by cases c⟩
   unfold P.okA;exact (qaj (by omega)).symm
 · simp only [qaI,qaf]at h;have w3:U (a-4096)=a-4096:=U_id (by omega)
   have w4:W (a-4096)=a-4096:=W_id (by omega)
   have w5:W ((ws.length:Int)-(a-4096))=ws.length-(a-4096):=W_id (by omega)
   dsimp only;rw [w3,w4,w5];refine ⟨?_,fun _=>rfl⟩
   unfold P.okA;rw [qbb,qaa,qaa];omega
theorem zeA(ws:List Int)(a:Int)(l:List Int)(hl:ws.length<=100000000)(hl2:l.length<=100000000)(ha:0<=a/\a<18446744073709551616):Tot (fun r=>r.1.1=P.zaF ws a l/\r.1.2.1=P.zeS ws a l) (F_r02_Write (ws,a,l,())):=by
 rw [zph];dsimp only
 refine zad (zix ws a l.length hl ha) fun r hr=>?_
 obtain ⟨⟨(i:Int),(b:Bool),_⟩,_⟩:=r;dsimp only at hr ⊢
 refine zac (fun h=>zab ?_) fun h=>zae (zan.2 (by omega)) ?_
 · simp only [qao]at h;obtain ⟨e1,e2⟩:=P.zvO (hr.1.symm.trans h);rw [e1,e2];exact ⟨rfl,rfl⟩
 simp only [qav]at h;have hok:=hr.1.symm.trans h;have hi:=hr.2 h;have hb:=P.zaE.1 hok;obtain ⟨j,hj⟩:=qaQ (show 0<=a-4096 by omega)
 have ha4:a=4096+(j:Int):=by omega
 rw [hj]at hi;subst hi ha4;obtain ⟨e1,e2⟩:=P.zr5 hok;rw [e1,e2];have hjl:j+l.length<=ws.length:=by omega
 refine zad (P:=fun r=>r.2.2.1=P.wrow ws l j l.length) (zao (fun x=>∃ n:Nat,x.1.1=(n:Int)/\n<=l.length/\x.2.2.1=P.wrow ws l j n) (fun x=>((l.length:Int)-x.1.1).toNat) ⟨0,rfl,by omega,(P.zow ws l j).symm⟩ ?_) fun r hr=>zab ⟨by dsimp only;rw [hr];exact P.zr4 (qam _),rfl⟩
 rintro ⟨⟨(m:Int),_⟩,_,(out:List Int),_⟩ ⟨n,q1,q2,q3⟩;dsimp only at q1 q3 ⊢
 subst q1 q3;refine zac (fun h4=>?_) fun h4=>zab ?_
 · simp only [qaa]at h4;have hnl:n<l.length:=by omega
   have w1:W ((j:Int)+n)=((j+n:Nat):Int):=by rw [W_id (by omega)];omega
   have w2:W ((n:Int)+1)=n+1:=W_id (by omega)
   rw [w1,w2,qad,qad,P.zm3 hjl];refine zae (zaj.2 ⟨by omega,h4⟩) (zae (zaj.2 ⟨by omega,by omega⟩) (zab ?_))
   simp only [qaq];refine ⟨⟨n+1,by omega,by omega,?_⟩,by omega⟩
   have hx:l[n]?=some (l.getD n 0):=by rw [qay,qap hnl];rfl
   exact P.zr3 hjl hx
 · simp only [qaf]at h4;simp only [qan];rw [show n=l.length by omega]
theorem ztN(h:HpD)(hw:HpW h)(a k n m:Int)(ha:0<=a/\a<18446744073709551616)(hm:0<=m/\m<4294967296):Tot (fun r=>r.1.2.1=P.zim (toHp h) a k n m/\toHp r.1.1=P.zkI (toHp h) a k n m) (F_r05_Init (h,a,(k,n,m,()),())):=by
 obtain ⟨⟨pw,np,_⟩,ws,ps,sp,bu,_⟩:=h;have hwl:=hw.wl;dsimp only at hwl
 rw [zqX];dsimp only
 rw [zfm k n m hm,qab];dsimp only;refine zad (zbn _ hw) fun r hr=>?_
 obtain ⟨⟨(b:Bool),_⟩,_⟩:=r;have hb:b=P.okH (toHp ((pw,np,()),ws,ps,sp,bu,())):=hr
 subst hb;dsimp only;simp only [cor];have bad:P.zim (toHp ((pw,np,()),ws,ps,sp,bu,())) a k n m≠0->toHp H0=P.zkI (toHp ((pw,np,()),ws,ps,sp,bu,())) a k n m:=fun h=>by
  unfold P.zkI;rw [if_neg h];rfl
 refine zac (fun h=>zab ?_) fun h=>?_
 · have:P.zim (toHp ((pw,np,()),ws,ps,sp,bu,())) a k n m=1:=by
    unfold P.zim;rw [if_neg];rintro ⟨c1,c2⟩;rw [c2]at h;unfold P.encE at h;rw [if_pos c1]at h;cases h
   exact ⟨this.symm,bad (by rw [this];decide)⟩
 simp only [qaI,qav,qaA]at h;obtain ⟨h1,h2⟩:=h;have hv:P.zaA k n m=true:=by
  unfold P.encE at h2;cases hv:P.zaA k n m
  · rw [hv]at h2;cases h2
  · rfl
 have c:=P.zay hv;have he:P.encV k n m=P.zdD k n m:=by unfold P.encV;rw [if_pos hv]
 have hE:P.zim (toHp ((pw,np,()),ws,ps,sp,bu,())) a k n m=P.zeS ws a (P.zdv k n m):=by
  unfold P.zim;rw [if_pos ⟨hv,h1⟩];rfl
 have hL:[P.encV k n m]++List.replicate n.toNat (0:Int)=P.zdv k n m:=by rw [he];rfl
 rw [hL];refine zae (qac c.2.2.1) (zae (zan.2 (by simp only [qaM,qbO];omega)) (zad (zeA ws a _ hwl (by rw [P.zhb];omega) ha) fun r2 h3=>zac (fun h4=>zab ?_) fun h4=>zab ?_))
 · simp only [qaz,ne_eq]at h4;refine ⟨by rw [hE];exact h3.2,bad (by rw [hE,<-h3.2];exact h4)⟩
 · simp only [qaA]at h4;have h0:P.zim (toHp ((pw,np,()),ws,ps,sp,bu,())) a k n m=0:=by rw [hE,<-h3.2];exact h4
   refine ⟨h0.symm,?_⟩;unfold P.zkI;rw [if_pos h0];simp only [toHp];rw [h3.1]
theorem HpW.of{h h':HpD}(hw:HpW h)(hp:P.okP (toHp h')=true)(e:(toHp h').words=(toHp h).words):HpW h':=by
 obtain ⟨p1,p2,p3,p4,p5,p6⟩:=P.zaU hp;have c3:=P.zai p1;have e':h'.2.1=h.2.1:=e
 refine ⟨by rw [e'];exact hw.wl,?_,by rw [e'];exact hw.wb⟩
 have:(h'.2.2.1.map toPg).length=h'.2.2.1.length:=qai ..
 simp only [toHp]at p3 c3;omega
theorem zar(h:HpD):((h.1.1,h.1.2.1,()),h.2.1,h.2.2.1,h.2.2.2.1,h.2.2.2.2.1,())=h:=rfl
theorem zvE(h:HpD)(hw:HpW h)(k n m:Int)(hm:0<=m/\m<4294967296):Tot (fun r=>r.1.2.2.1=P.zc2 (toHp h) k n m/\toHp r.1.1=P.zho (toHp h) k n m/\r.1.2.1=P.zje (toHp h) k n m) (F_r07_New (h,(k,n,m,()),())):=by
 have bad:∀ c:Int,¬c=0->P.zc2 (toHp h) k n m=c->Tot (fun r:(HpD×Int×Int×Unit)×Unit=>r.1.2.2.1=P.zc2 (toHp h) k n m/\toHp r.1.1=P.zho (toHp h) k n m/\r.1.2.1=P.zje (toHp h) k n m) (some ((H0,0,c,()),())):=fun c h0 he=>by
  refine zab ⟨he.symm,?_,?_⟩
  · unfold P.zho;rw [if_neg (by rw [he];exact h0)];rfl
  · unfold P.zje;rw [if_neg (by rw [he];exact h0)]
 rw [zth];dsimp only
 rw [zar];refine zad (zbn _ hw) fun r hr=>?_
 obtain ⟨⟨(b:Bool),_⟩,_⟩:=r;have hb:b=P.okH (toHp h):=hr
 subst hb;dsimp only;refine zac (fun h1=>bad 1 (by decide) ?_) fun h1=>zad (ztM h.1.1 h.1.2.1 k n m hm) fun r1 hr1=>?_
 · simp only [qao]at h1;unfold P.zc2 P.zi3;rw [h1];rfl
 simp only [qav]at h1;obtain ⟨⟨(b:Bool),_⟩,_⟩:=r1;dsimp only at hr1 ⊢
 subst hr1;refine zac (fun h2=>bad 1 (by decide) ?_) fun h2=>?_
 · simp only [qao]at h2;unfold P.zc2 P.zi3;rw [h1,show P.zjA (toHp h).pw (toHp h).np k n m=false from h2];rfl
 simp only [qav]at h2;have hP:=zfJ h1;have hask:P.zi3 (toHp h) k n m=true:=by
  unfold P.zi3;rw [h1,show P.zjA (toHp h).pw (toHp h).np k n m=true from h2];rfl
 have h2':=h2;unfold P.zjA at h2'
 simp only [qae,qaa]at h2'
 obtain ⟨⟨hv,hk0⟩,hne⟩:=h2';have c:=P.zay hv;have hsz:=P.zcm hv;rw [zcg k n m hm,qab];dsimp only;obtain ⟨q1,q2,q3⟩:=P.zoQ (toHp h) k n m;have fin:∀ (g:HpD) (a:Int),P.zeq (toHp h) (P.zaO k n m)=true->toHp g=P.zdq (toHp h) (P.zaO k n m)->a=P.zdI (toHp h) (P.zaO k n m) ->
  Tot (fun r:(HpD×Int×Int×Unit)×Unit=>r.1.2.2.1=P.zc2 (toHp h) k n m/\toHp r.1.1=P.zho (toHp h) k n m/\r.1.2.1=P.zje (toHp h) k n m) ((F_r05_Init (g,a,(k,n,m,()),())).bind fun (r:(HpD×Int×Unit)×Unit)=>some ((((r.1.1.1.1,r.1.1.1.2.1,()),r.1.1.2.1,r.1.1.2.2.1,r.1.1.2.2.2.1,r.1.1.2.2.2.2.1,()),a,0,()),())):=fun g a hok hg hga=>by
  obtain ⟨z1,z2,z3,z4⟩:=P.zi0 hP (show 1<=P.zaO k n m by omega) hne hok
  rw [<-hg]at z1 z2;rw [<-hga]at z3;have hE:P.zc2 (toHp h) k n m=0:=by unfold P.zc2;rw [if_pos hask,if_pos (by rw [q1];exact hok)]
  refine zad (ztN g (HpW.of hw z1 z2) a k n m z3 hm) fun r hr=>zab ?_
  dsimp only;rw [zar];refine ⟨hE.symm,?_,?_⟩
  · rw [hr.2,hg,hga];unfold P.zho;rw [if_pos hE,q2,q3]
  · rw [hga];unfold P.zje;rw [if_pos hE,q3]
 refine zad (zfF h.1.1 h.1.2.1 _) fun r2 hr2=>zad (zrG h hw h1 _ (by omega)) fun r3 hr3=>?_
 obtain ⟨⟨(nd:Int),_⟩,_⟩:=r2;have hnd:nd=P.zau (toHp h).pw (toHp h).np (P.zaO k n m):=hr2
 dsimp only;refine zac (fun h3=>?_) fun h3=>?_
 · simp only [qaa]at h3;have hpos:0<P.zau (toHp h).pw (toHp h).np (P.zaO k n m):=by omega
   refine zad (zrH h hw h1 _ _ hnd.symm (by omega)) fun r4 hr4=>?_
   have hOK:P.zeq (toHp h) (P.zaO k n m)=r4.1.2.2.1:=by unfold P.zeq;rw [if_pos hpos,hr4.1,hnd]
   refine zac (fun h4=>bad 3 (by decide) ?_) fun h4=>?_
   · simp only [qao]at h4;unfold P.zc2;rw [if_pos hask,q1,hOK,h4];rfl
   · simp only [qav]at h4;obtain ⟨y1,y2⟩:=hr4.2 h4;exact fin _ _ (hOK.trans h4) (by unfold P.zdq;rw [if_pos hpos,<-hnd];exact y1) (by unfold P.zdI;rw [if_pos hpos,<-hnd];exact y2)
 · simp only [qaf]at h3;have hpos:¬0<P.zau (toHp h).pw (toHp h).np (P.zaO k n m):=by omega
   have hOK:P.zeq (toHp h) (P.zaO k n m)=r3.1.2.2.1:=by unfold P.zeq;rw [if_neg hpos,hr3.1]
   refine zac (fun h4=>bad 3 (by decide) ?_) fun h4=>?_
   · simp only [qao]at h4;unfold P.zc2;rw [if_pos hask,q1,hOK,h4];rfl
   · simp only [qav]at h4;obtain ⟨y1,y2⟩:=hr3.2 h4;exact fin _ _ (hOK.trans h4) (by unfold P.zdq;rw [if_neg hpos];exact y1) (by unfold P.zdI;rw [if_neg hpos];exact y2)
end Go.VI
namespace Go.VI
open Go
theorem zoc(a b:Nat)(ha:a<18446744073709551616)(hb:b<18446744073709551616):zcx IntKind.u64 (fun (x1 x2:BitVec IntKind.u64.bits)=>x1 &&& x2) (a:Int) (b:Int)=((a &&& b:Nat):Int):=by
 have hx:a &&& b<2 ^ 64:=Nat.and_lt_two_pow _ (by omega)
 show IntKind.u64.wrap ((BitVec.ofInt 64 (a:Int) &&& BitVec.ofInt 64 (b:Int)).toNat:Int)=_
 have e:∀ c:Nat,c<18446744073709551616->(BitVec.ofInt 64 (c:Int)).toNat=c:=fun c hc=>by
  rw [BitVec.toNat_ofInt];omega
 rw [BitVec.toNat_and,e a ha,e b hb,IntKind.wrap_u64];omega
theorem zdw(x k:Nat)(hk:0<k):(x:Int).fdiv (k:Int)=((x / k:Nat):Int):=by
 rw [Int.fdiv_eq_ediv_of_nonneg _ (by omega)];exact (Int.natCast_ediv x k).symm
def toHd(x:Int×Int×Int×Unit):P.Hd:=⟨x.1,x.2.1,x.2.2.1⟩
theorem zfn(x:Nat)(hx:x<18446744073709551616):Tot (fun r=>r.1.2.1=P.okD x/\r.1.1=(P.decK x,P.decN x,P.decM x,())) (F_r03_Decode ((x:Int),())):=by
 have d1:(2:Int) ^ min (Int.toNat 2) IntKind.u64.bits=((4:Nat):Int):=by decide
 have d2:(2:Int) ^ min (Int.toNat 4) IntKind.u64.bits=((16:Nat):Int):=by decide
 have d3:(2:Int) ^ min (Int.toNat 16) IntKind.u64.bits=((65536:Nat):Int):=by decide
 have k1:W (zcx IntKind.u64 (fun (x1 x2:BitVec IntKind.u64.bits)=>x1 &&& x2) ((x:Int).fdiv (2 ^ min (Int.toNat 2) IntKind.u64.bits)) 3)=(P.dK x:Int):=by
  have e:=zoc (x / 4) 3 (by omega) (by omega)
  rw [show (x / 4) &&& 3=(x / 4) % 4 from Nat.and_two_pow_sub_one_eq_mod _ 2]at e
  rw [d1,zdw x 4 (by omega)]
  unfold P.dK;exact (congrArg W e).trans (W_id (by omega))
 have k2:W (zcx IntKind.u64 (fun (x1 x2:BitVec IntKind.u64.bits)=>x1 &&& x2) ((x:Int).fdiv (2 ^ min (Int.toNat 4) IntKind.u64.bits)) 4095)=(P.dN x:Int):=by
  have e:=zoc (x / 16) 4095 (by omega) (by omega)
  rw [show (x / 16) &&& 4095=(x / 16) % 4096 from Nat.and_two_pow_sub_one_eq_mod _ 12]at e
  rw [d2,zdw x 16 (by omega)]
  unfold P.dN;exact (congrArg W e).trans (W_id (by omega))
 have k3:U32 ((x:Int).fdiv (2 ^ min (Int.toNat 16) IntKind.u64.bits))=(P.dM x:Int):=by
  rw [d3,zdw x 65536 (by omega)]
  unfold P.dM;rw [U32,IntKind.wrap_u32];omega
 have hmb:(0:Int)<=(P.dM x:Int)/\(P.dM x:Int)<4294967296:=by unfold P.dM;omega
 rw [znE];dsimp only
 rw [k1,k2,k3,zfm _ _ _ hmb,qab];dsimp only;simp only [cor];refine zae (by decide) (zae (by decide) (zae (by decide) ?_))
 by_cases hv:P.zaA (P.dK x) (P.dN x) (P.dM x)=true
 · have e1:P.encE (P.dK x) (P.dN x) (P.dM x)=0:=by unfold P.encE;rw [if_pos hv]
   have e2:P.encV (P.dK x) (P.dN x) (P.dM x)=P.zdD (P.dK x) (P.dN x) (P.dM x):=by unfold P.encV;rw [if_pos hv]
   rw [e1,e2];by_cases hw:P.zdD (P.dK x) (P.dN x) (P.dM x)=x
   · have hok:P.okD x=true:=P.zm4.2 ⟨hv,hw⟩
     rw [hw];obtain ⟨f1,f2,f3⟩:=P.zmQ hok;refine zac (fun c=>by simp at c) fun _=>zab ?_
     rw [hok,f1,f2,f3];exact ⟨rfl,rfl⟩
   · have hok:P.okD x=false:=by rw [<-qbs];exact fun c=>hw (P.zm4.1 c).2
     obtain ⟨f1,f2,f3⟩:=P.zpQ hok;refine zac (fun _=>zab ?_) fun c=>?_
     · rw [hok,f1,f2,f3];exact ⟨rfl,rfl⟩
     · simp only [qaI,qaA]at c;exact absurd c.2 hw
 · have e1:P.encE (P.dK x) (P.dN x) (P.dM x)=1:=by unfold P.encE;rw [if_neg hv]
   have hok:P.okD x=false:=by rw [<-qbs];exact fun c=>hv (P.zm4.1 c).1
   obtain ⟨f1,f2,f3⟩:=P.zpQ hok;rw [e1];refine zac (fun _=>zab ?_) fun c=>by simp at c
   rw [hok,f1,f2,f3];exact ⟨rfl,rfl⟩
theorem zhs(pw np a:Int)(ha:0<=a/\a<18446744073709551616):Tot (fun r=>r.1.1=P.ofI pw np a/\r.1.2.1=P.ofK pw np a/\r.1.2.2.1=P.ofE pw np a) (F_r04_Of ((pw,np,()),a,())):=by
 rw [zuZ];dsimp only
 rw [zbh,qab];dsimp only;simp only [cor];refine zac (fun h=>zab ?_) fun h=>?_
 · obtain ⟨e1,e2,e3⟩:=P.zwj (pw:=pw) (np:=np) (a:=a) (by simpa [zaH] using h)
   rw [e1,e2,e3];exact ⟨rfl,rfl,rfl⟩
 simp only [qav]at h;have hc:P.confB pw np=true:=by rw [zaH];exact h
 obtain ⟨c1,c2⟩:=P.conf_prod hc;have c3:=P.zai hc;have w1:W (np*pw)=np*pw:=W_id (by omega)
 have w2:W (4096+np*pw)=4096+np*pw:=W_id (by omega)
 have w3:U (4096+np*pw)=4096+np*pw:=U_id (by omega)
 rw [w1,w2,w3];refine zac (fun h1=>zab ?_) fun h1=>?_
 · simp only [qaT,qaa]at h1;obtain ⟨e1,e2,e3⟩:=P.ze5 (a:=a) hc (by unfold P.inAr;exact qaj (by omega))
   rw [e1,e2,e3];exact ⟨rfl,rfl,rfl⟩
 simp only [qaI,qaf]at h1;obtain ⟨e1,e2,e3⟩:=P.zgO (a:=a) hc (by unfold P.inAr;exact qac (by omega))
 have w4:U (a-4096)=a-4096:=U_id (by omega)
 have w5:W (a-4096)=a-4096:=W_id (by omega)
 have hpw:(!pw == 0)=true:=by simp;omega
 rw [w4,w5];refine zae hpw (zae hpw (zab ?_));rw [e1,e2,e3];refine ⟨?_,?_,rfl⟩
 · dsimp only;rw [qbv (by omega)]
   have hd:=Int.ediv_le_self (a:=a-4096) pw (by omega)
   have hd0:=qbP (a:=a-4096) (b:=pw) (by omega) (by omega)
   exact W_id (by omega)
 · dsimp only;exact qb2 (by omega)
theorem zcP(ws:List Int)(a:Int)(hl:ws.length<=100000000)(ha:0<=a/\a<18446744073709551616):Tot (fun r=>r.1.1=P.zas ws a/\r.1.2.1=P.zkF ws a) (F_r02_Load (ws,a,())):=by
 have h68:Tot (fun r=>r.1.1=P.zkJ ws.length a/\r.1.2.1=P.zkK ws.length a) (F_r02_Index (ws,a,())):=by
  rw [zpj];dsimp only
  refine zad (zix ws a 1 hl ha) fun r hr=>?_
  obtain ⟨⟨(i:Int),(b:Bool),_⟩,_⟩:=r;dsimp only at hr ⊢
  unfold P.zkJ P.zkK;refine zac (fun h=>zab ?_) fun h=>zab ?_
  · simp only [qao]at h;have:=hr.1.symm.trans h
    rw [this];exact ⟨rfl,rfl⟩
  · simp only [qav]at h;have:=hr.1.symm.trans h
    rw [this];exact ⟨hr.2 h,rfl⟩
 rw [zq6];dsimp only
 refine zad h68 fun r hr=>?_
 obtain ⟨⟨(i:Int),(e:Int),_⟩,_⟩:=r;dsimp only at hr ⊢
 obtain ⟨h1,h2⟩:=hr;subst h1 h2;unfold P.zkJ P.zkK P.zas P.zkF;cases h:P.okA ws.length a 1
 · exact zab ⟨rfl,rfl⟩
 · have:=P.zaE.1 h
   simp only [if_true];refine zac (fun c=>by simp at c) fun _=>zae (zaj.2 ⟨by omega,by omega⟩) (zab ⟨rfl,rfl⟩)
theorem zgp(ws:List Int)(a v:Int)(hl:ws.length<=100000000)(ha:0<=a/\a<18446744073709551616):Tot (fun r=>r.1.1=P.zaF ws a [v]/\r.1.2.1=P.zeS ws a [v]) (F_r02_Store (ws,a,v,())):=by
 rw [zpi];dsimp only
 exact zad (zeA ws a [v] hl (by simp) ha) fun r hr=>zab hr
end Go.VI
namespace Go.VI
open Go
def atBx(gk gu o:Int)(y:Nat):Bool:=decide (gk=1\/gk=2)&&decide (o<gu)&&P.okD y&&(if gk=1 then decide (o+((P.dN y:Int)+1)<=gu) else decide (o=0/\(P.dN y:Int)+1=gu))
theorem zfE(h:HpD)(hw:HpW h)(a:Int)(ha:0<=a/\a<18446744073709551616):Tot (fun r=>r.1.2.1=P.atE (toHp h) a/\toHd r.1.1=P.atH (toHp h) a) (F_r05_At (h,a,())):=by
 obtain ⟨⟨pw,np,_⟩,ws,ps,sp,bu,_⟩:=h;have hwl:=hw.wl;have hwb:=hw.wb;dsimp only at hwl hwb
 have hlm:(ps.map toPg).length=ps.length:=qai ..
 rw [zuY];dsimp only
 refine zad (zbn _ hw) fun r hr=>?_
 obtain ⟨⟨(b:Bool),_⟩,_⟩:=r;have hb:b=P.okH (toHp ((pw,np,()),ws,ps,sp,bu,())):=hr
 subst hb;dsimp only;simp only [cor,cand];refine zac (fun h1=>zab ?_) fun h1=>zad (zhs pw np a ha) fun r2 hr2=>?_
 · obtain ⟨e1,e2⟩:=P.zrx (h:=toHp ((pw,np,()),ws,ps,sp,bu,())) (a:=a) (by simpa using h1)
   rw [e1,e2];exact ⟨rfl,rfl⟩
 simp only [qav]at h1;obtain ⟨p1,p2,p3,p4,p5,p6⟩:=P.zaU (zfJ h1);obtain ⟨c1,c2⟩:=P.conf_prod p1;have c3:=P.zai p1;simp only [toHp]at p1 p2 p3 c1 c2 c3;rw [hlm]at p3;obtain ⟨⟨(i:Int),(o:Int),(e:Int),_⟩,_⟩:=r2;dsimp only at hr2 ⊢
 obtain ⟨g1,g2,g3⟩:=hr2;refine zac (fun h2=>zab ?_) fun h2=>?_
 · simp only [qaz,ne_eq]at h2;obtain ⟨e1,e2⟩:=P.ziu (a:=a) h1 (by show ¬P.ofE pw np a=0;rw [<-g3];exact h2)
   rw [e1,e2];exact ⟨rfl,rfl⟩
 simp only [qaA]at h2;have hof:P.ofE pw np a=0:=by rw [<-g3];exact h2
 have hin:P.inAr pw np a=true:=by
  cases hq:P.inAr pw np a
  · have:=(P.ze5 (a:=a) p1 hq).2.2
    rw [this]at hof;cases hof
  · rfl
 obtain ⟨q1,q2,q3⟩:=P.zgO p1 hin;have hia:=qar hin;have hiN:0<=i/\i<ps.length:=by
  rw [g1,q1];refine ⟨qbP (by omega) (by omega),?_⟩
  rw [p3];exact qco (by omega) (by omega)
 have hoN:0<=o/\o<pw:=by
  rw [g2,q2];exact ⟨Int.emod_nonneg _ (by omega),Int.emod_lt_of_pos _ (by omega)⟩
 refine zae (zaj.2 hiN) (zad (zcP ws a hwl ha) fun r3 hr3=>?_)
 obtain ⟨⟨(x:Int),(e3:Int),_⟩,_⟩:=r3;dsimp only at hr3 ⊢
 have hld:x=ws.getD (a-4096).toNat 0:=by
  rw [hr3.1];unfold P.zas;rw [if_pos (P.zaE.2 (by omega))]
 have hxb:0<=x/\x<18446744073709551616:=by
  rw [hld];exact WBo.getD hwb _
 obtain ⟨y,hy⟩:=qaQ hxb.1;have hwa:P.zaw (toHp ((pw,np,()),ws,ps,sp,bu,())) a=y:=by
  unfold P.zaw;show (ws.getD (a-4096).toNat 0).toNat=y
  rw [<-hld,hy];rfl
 subst hy;refine zad (zfn y (by omega)) fun r4 hr4=>?_
 obtain ⟨⟨⟨(dk:Int),(dn:Int),(dm:Int),_⟩,(db:Bool),_⟩,_⟩:=r4;dsimp only at hr4 ⊢
 obtain ⟨hd1,hd2⟩:=hr4;simp only [Prod.mk.injEq,qbf]at hd2;obtain ⟨hk,hn,hm⟩:=hd2;have hpg:P.zb9 (toHp ((pw,np,()),ws,ps,sp,bu,())) a=toPg (ps.getD i.toNat PG0):=by
  unfold P.zb9;show (ps.map toPg).getD (P.ofI pw np a).toNat P.Pg.zero=_
  rw [zaR,<-g1]
 have hatB:P.atB (toHp ((pw,np,()),ws,ps,sp,bu,())) a=atBx (P.zb9 (toHp ((pw,np,()),ws,ps,sp,bu,())) a).kind (P.zb9 (toHp ((pw,np,()),ws,ps,sp,bu,())) a).used (P.ofK pw np a) (P.zaw (toHp ((pw,np,()),ws,ps,sp,bu,())) a):=rfl
 rw [hpg,hwa,<-g2]at hatB;have hH:P.atH (toHp ((pw,np,()),ws,ps,sp,bu,())) a=if P.atB (toHp ((pw,np,()),ws,ps,sp,bu,())) a then P.hdOf y else P.Hd.zero:=by
  cases hq:P.atB (toHp ((pw,np,()),ws,ps,sp,bu,())) a
  · rw [(P.zpZ h1 hof hq).2];rfl
  · rw [(P.zmU h1 hof hq).2,hwa];rfl
 have hE:P.atE (toHp ((pw,np,()),ws,ps,sp,bu,())) a=if P.atB (toHp ((pw,np,()),ws,ps,sp,bu,())) a then 0 else 19:=by
  cases hq:P.atB (toHp ((pw,np,()),ws,ps,sp,bu,())) a
  · rw [(P.zpZ h1 hof hq).1];rfl
  · rw [(P.zmU h1 hof hq).1];rfl
 rw [hH,hE,hatB];generalize ps.getD i.toNat PG0=G
 obtain ⟨gk,gs,gu,gp,_⟩:=G;have hab:atBx (toPg (gk,gs,gu,gp,())).kind (toPg (gk,gs,gu,gp,())).used o y=atBx gk gu o y:=rfl
 rw [hab];clear hab;have bad:∀ c:Bool,c=false->Tot (fun r:((Int×Int×Int×Unit)×Int×Unit)×Unit=>r.1.2.1=(if c=true then (0:Int) else 19)/\toHd r.1.1=if c=true then P.hdOf y else P.Hd.zero) (some (((0,0,0,()),19,()),())):=fun c hc=>by
  subst hc;exact zab ⟨rfl,rfl⟩
 have c19:(bif gk != 1 then gk != 2 || (decide (o >= gu) || !db) else (decide (o >= gu) || !db))=((gk != 1&&gk != 2) || (decide (o >= gu) || !db)):=by
  cases (gk != 1) <;> rfl
 rw [c19];refine zac (fun h3=>bad _ ?_) fun h3=>?_
 · unfold atBx;rw [<-hd1];simp only [qaT,qae,qaz,ne_eq,qaa,qao]at h3;rcases h3 with h3 | h3 | h3
   · rw [show decide (gk=1\/gk=2)=false from qaj (by omega)];rfl
   · rw [show decide (o<gu)=false from qaj (by omega)];simp
   · rw [h3];simp
 simp only [qaI,qbF,qaA,qaf,qav]at h3;obtain ⟨h3a,h3b,h3c⟩:=h3;have hokD:P.okD y=true:=by rw [<-hd1];exact h3c
 obtain ⟨d1,d2,d3⟩:=P.zcq hokD;obtain ⟨f1,f2,f3⟩:=P.zmQ hokD;rw [f1]at hk;rw [f2]at hn;rw [f3]at hm;subst hk hn hm;have hmb:(0:Int)<=(P.dM y:Int)/\(P.dM y:Int)<4294967296:=by unfold P.dM;omega
 have vp:=P.zay d3;rw [zcg _ _ _ hmb,qab,P.zcm d3];dsimp only;have hwo:W (o+((P.dN y:Int)+1))=o+((P.dN y:Int)+1):=W_id (by omega)
 unfold atBx;rw [hwo,hokD,show decide (gk=1\/gk=2)=true from qac h3a,show decide (o<gu)=true from qac (by omega)]
 simp only [qaS];refine zac (fun h4=>bad _ ?_) fun h4=>zab ?_
 · by_cases k1:gk=1
   · subst k1;rw [if_pos rfl];simp at h4
     exact qaj (by omega)
   · rw [if_neg k1];have k2:gk=2:=by omega
     subst k2;simp at h4
     exact qaj (by omega)
 · have:(if gk=1 then decide (o+((P.dN y:Int)+1)<=gu) else decide (o=0/\(P.dN y:Int)+1=gu))=true:=by
    by_cases k1:gk=1
    · subst k1;rw [if_pos rfl];simp at h4
      exact qac (by omega)
    · rw [if_neg k1];have k2:gk=2:=by omega
      subst k2;simp at h4
      exact qac (by omega)
   rw [this];exact ⟨rfl,rfl⟩
theorem zhq(h:HpD)(hw:HpW h)(a:Int)(ha:0<=a/\a<18446744073709551616):Tot (fun r=>r.1.2.1=P.getE (toHp h) a/\toHd r.1.1=P.getH (toHp h) a) (F_r05_Get (h,a,())):=by
 rw [ztj];dsimp only
 rw [zar];have out:∀ (c:Int),¬c=0->P.getE (toHp h) a=c->Tot (fun r:((Int×Int×Int×Unit)×Int×Unit)×Unit=>r.1.2.1=P.getE (toHp h) a/\toHd r.1.1=P.getH (toHp h) a) (some (((0,0,0,()),c,()),())):=fun c h0 he=>by
  refine zab ⟨he.symm,?_⟩;unfold P.getH;rw [if_neg (by rw [he];exact h0)];rfl
 refine zad (zbn _ hw) fun r hr=>?_
 obtain ⟨⟨(b:Bool),_⟩,_⟩:=r;have hb:b=P.okH (toHp h):=hr
 subst hb;dsimp only;refine zac (fun h1=>out 1 (by decide) ?_) fun h1=>zac (fun h2=>out 5 (by decide) ?_) fun h2=>zad (zfE h hw a ha) fun r hr=>?_
 · simp only [qao]at h1;unfold P.getE;rw [h1];rfl
 · simp only [qav]at h1;simp only [qaC]at h2;unfold P.getE;rw [if_pos h1,if_pos h2]
 simp only [qav]at h1;simp only [qaX,ne_eq]at h2;obtain ⟨⟨⟨(k:Int),(n:Int),(m:Int),_⟩,(e:Int),_⟩,_⟩:=r;dsimp only at hr ⊢
 have hg:P.getE (toHp h) a=if P.atE (toHp h) a=0/\(P.atH (toHp h) a).k=0 then 4 else P.atE (toHp h) a:=by
  unfold P.getE;rw [if_pos h1,if_neg h2]
 rw [<-hr.1,<-hr.2]at hg;simp only [cand];refine zac (fun h3=>out 4 (by decide) ?_) fun h3=>zab ?_
 · simp only [qae,qaC]at h3;exact hg.trans (if_pos h3)
 · have h3':¬(e=0/\k=0):=fun c=>by rw [c.1,c.2]at h3;cases h3
   have hg:P.getE (toHp h) a=e:=hg.trans (if_neg h3')
   refine ⟨hg.symm,?_⟩;unfold P.getH;rw [hg,<-hr.2];by_cases he:e=0
   · rw [if_pos he]
   · rw [if_neg he,hr.2];unfold P.atH;rw [if_neg (by rw [<-hr.1];exact he)]
end Go.VI
namespace Go.VI
open Go
theorem zpD{h:HpD}{a i:Int}(ha:0<=a/\a<18446744073709551616)(hg:P.getE (toHp h) a=0)(h0:0<=i)(h1:i<(P.getH (toHp h) a).n):a<100000/\i<100000:=by
 have hok:P.okH (toHp h)=true:=by
  cases hq:P.okH (toHp h)
  · unfold P.getE at hg;rw [hq]at hg;cases hg
  · rfl
 obtain ⟨p1,p2,p3,p4,p5,p6⟩:=P.zaU (zfJ hok);obtain ⟨c1,c2⟩:=P.conf_prod p1;have hat:P.atE (toHp h) a=0:=by
  unfold P.getE at hg;rw [if_pos hok]at hg;split at hg
  · cases hg
  · split at hg
    · cases hg
    · exact hg
 have hof:P.ofE (toHp h).pw (toHp h).np a=0:=by
  unfold P.atE at hat;rw [if_pos hok]at hat;split at hat
  · assumption
  · cases hat
 have hin:P.inAr (toHp h).pw (toHp h).np a=true:=by
  cases hq:P.inAr (toHp h).pw (toHp h).np a
  · have:=(P.ze5 (a:=a) p1 hq).2.2
    rw [this]at hof;cases hof
  · rfl
 have hia:=qar hin;have hH:P.getH (toHp h) a=P.hdOf (P.zaw (toHp h) a):=by
  unfold P.getH;rw [if_pos hg];unfold P.atH;rw [if_pos hat]
 rw [hH]at h1;simp only [P.hdOf]at h1;have:P.dN (P.zaw (toHp h) a)<4096:=by unfold P.dN;omega
 omega
theorem zrI(h:HpD)(hw:HpW h)(a i:Int)(ha:0<=a/\a<18446744073709551616):Tot (fun r=>r.1.1=P.zw6 (toHp h) a i/\r.1.2.1=P.zi8 (toHp h) a i) (F_r05_Field (h,a,i,())):=by
 rw [zpa];dsimp only
 rw [zar];refine zad (zhq h hw a ha) fun r hr=>?_
 obtain ⟨⟨⟨(k:Int),(n:Int),(m:Int),_⟩,(e:Int),_⟩,_⟩:=r;dsimp only at hr ⊢
 obtain ⟨he,hH⟩:=hr;have hn:(P.getH (toHp h) a).n=n:=(congrArg P.Hd.n hH).symm
 unfold P.zw6 P.zi8;rw [hn,<-he];simp only [cor];refine zac (fun h1=>zab ?_) fun h1=>?_
 · simp only [qaz,ne_eq]at h1;rw [if_neg h1,if_neg h1];exact ⟨rfl,rfl⟩
 simp only [qaA]at h1;rw [if_pos h1,if_pos h1];refine zac (fun h2=>zab ?_) fun h2=>?_
 · simp only [qaT,qaa]at h2;have:i<0\/n<=i:=by omega
   rw [if_pos this,if_pos this];exact ⟨rfl,rfl⟩
 · simp only [qaI,qaf]at h2;have:¬(i<0\/n<=i):=by omega
   rw [if_neg this,if_neg this];obtain ⟨b1,b2⟩:=zpD ha (he.symm.trans h1) (show 0<=i by omega) (by rw [hn];omega)
   have w1:U (a+1)=a+1:=U_id (by omega)
   have w2:U i=i:=U_id (by omega)
   have w3:U (a+1+i)=a+1+i:=U_id (by omega)
   rw [w1,w2,w3];exact zad (zcP h.2.1 (a+1+i) hw.wl (by omega)) fun r hr=>zab hr
theorem zl8(h:HpD)(hw:HpW h)(a i v:Int)(ha:0<=a/\a<18446744073709551616):Tot (fun r=>toHp r.1.1=P.setV (toHp h) a i v/\r.1.2.1=P.setE (toHp h) a i) (F_r05_SetField (h,a,i,v,())):=by
 rw [zkx];dsimp only
 rw [zar];refine zad (zrI h hw a i ha) fun r hr=>?_
 obtain ⟨⟨(x:Int),(e:Int),_⟩,_⟩:=r;dsimp only at hr ⊢
 obtain ⟨-,he⟩:=hr;unfold P.setV P.setE;rw [<-he];refine zac (fun h1=>zab ?_) fun h1=>?_
 · simp only [qaz,ne_eq]at h1;rw [if_neg h1];exact ⟨rfl,rfl⟩
 simp only [qaA]at h1;have hf:=he.symm.trans h1;have hg:P.getE (toHp h) a=0:=by
  unfold P.zi8 at hf;split at hf
  · assumption
  · exact hf
 have hi:0<=i/\i<(P.getH (toHp h) a).n:=by
  unfold P.zi8 at hf;rw [if_pos hg]at hf;split at hf
  · cases hf
  · omega
 obtain ⟨b1,b2⟩:=zpD ha hg hi.1 hi.2;have w1:U (a+1)=a+1:=U_id (by omega)
 have w2:U i=i:=U_id (by omega)
 have w3:U (a+1+i)=a+1+i:=U_id (by omega)
 rw [w1,w2,w3,if_pos h1];refine zad (zgp h.2.1 (a+1+i) v hw.wl (by omega)) fun r hr=>zab ?_
 simp only [toHp];rw [hr.1];exact ⟨rfl,h1.symm⟩
theorem zmT(a b:Nat)(ha:a<4294967296)(hb:b<4294967296):zcx IntKind.u32 (fun (x1 x2:BitVec IntKind.u32.bits)=>x1 &&& x2) (a:Int) (b:Int)=((a &&& b:Nat):Int):=by
 have hx:a &&& b<2 ^ 32:=Nat.and_lt_two_pow _ (by omega)
 show IntKind.u32.wrap ((BitVec.ofInt 32 (a:Int) &&& BitVec.ofInt 32 (b:Int)).toNat:Int)=_
 have e:∀ c:Nat,c<4294967296->(BitVec.ofInt 32 (c:Int)).toNat=c:=fun c hc=>by
  rw [BitVec.toNat_ofInt];omega
 rw [BitVec.toNat_and,e a ha,e b hb,IntKind.wrap_u32];omega
theorem zez(k n m i:Int)(hm:0<=m/\m<4294967296):Tot (fun r=>r.1.1=P.ptrB k n m i) (F_r03_Pointer ((k,n,m,()),i,())):=by
 rw [zlS];dsimp only
 rw [zdz k n m hm,qab];dsimp only;simp only [cor];unfold P.ptrB;refine zac (fun h=>zab ?_) fun h=>?_
 · symm
   simp only [qaT,qao,qaa]at h;rcases h with h | h | h
   · rw [h];rfl
   · rw [qaj (show ¬0<=i by omega)];simp
   · rw [qaj (show ¬i<n by omega)];simp
 simp only [qaI,qav,qaf]at h;obtain ⟨hv,h0,h1⟩:=h;have c:=P.zay hv;have ui:U i=i:=U_id (by omega)
 rw [hv,qac (show 0<=i by omega),qac (show i<n by omega),ui]
 refine zae ?_ (zab ?_)
 · rw [qaj h0];cases (k == 2) <;> cases (k == 1) <;> rfl
 simp only [qaS];by_cases k2:k=2
 · subst k2;rfl
 by_cases k1:k=1
 · subst k1;obtain ⟨mm,rfl⟩:=qaQ hm.1;obtain ⟨j,rfl⟩:=qaQ (show 0<=i by omega)
   have hmin:min j IntKind.u32.bits=j:=by
    have:IntKind.u32.bits=32:=rfl
    have:=(c.2.2.2.2.1 rfl).1
    omega
   have hp:0<2 ^ j:=Nat.pow_pos (by omega)
   have e1:(2:Int) ^ j=((2 ^ j:Nat):Int):=by rw [qck];rfl
   have hle:mm / 2 ^ j<=mm:=Nat.div_le_self _ _
   have e:=zmT (mm / 2 ^ j) 1 (by omega) (by omega)
   rw [Nat.and_one_is_mod]at e;have key:zcx IntKind.u32 (fun (x1 x2:BitVec IntKind.u32.bits)=>x1 &&& x2) ((mm:Int).fdiv (2 ^ min (Int.toNat (j:Int)) IntKind.u32.bits)) 1=((mm / 2 ^ j % 2:Nat):Int):=by
    rw [qad,hmin,e1,zdw mm (2 ^ j) hp];exact e
   simp only [qad]at key;simp only [qad];rw [key,Nat.testBit_eq_decide_div_mod_eq];have:(((1:Int) == 2)=false):=rfl
   rw [this,Bool.false_or];have:(((1:Int) == 1)=true):=rfl
   rw [this,qah];generalize mm / 2 ^ j % 2=z
   rw [qbb];simp
   omega
 · have e1:(k == 2)=false:=by simp [k2]
   have e2:(k == 1)=false:=by simp [k1]
   rw [e1,e2,qaj k2,qaj k1];rfl
theorem zjh(h:HpD)(hl:h.2.2.1.length<=100000000):Tot (fun r=>r.1.1=(P.zaS (h.2.2.1.map toPg):Int)) (F_made_crowd (h,())):=by
 obtain ⟨⟨pw,np,_⟩,ws,ps,sp,bu,_⟩:=h;dsimp only at hl
 rw [zgT];dsimp only
 refine zad (P:=fun r=>r.1.1=(P.zaS (ps.map toPg):Int)) (zao (fun x=>∃ k:Nat,x.1.2.1=(k:Int)/\k<=ps.length/\x.1.1=(P.zaS ((ps.map toPg).take k):Int)) (fun x=>((ps.length:Int)-x.1.2.1).toNat) ⟨0,rfl,by omega,by simp [P.zaS]⟩ ?_) fun r hr=>zab hr
 rintro ⟨⟨(n:Int),(i:Int),_⟩,_⟩ ⟨k,e,hk,e2⟩;dsimp only at e e2 ⊢
 subst e e2;have hle:=P.zpR ((ps.map toPg).take k);rw [qau]at hle;refine zac (fun h=>?_) fun h=>zab ?_
 · simp only [qaa]at h;have hk:k<ps.length:=by omega
   have w2:W ((k:Int)+1)=k+1:=W_id (by omega)
   have w1:W ((P.zaS ((ps.map toPg).take k):Int)+1)=P.zaS ((ps.map toPg).take k)+1:=W_id (by omega)
   have hin:inB (k:Int) ps.length=true:=zaj.2 ⟨by omega,h⟩
   refine zae hin (zae (zaB fun _=>hin) (zab ?_))
   rw [w1,w2,qad];simp only [qaq];refine ⟨⟨k+1,by omega,by omega,?_⟩,by omega⟩
   rw [P.zgm (zbe hk)];generalize ps.getD k PG0=G
   obtain ⟨gk,gs,gu,gp,_⟩:=G;have e1:(toPg (gk,gs,gu,gp,())).kind=gk:=rfl
   have e2:(toPg (gk,gs,gu,gp,())).pins=gp:=rfl
   rw [e1,e2];simp only [cand];by_cases hc:gk=1/\0<gp
   · rw [if_pos hc];obtain ⟨c1,c2⟩:=hc;simp [c1,c2]
   · rw [if_neg hc];have:(gk == 1&&decide (gp > 0))=false:=by
      rw [<-qbs];intro c;simp only [qae,qaC,qaa]at c;exact hc ⟨c.1,c.2⟩
     rw [this];rfl
 · simp only [qaf]at h;simp only [qan];rw [qa7 (by rw [qai];omega)]
end Go.VI
namespace Go.VI
open Go
abbrev WdD:=HpD×List Int×List Int×Unit
def toWd(d:WdD):P.Wd:=⟨toHp d.1,d.2.1,d.2.2.1⟩
structure Mk (n:Nat) (d:WdD):Prop where
 made:P.Made n (toWd d)
 wb:WBo d.1.2.1
 n400:n<=400
theorem Mk.lens{n:Nat}{d:WdD}(h:Mk n d):P.Lens n (toWd d):=P.zu8 n _ h.made h.n400
theorem Mk.hw{n:Nat}{d:WdD}(h:Mk n d):HpW d.1:=by
 have L:=h.lens;have c:=P.conf_prod L.conf;have c3:=P.zai L.conf;have h1:=L.words;have h2:=L.pages;have e:(toWd d).h.pages.length=d.1.2.2.1.length:=qai ..
 rw [e]at h2;have h3:(d.1.2.1.length:Int)=(toWd d).h.np*(toWd d).h.pw:=h1
 exact ⟨by omega,by omega,h.wb⟩
theorem zhu(l:List Int)(a pw np:Int)(h0:0<=a)(h1:a<=100000000)(hc:confB pw np=true):
 Tot (fun (r:((Int×Int×Int×Unit)×Unit)×(List Int×Int×Unit)×Unit)=>(1<=r.1.1.1/\r.1.1.1<=3/\0<=r.1.1.2.1/\r.1.1.2.1<=100/\0<=r.1.1.2.2.1/\r.1.1.2.2.1<4096)/\r.2.1.1=l/\a<=r.2.1.2.1/\r.2.1.2.1<=a+10) (F_made_Tape_Header ((l,a,()),(pw,np,()),())):=by
 have c:=zaV.1 hc;rw [zgd];dsimp only
 rw [zc6,qab];dsimp only;have hq:W (pw.tdiv 4)=pw / 4:=by rw [qbv (by omega)];exact W_id (by omega)
 rw [hc,if_pos rfl,hq];have mask:∀ n:Int,0<=n->n<=100->∃ k:Nat,W (1*2 ^ min (U (if 12<if 32<n then 32 else n then 12 else if 32<n then 32 else n)).toNat IntKind.i64.bits)=((2 ^ k:Nat):Int)/\k<=12/\0<=U (if 12<if 32<n then 32 else n then 12 else if 32<n then 32 else n):=fun n n0 n1=>by
  obtain ⟨j,hj,hj2⟩:∃ j:Nat,(if 12<if 32<n then 32 else n then 12 else if 32<n then 32 else n)=(j:Int)/\j<=12:=by
   refine ⟨(if 12<if 32<n then 32 else n then 12 else if 32<n then 32 else n).toNat,?_,?_⟩ <;> (repeat' split) <;> omega
  rw [hj,U_id (by omega),qad]
  have hb:min j IntKind.i64.bits=j:=by
   have:IntKind.i64.bits=64:=rfl
   omega
  have e:(2:Int) ^ j=((2 ^ j:Nat):Int):=by rw [qck];rfl
  have hle:2 ^ j<=2 ^ 12:=qb8 (by omega) hj2
  have h12:(2:Nat) ^ 12=4096:=by decide
  refine ⟨j,?_,hj2,by omega⟩
  rw [hb,qbj,e];generalize 2 ^ j=z at hle ⊢
  exact W_id (by omega)
 have pk:∀ k:Nat,k<=12->((2 ^ k:Nat):Int)<=4096/\1<=((2 ^ k:Nat):Int):=fun k hk=>by
  have hle:2 ^ k<=2 ^ 12:=qb8 (by omega) hk
  have h12:(2:Nat) ^ 12=4096:=by decide
  have h0:0<2 ^ k:=Nat.pow_pos (by omega)
  generalize 2 ^ k=z at hle h0 ⊢
  omega
 refine zad (zap l a (pw / 4) h0 (by omega) (by omega)) ?_
 rintro ⟨⟨(v1:Int),_⟩,⟨(l1:List Int),(a1:Int),_⟩,_⟩ g1;have q1:=g1.lo;have q2:=g1.hi (by omega);have q3:=g1.l;have q4:=g1.a0;have q5:=g1.a1
 dsimp only at q1 q2 q3 q4 q5 ⊢
 subst q3;refine zad (zap l1 a1 12 (by omega) (by omega) (by omega)) ?_
 rintro ⟨⟨(v2:Int),_⟩,⟨(l2:List Int),(a2:Int),_⟩,_⟩ g2;have r3:=g2.l;have r4:=g2.a0;have r5:=g2.a1
 dsimp only at r3 r4 r5 ⊢
 subst r3;refine zac (fun _=>?_) fun _=>?_
 · refine zad (zap l2 a2 pw (by omega) (by omega) (by omega)) ?_
   rintro ⟨⟨(v3:Int),_⟩,⟨(l3:List Int),(a3:Int),_⟩,_⟩ g3;have s1:=g3.lo;have s2:=g3.hi (by omega);have s3:=g3.l;have s4:=g3.a0;have s5:=g3.a1
   dsimp only at s1 s2 s3 s4 s5 ⊢
   subst s3;refine zad (zap l3 a3 4 (by omega) (by omega) (by omega)) ?_
   rintro ⟨⟨(v4:Int),_⟩,⟨(l4:List Int),(a4:Int),_⟩,_⟩ g4;have t3:=g4.l;have t4:=g4.a0;have t5:=g4.a1
   dsimp only at t3 t4 t5 ⊢
   subst t3;have w:W (pw / 4+v3)=pw / 4+v3:=W_id (by omega)
   rw [w];obtain ⟨k,m1,m2,m3⟩:=mask (pw / 4+v3) (by omega) (by omega)
   rw [m1];have hk:=pk k m2;obtain ⟨z,hz⟩:∃ z:Int,((2 ^ k:Nat):Int)=z:=⟨_,rfl⟩
   rw [hz]at hk ⊢
   refine zac (fun _=>zab ?_) fun _=>zac (fun _=>zab ?_) fun _=>zae ?_ ?_
   · exact ⟨⟨by dsimp only;omega,by dsimp only;omega,by dsimp only;omega,by dsimp only;omega,by dsimp only;omega,by dsimp only;omega⟩,rfl,by dsimp only;omega,by dsimp only;omega⟩
   · exact ⟨⟨by dsimp only;omega,by dsimp only;omega,by dsimp only;omega,by dsimp only;omega,by dsimp only;omega,by dsimp only;omega⟩,rfl,by dsimp only;omega,by dsimp only;omega⟩
   · simp only [qao,qaf];omega
   refine zad (zap l4 a4 _ (by omega) (by omega) (by omega)) ?_
   rintro ⟨⟨(v5:Int),_⟩,⟨(l5:List Int),(a5:Int),_⟩,_⟩ g5;have u1:=g5.lo;have u2:=g5.hi (by omega);have u3:=g5.l;have u4:=g5.a0;have u5:=g5.a1
   dsimp only at u1 u2 u3 u4 u5 ⊢
   subst u3;have wu:U32 v5=v5:=by rw [U32,IntKind.wrap_u32];omega
   rw [wu];refine zab ?_;dsimp only;refine ⟨⟨by omega,by omega,?_,?_,by omega,by omega⟩,rfl,by omega,by omega⟩ <;> split <;> omega
 · refine zad (zap l2 a2 4 (by omega) (by omega) (by omega)) ?_
   rintro ⟨⟨(v4:Int),_⟩,⟨(l4:List Int),(a4:Int),_⟩,_⟩ g4;have t3:=g4.l;have t4:=g4.a0;have t5:=g4.a1
   dsimp only at t3 t4 t5 ⊢
   subst t3;obtain ⟨k,m1,m2,m3⟩:=mask v1 (by omega) (by omega)
   rw [m1];have hk:=pk k m2;obtain ⟨z,hz⟩:∃ z:Int,((2 ^ k:Nat):Int)=z:=⟨_,rfl⟩
   rw [hz]at hk ⊢
   refine zac (fun _=>zab ?_) fun _=>zac (fun _=>zab ?_) fun _=>zae ?_ ?_
   · exact ⟨⟨by dsimp only;omega,by dsimp only;omega,by dsimp only;omega,by dsimp only;omega,by dsimp only;omega,by dsimp only;omega⟩,rfl,by dsimp only;omega,by dsimp only;omega⟩
   · exact ⟨⟨by dsimp only;omega,by dsimp only;omega,by dsimp only;omega,by dsimp only;omega,by dsimp only;omega,by dsimp only;omega⟩,rfl,by dsimp only;omega,by dsimp only;omega⟩
   · simp only [qao,qaf];omega
   refine zad (zap l4 a4 _ (by omega) (by omega) (by omega)) ?_
   rintro ⟨⟨(v5:Int),_⟩,⟨(l5:List Int),(a5:Int),_⟩,_⟩ g5;have u1:=g5.lo;have u2:=g5.hi (by omega);have u3:=g5.l;have u4:=g5.a0;have u5:=g5.a1
   dsimp only at u1 u2 u3 u4 u5 ⊢
   subst u3;have wu:U32 v5=v5:=by rw [U32,IntKind.wrap_u32];omega
   rw [wu];refine zab ?_;dsimp only;refine ⟨⟨by omega,by omega,?_,?_,by omega,by omega⟩,rfl,by omega,by omega⟩ <;> split <;> omega
theorem zbP(n:Nat)(d:WdD)(hm:Mk n d)(l:List Int)(a:Int)(h0:0<=a)(h1:a<=100000000):
 Tot (fun (r:(Int×Unit)×(List Int×Int×Unit)×Unit)=>r.1.1∈0::(d.2.1++d.2.2.1)/\(0<=r.1.1/\r.1.1<18446744073709551616)/\r.2.1.1=l/\a<=r.2.1.2.1/\r.2.1.2.1<=a+1) (F_made_World_pick (d,(l,a,()),())):=by
 obtain ⟨h,st,wk,_⟩:=d;have L:=hm.lens;have n4:=hm.n400;have s1:st.length<=n:=L.stn
 have s2:wk.length<=n:=L.wkn
 rw [zgU];dsimp only
 have hlen:(([0]:List Int)++st++wk).length=1+st.length+wk.length:=by simp;omega
 refine zae (zan.2 (by simp;omega)) (zae (zan.2 (by simp;omega)) (zad (zap l a ((([0]:List Int)++st++wk).length:Int) h0 (by omega) (by rw [hlen];omega)) ?_))
 rintro ⟨⟨(v:Int),_⟩,⟨(l1:List Int),(a1:Int),_⟩,_⟩ g;have q1:=g.lo;have q2:=g.hi (by rw [hlen];omega);have q3:=g.l;have q4:=g.a0;have q5:=g.a1
 dsimp only at q1 q2 q3 q4 q5 ⊢
 have hmem:(([0]:List Int)++st++wk).getD v.toNat 0∈([0]:List Int)++st++wk:=zaC (by rw [hlen]at q2 ⊢;omega)
 refine zae (zaj.2 ⟨q1,q2⟩) (zab ?_);generalize (([0]:List Int)++st++wk).getD v.toNat 0=z at hmem ⊢
 have hz:z∈0::(st++wk):=by simpa using hmem
 refine ⟨hz,?_,q3,q4,q5⟩;rcases qat.1 hz with e | e
 · subst e;dsimp only;omega
 · rcases qas.1 e with e | e
   · exact L.st z e
   · exact L.wk z e
theorem zjB(n:Nat)(hn:n<400)(d:WdD)(hm:Mk n d)(k s m:Int)(h:1<=k/\k<=3/\0<=s/\s<=100/\0<=m/\m<4096):Tot (fun r=>Mk (n+1) r.1.1) (F_made_World_Put (d,(k,s,m,()),())):=by
 obtain ⟨g,st,wk,_⟩:=d;have L:=hm.lens;have s1:st.length<=n:=L.stn
 rw [zic];dsimp only
 rw [zar];have keep:Tot (fun r:(WdD×Unit)×Unit=>Mk (n+1) r.1.1) (some (((g,st,wk,()),()),())):=zab ⟨.step n _ _ hm.made (.none _),hm.wb,by omega⟩
 refine zad (zvE g hm.hw k s m (by omega)) ?_
 rintro ⟨⟨(g':HpD),(a:Int),(e:Int),_⟩,_⟩ ⟨h1,h2,h3⟩;dsimp only at h1 h2 h3 ⊢
 refine zae (zaB fun _=>zan.2 (by omega)) (zae (zaB fun _=>zan.2 (by simp;omega)) (zac (fun he=>zab ?_) fun _=>keep))
 simp only [qaC]at he;have hE:P.zc2 (toHp g) k s m=0:=by rw [<-h1];exact he
 have hst:=P.MStep.put (toWd (g,st,wk,())) k s m h.1 h.2.1 h.2.2.1 h.2.2.2.1 h.2.2.2.2.1 h.2.2.2.2.2 hE;have ew:toWd (g',st++[a],wk,())=P.putV (toWd (g,st,wk,())) k s m:=by
  unfold toWd P.putV;dsimp only;rw [h2,h3]
 refine ⟨?_,?_,by omega⟩
 · dsimp only;rw [ew];exact .step n _ _ hm.made hst
 · have hv:P.zaA k s m=true:=by
    unfold P.zc2 P.zi3 P.zjA at hE;cases hv:P.zaA k s m
    · rw [hv]at hE;simp at hE
    · rfl
   have hwds:(P.zkE (toHp g) k s m).words=g.2.1:=by
    unfold P.zkE;split <;> rfl
   show WBo (toHp g').words
   rw [h2];unfold P.zho;rw [if_pos hE];unfold P.zkI;split
   · exact P.zfv (by rw [hwds];exact hm.wb) (P.zwv hv (by omega))
   · exact P.WB.nil
end Go.VI
namespace Go.VI
open Go
theorem Mk.keep{n:Nat}(hn:n<400){d:WdD}(h:Mk n d):Mk (n+1) d:=⟨.step n _ _ h.made (.none _),h.wb,by omega⟩
theorem ziz(n:Nat)(hn:n<400)(d:WdD)(hm:Mk n d)(l:List Int)(a:Int)(h0:0<=a)(h1:a<=10000000):
 Tot (fun (r:(WdD×Unit)×(List Int×Int×Unit)×Unit)=>Mk (n+1) r.1.1/\r.2.1.1=l/\a<=r.2.1.2.1/\r.2.1.2.1<=a+20) (F_made_World_Link (d,(l,a,()),())):=by
 obtain ⟨g,st,wk,_⟩:=d;rw [zgW];dsimp only
 rw [zar];refine zad (zbP n _ hm l a h0 (by omega)) ?_
 rintro ⟨⟨(p:Int),_⟩,⟨(l1:List Int),(a1:Int),_⟩,_⟩ ⟨m1,m2,m3,m4,m5⟩;dsimp only at m1 m2 m3 m4 m5 ⊢
 subst m3;refine zad (zbP n _ hm l1 a1 (by omega) (by omega)) ?_
 rintro ⟨⟨(q:Int),_⟩,⟨(l2:List Int),(a2:Int),_⟩,_⟩ ⟨k1,k2,k3,k4,k5⟩;dsimp only at k1 k2 k3 k4 k5 ⊢
 subst k3;refine zad (zap l2 a2 8 (by omega) (by omega) (by omega)) ?_
 rintro ⟨⟨(v:Int),_⟩,⟨(l3:List Int),(a3:Int),_⟩,_⟩ g1;have q1:=g1.lo;have q2:=g1.hi (by omega);have q3:=g1.l;have q4:=g1.a0;have q5:=g1.a1
 dsimp only at q1 q2 q3 q4 q5 ⊢
 subst q3;refine zad (zhq g hm.hw p m2) ?_;rintro ⟨⟨⟨(hk:Int),(hn':Int),(hmm:Int),_⟩,(e:Int),_⟩,_⟩ ⟨he,hH⟩;dsimp only at he hH ⊢
 simp only [cor];refine zac (fun _=>zab ⟨hm.keep hn,rfl,by dsimp only;omega,by dsimp only;omega⟩) fun hc=>?_
 simp only [qaI,qaA,qaX,ne_eq]at hc;obtain ⟨c1,c2⟩:=hc;have hg:P.getE (toHp g) p=0:=he.symm.trans c1
 have ek:(P.getH (toHp g) p).k=hk:=(congrArg P.Hd.k hH).symm
 have en:(P.getH (toHp g) p).n=hn':=(congrArg P.Hd.n hH).symm
 have em:(P.getH (toHp g) p).m=hmm:=(congrArg P.Hd.m hH).symm
 have hdat:P.getH (toHp g) p=P.hdOf (P.zaw (toHp g) p):=by
  have hat:P.atE (toHp g) p=0:=by
   unfold P.getE at hg;split at hg
   · split at hg
     · cases hg
     · split at hg
       · cases hg
       · exact hg
   · cases hg
  unfold P.getH;rw [if_pos hg];unfold P.atH;rw [if_pos hat]
 have hpos:0<=hn'/\hn'<4096:=by
  rw [<-en,hdat];simp only [P.hdOf];unfold P.dN;omega
 have hmb:0<=hmm/\hmm<4294967296:=by
  rw [<-em,hdat];simp only [P.hdOf];unfold P.dM;omega
 have hi0:0<=v.tmod hn':=Int.tmod_nonneg _ q1
 have hi1:v.tmod hn'<hn':=Int.tmod_lt_of_pos _ (by omega)
 have fin:∀ (b:Int) (tp:List Int×Int×Unit),tp.1=l3->a<=tp.2.1->tp.2.1<=a+20->0<=b->b<18446744073709551616->(P.ptrB hk hn' hmm (v.tmod hn')=true->b∈0::(st++wk)) ->
  Tot (fun (r:(WdD×Unit)×(List Int×Int×Unit)×Unit)=>Mk (n+1) r.1.1/\r.2.1.1=l3/\a<=r.2.1.2.1/\r.2.1.2.1<=a+20) ((F_r05_SetField (g,p,v.tmod hn',b,())).bind fun (r:(HpD×Int×Unit)×Unit)=>some (((((r.1.1.1.1,r.1.1.1.2.1,()),r.1.1.2.1,r.1.1.2.2.1,r.1.1.2.2.2.1,r.1.1.2.2.2.2.1,()),st,wk,()),()),(tp.1,tp.2.1,()),())):=fun b tp t1 t2 t3 b0 b1 hb=>by
  refine zad (zl8 g hm.hw p (v.tmod hn') b m2) fun r hr=>zab ?_
  obtain ⟨⟨(g':HpD),(e':Int),_⟩,_⟩:=r;dsimp only at hr ⊢
  rw [zar];refine ⟨⟨?_,?_,by omega⟩,t1,t2,t3⟩
  · have hs:=P.MStep.link (toWd (g,st,wk,())) p (v.tmod hn') b m1 hg hi0 (by show _<(P.getH (toHp g) p).n;rw [en];exact hi1) b0 b1 (by
     show P.ptrB (P.getH (toHp g) p).k (P.getH (toHp g) p).n (P.getH (toHp g) p).m _=true->_
     rw [ek,en,em];exact hb)
    have ew:toWd (g',st,wk,())={ toWd (g,st,wk,()) with h:=P.setV (toWd (g,st,wk,())).h p (v.tmod hn') b }:=by
     unfold toWd;dsimp only;rw [hr.1]
    rw [ew];exact .step n _ _ hm.made hs
  · show WBo (toHp g').words
    rw [hr.1];unfold P.setV;split
    · refine P.zfv hm.wb fun x hx=>?_
      rw [qaw]at hx;subst hx;exact ⟨b0,b1⟩
    · exact P.WB.nil
 refine zae (by simp;exact c2) (zad (zez hk hn' hmm (v.tmod hn') hmb) ?_)
 rintro ⟨⟨(pt:Bool),_⟩,_⟩ hpt;dsimp only at hpt ⊢
 refine zac (fun h2=>?_) fun h2=>?_
 · refine zad (zap l3 a3 1048576 (by omega) (by omega) (by omega)) ?_
   rintro ⟨⟨(u:Int),_⟩,⟨(l4:List Int),(a4:Int),_⟩,_⟩ g2;have r1:=g2.lo;have r2:=g2.hi (by omega);have r3:=g2.l;have r4:=g2.a0;have r5:=g2.a1
   dsimp only at r1 r2 r3 r4 r5 ⊢
   subst r3;have wu:U u=u:=U_id (by omega)
   rw [wu];exact fin u (l4,a4,()) rfl (by dsimp only;omega) (by dsimp only;omega) r1 (by omega) (fun c=>by rw [<-hpt]at c;rw [c]at h2;cases h2)
 · exact fin q (l3,a3,()) rfl (by dsimp only;omega) (by dsimp only;omega) k2.1 k2.2 (fun _=>k1)
theorem zjC(n:Nat)(hn:n<400)(d:WdD)(hm:Mk n d)(l:List Int)(a:Int)(h0:0<=a)(h1:a<=10000000):
 Tot (fun (r:(WdD×Unit)×(List Int×Int×Unit)×Unit)=>Mk (n+1) r.1.1/\r.2.1.1=l/\a<=r.2.1.2.1/\r.2.1.2.1<=a+20) (F_made_World_Pin (d,(l,a,()),())):=by
 obtain ⟨⟨⟨pw,np,_⟩,ws,ps,sp,bu,_⟩,st,wk,_⟩:=d;have L:=hm.lens;have hcf:P.confB pw np=true:=L.conf
 have c3:=P.zai hcf;have hpl:=hm.hw.pl;dsimp only at hpl
 have hlm:(ps.map toPg).length=ps.length:=qai ..
 rw [zid];dsimp only
 refine zad (zbP n _ hm l a h0 (by omega)) ?_
 rintro ⟨⟨(p:Int),_⟩,⟨(l1:List Int),(a1:Int),_⟩,_⟩ ⟨m1,m2,m3,m4,m5⟩;dsimp only at m1 m2 m3 m4 m5 ⊢
 subst m3;refine zad (zhs pw np p m2) ?_;rintro ⟨⟨(i:Int),(o:Int),(e:Int),_⟩,_⟩ ⟨g1,g2,g3⟩;dsimp only at g1 g2 g3 ⊢
 refine zac (fun _=>zab ⟨hm.keep hn,rfl,by dsimp only;omega,by dsimp only;omega⟩) fun he=>zae (zan.2 (by omega)) ?_
 simp only [qaA]at he;have hof:P.ofE pw np p=0:=g3.symm.trans he
 have hin:P.inAr pw np p=true:=by
  cases hq:P.inAr pw np p
  · have:=(P.ze5 (a:=p) hcf hq).2.2
    rw [this]at hof;cases hof
  · rfl
 obtain ⟨q1,q2,q3⟩:=P.zgO hcf hin;have hia:=qar hin;have hpn:(ps.length:Int)=np:=by have:=L.pages;rw [<-hlm];exact this
 have hiN:0<=i/\i<ps.length:=by
  rw [g1,q1];refine ⟨qbP (by omega) (by omega),?_⟩
  rw [hpn];exact qco (by omega) (by omega)
 obtain ⟨j,rfl⟩:=qaQ hiN.1;have hj:j<ps.length:=by omega
 rw [qad];have hat:=zbe hj;have hpin:=L.pins (toPg (ps.getD j PG0)) (qaK hat);generalize hG:ps.getD j PG0=G at *
 obtain ⟨gk,gs,gu,gp,_⟩:=G;have hpin:0<=gp/\gp<=n:=hpin
 have n4:=hm.n400;dsimp only;have wm:W (gp-1)=gp-1:=W_id (by omega)
 have wp:W (gp+1)=gp+1:=W_id (by omega)
 rw [wm,wp];have step:∀ (z:Int) (tp:List Int×Int×Unit),tp.1=l1->a<=tp.2.1->tp.2.1<=a+20->((0<gp/\z=gp-1)\/(z=gp+1/\(0<gp\/gk=2\/(P.zaS (ps.map toPg):Int)<np / 4))) ->
  Tot (fun (r:(WdD×Unit)×(List Int×Int×Unit)×Unit)=>Mk (n+1) r.1.1/\r.2.1.1=l1/\a<=r.2.1.2.1/\r.2.1.2.1<=a+20) (some (((((pw,np,()),ws,ps.set j (gk,gs,gu,z,()),sp,bu,()),st,wk,()),()),(tp.1,tp.2.1,()),())):=fun z tp t1 t2 t3 hz=>by
  refine zab ⟨⟨?_,hm.wb,by omega⟩,t1,t2,t3⟩
  have hs:=P.MStep.pin (toWd (((pw,np,()),ws,ps,sp,bu,()),st,wk,())) p j (toPg (gk,gs,gu,gp,())) z m1 hof g1.symm hat hz;have ew:toWd (((pw,np,()),ws,ps.set j (gk,gs,gu,z,()),sp,bu,()),st,wk,())={ toWd (((pw,np,()),ws,ps,sp,bu,()),st,wk,()) with h:={ (toWd (((pw,np,()),ws,ps,sp,bu,()),st,wk,())).h with pages:=(ps.map toPg).set j ⟨gk,gs,gu,z⟩ } }:=by
   unfold toWd toHp;dsimp only;rw [qbw];rfl
  dsimp only;rw [ew];exact .step n _ _ hm.made hs
 have same:∀ (tp:List Int×Int×Unit),tp.1=l1->a<=tp.2.1->tp.2.1<=a+20 ->
  Tot (fun (r:(WdD×Unit)×(List Int×Int×Unit)×Unit)=>Mk (n+1) r.1.1/\r.2.1.1=l1/\a<=r.2.1.2.1/\r.2.1.2.1<=a+20) (some (((((pw,np,()),ws,ps,sp,bu,()),st,wk,()),()),(tp.1,tp.2.1,()),())):=fun tp t1 t2 t3=>zab ⟨hm.keep hn,t1,t2,t3⟩
 have hq4:W (np.tdiv 4)=np / 4:=by rw [qbv (by omega)];exact W_id (by omega)
 rw [hq4];have more:∀ (tp:List Int×Int×Unit),tp.1=l1->a<=tp.2.1->tp.2.1<=a+20->Tot (fun (r:(WdD×Unit)×(List Int×Int×Unit)×Unit)=>Mk (n+1) r.1.1/\r.2.1.1=l1/\a<=r.2.1.2.1/\r.2.1.2.1<=a+20)
  (bif decide (gp > 0) then some (((((pw,np,()),ws,ps.set j (gk,gs,gu,gp+1,()),sp,bu,()),st,wk,()),()),(tp.1,tp.2.1,()),())
  else bif gk == 2 then some (((((pw,np,()),ws,ps.set j (gk,gs,gu,gp+1,()),sp,bu,()),st,wk,()),()),(tp.1,tp.2.1,()),())
  else (F_made_crowd (((pw,np,()),ws,ps,sp,bu,()),())).bind
   fun (r_2:(Int×Unit)×Unit)=>
   bif !(4:Int) == 0 then
   bif decide (r_2.1.1<np / 4) then some (((((pw,np,()),ws,ps.set j (gk,gs,gu,gp+1,()),sp,bu,()),st,wk,()),()),(tp.1,tp.2.1,()),())
   else some (((((pw,np,()),ws,ps,sp,bu,()),st,wk,()),()),(tp.1,tp.2.1,()),())
   else none):=fun tp t1 t2 t3=>by
  refine zac (fun h2=>step _ tp t1 t2 t3 (.inr ⟨rfl,.inl (by simpa using h2)⟩)) fun _=>zac (fun h2=>step _ tp t1 t2 t3 (.inr ⟨rfl,.inr (.inl (by simpa using h2))⟩)) fun _=>zad (zjh _ hpl) ?_
  rintro ⟨⟨(cr:Int),_⟩,_⟩ hcr;dsimp only at hcr ⊢
  exact zae rfl (zac (fun h2=>step _ tp t1 t2 t3 (.inr ⟨rfl,.inr (.inr (by rw [<-hcr];simpa using h2))⟩)) fun _=>same tp t1 t2 t3)
 refine zae (zaj.2 ⟨by omega,by omega⟩) (zac (fun h2=>?_) fun _=>more (l1,a1,()) rfl (by dsimp only;omega) (by dsimp only;omega))
 simp only [qaa]at h2;refine zad (zap l1 a1 2 (by omega) (by omega) (by omega)) ?_
 rintro ⟨⟨(v:Int),_⟩,⟨(l2:List Int),(a2:Int),_⟩,_⟩ g4;have r3:=g4.l;have r4:=g4.a0;have r5:=g4.a1
 dsimp only at r3 r4 r5 ⊢
 subst r3;exact zac (fun _=>step _ (l2,a2,()) rfl (by dsimp only;omega) (by dsimp only;omega) (.inl ⟨h2,rfl⟩)) fun _=>more (l2,a2,()) rfl (by dsimp only;omega) (by dsimp only;omega)
theorem ziA(n:Nat)(hn:n<400)(d:WdD)(hm:Mk n d)(l:List Int)(a:Int)(h0:0<=a)(h1:a<=10000000):
 Tot (fun (r:(WdD×Unit)×(List Int×Int×Unit)×Unit)=>Mk (n+1) r.1.1/\r.2.1.1=l/\a<=r.2.1.2.1/\r.2.1.2.1<=a+20) (F_made_World_Drop (d,(l,a,()),())):=by
 obtain ⟨g,st,wk,_⟩:=d;have L:=hm.lens;have n4:=hm.n400;have s1:st.length<=n:=L.stn
 have s2:wk.length<=n:=L.wkn
 rw [zgX];dsimp only
 rw [zar];refine zac (fun h2=>?_) fun _=>zab ⟨hm.keep hn,rfl,by dsimp only;omega,by dsimp only;omega⟩
 simp only [qaa]at h2;refine zad (zap l a (st.length:Int) h0 (by omega) (by omega)) ?_
 rintro ⟨⟨(v:Int),_⟩,⟨(l1:List Int),(a1:Int),_⟩,_⟩ g1;have q1:=g1.lo;have q2:=g1.hi (by omega);have q3:=g1.l;have q4:=g1.a0;have q5:=g1.a1
 dsimp only at q1 q2 q3 q4 q5 ⊢
 subst q3;refine zad (zap l1 a1 3 (by omega) (by omega) (by omega)) ?_
 rintro ⟨⟨(u:Int),_⟩,⟨(l2:List Int),(a2:Int),_⟩,_⟩ g2;have r3:=g2.l;have r4:=g2.a0;have r5:=g2.a1
 dsimp only at r3 r4 r5 ⊢
 subst r3;obtain ⟨j,rfl⟩:=qaQ q1;have hj:j<st.length:=by omega
 have w1:W ((j:Int)+1)=((j+1:Nat):Int):=by rw [W_id (by omega)];omega
 rw [w1];simp only [qad,Int.toNat_zero,qb5];have hx:st[j]?=some (st.getD j 0):=by rw [qay,qap hj];rfl
 have et:st.take st.length=st:=List.take_length
 rw [et];have l1':(List.take j st).length=j:=by rw [qau];omega
 have l2':(List.drop (j+1) st).length=st.length-(j+1):=qaG
 refine zae (zaB fun _=>zan.2 (by omega)) (zae (zaB fun _=>zaj.2 ⟨by omega,by omega⟩) (zae (zaB fun _=>zan.2 (by simp;omega)) (zac (fun _=>?_) fun _=>?_)))
 all_goals refine zae (qac (by omega)) (zae (zan.2 (by omega)) (zae (qac (by omega)) (zae (zan.2 (by omega)) (zab ⟨⟨?_,hm.wb,by omega⟩,rfl,by dsimp only;omega,by dsimp only;omega⟩))))
 · exact .step n _ _ hm.made (.drop (toWd (g,st,wk,())) j _ true hx)
 · exact .step n _ _ hm.made (.drop (toWd (g,st,wk,())) j _ false hx)
end Go.VI
namespace Go.VI
open Go
theorem zmX(ws:List Int)(a n:Int)(hl:ws.length<=100000000)(ha:0<=a/\a<18446744073709551616):Tot (fun r=>r.1.1=P.zki ws a n/\r.1.2.1=P.znk ws a n) (F_r02_Read (ws,a,n,())):=by
 rw [zq4];dsimp only
 refine zac (fun h=>zab ?_) fun h=>?_
 · obtain ⟨e1,e2⟩:=P.zv1 (xs:=ws) (a:=a) (n:=n) (by simpa using h)
   rw [e1,e2];exact ⟨rfl,rfl⟩
 simp only [qaf]at h;obtain ⟨k,rfl⟩:=qaQ (show 0<=n by omega)
 refine zad (zix ws a k hl ha) ?_;rintro ⟨⟨(i:Int),(b:Bool),_⟩,_⟩ ⟨h1,h2⟩;dsimp only at h1 h2 ⊢
 refine zac (fun h3=>zab ?_) fun h3=>?_
 · simp only [qao]at h3;obtain ⟨e1,e2⟩:=P.read_no (h1.symm.trans h3);rw [e1,e2];exact ⟨rfl,rfl⟩
 simp only [qav]at h3;have hok:=h1.symm.trans h3;have hi:=h2 h3;have hb:=P.zaE.1 hok;obtain ⟨j,hj⟩:=qaQ (show 0<=a-4096 by omega)
 have ha4:a=4096+(j:Int):=by omega
 rw [hj]at hi;subst hi ha4;obtain ⟨e1,e2⟩:=P.read_ok hok;have w:W ((j:Int)+k)=((j+k:Nat):Int):=by rw [W_id (by omega)];omega
 rw [e1,e2,w];simp only [qad,qaV];have hd:List.drop j (List.take (j+k) ws)=List.take k (List.drop j ws):=by rw [qbC];congr 1;omega
 rw [hd];refine zae (qac (by omega)) (zae (zan.2 ?_) (zab ⟨rfl,rfl⟩))
 rw [qau,qaG];omega
theorem ztQ(ws:List Int)(t f n:Int)(hl:ws.length<=100000000)(ht:0<=t/\t<18446744073709551616)(hf:0<=f/\f<18446744073709551616):Tot (fun r=>r.1.1=P.zes ws t f n/\r.1.2.1=P.moveE ws t f n) (F_r02_Move (ws,t,f,n,())):=by
 rw [zq5];dsimp only
 refine zad (zmX ws f n hl hf) ?_;rintro ⟨⟨(l:List Int),(e:Int),_⟩,_⟩ ⟨h1,h2⟩;dsimp only at h1 h2 ⊢
 unfold P.zki at h1;unfold P.znk at h2;unfold P.zes P.moveE;by_cases hn:n<0
 · rw [if_pos hn]at h1 h2;subst h1 h2;rw [if_pos hn,if_pos hn];exact zac (fun _=>zab ⟨rfl,rfl⟩) fun c=>by simp at c
 rw [if_neg hn]at h1 h2;rw [if_neg hn,if_neg hn];cases hb:P.okA ws.length f n.toNat
 · rw [hb]at h1 h2;simp only [qbi,qbd]at h1 h2;subst h1 h2;simp only [qbi,and_false,qbd];exact zac (fun _=>zab ⟨rfl,rfl⟩) fun c=>by simp at c
 rw [hb]at h1 h2;simp only [if_true]at h1 h2;subst h2;have hbb:=P.zaE.1 hb;have hll:l.length=n.toNat:=by rw [h1,qau,qaG];omega
 refine zac (fun c=>by simp at c) fun _=>zad (zeA ws t l hl (by omega) ht) fun r hr=>zab ?_
 obtain ⟨r1,r2⟩:=hr;rw [r1,r2];unfold P.zaF P.zeS;rw [hll];cases hc:P.okA ws.length t n.toNat
 · simp
 · simp [h1]
theorem zjg(x:Nat)(hx:x<18446744073709551616):Tot (fun r=>r.1.1=P.tgtV x/\r.1.2.1=P.okT x) (F_r03_Target ((x:Int),())):=by
 have d1:(2:Int) ^ min (Int.toNat 2) IntKind.u64.bits=((4:Nat):Int):=by decide
 rw [znC];dsimp only
 rw [d1,zdw x 4 (by omega),qb2 (by omega)]
 simp only [cor];refine zae rfl (zae ?_ (zac (fun h=>zab ?_) fun h=>zae (by decide) (zab ?_)))
 · simp
 · simp only [qaT,qaz,ne_eq,qaa]at h;have hn:P.okT x=false:=by
    unfold P.okT;rw [qbF,qaf,qaf];omega
   rw [hn,P.tgt_no hn];exact ⟨rfl,rfl⟩
 · simp only [qaI,qaA,qaf]at h;have hn:P.okT x=true:=by
    unfold P.okT;rw [qae,qaa,qaa];omega
   rw [hn,P.zwU hn];exact ⟨rfl,rfl⟩
theorem zoh(a:Int)(ha:0<=a/\a<18446744073709551616):Tot (fun r=>r.1.1=P.fwdV a/\r.1.2.1=P.fwdE a) (F_r03_Forward (a,())):=by
 rw [zlT];dsimp only
 unfold P.fwdV P.fwdE;refine zac (fun h=>zab ?_) fun h=>zab ?_
 · simp only [qaa]at h;rw [if_neg (by omega),if_neg (by omega)];exact ⟨rfl,rfl⟩
 · simp only [qaf]at h;rw [if_pos (by omega),if_pos (by omega)]
   have w1:U (4*a)=4*a:=U_id (by omega)
   have w2:U (4*a+2)=4*a+2:=U_id (by omega)
   dsimp only;rw [w1,w2];exact ⟨rfl,rfl⟩
theorem zl9(k n m:Int)(hm:0<=m/\m<4294967296)(hn:n<=1000000):Tot (fun r=>r.1.1=P.zeN k n m) (F_r03_Pointers ((k,n,m,()),())):=by
 rw [zky];dsimp only
 rw [zdz k n m hm];cases hv:P.zaA k n m
 · rw [P.zuB hv];refine zad (P:=fun r=>r.2.1.1=[]) (zao (fun x=>x.2.1.1=[]) (fun _=>0) rfl ?_) fun r hr=>zab hr
   rintro ⟨⟨_,(i:Int),_⟩,⟨(l:List Int),_⟩,_⟩ e;dsimp only at e ⊢
   exact zac (fun _=>zab e) fun _=>zab e
 · have c:=P.zay hv;rw [P.zqF hv];refine zad (P:=fun r=>r.2.1.1=P.zcB k n m n.toNat) (zao (fun x=>∃ j:Nat,x.1.2.1=(j:Int)/\j<=n.toNat/\x.2.1.1=P.zcB k n m j/\x.2.1.1.length<=j) (fun x=>(n-x.1.2.1).toNat) ⟨0,rfl,by omega,rfl,by simp⟩ ?_) fun r hr=>zab hr
   rintro ⟨⟨_,(i:Int),_⟩,⟨(l:List Int),_⟩,_⟩ ⟨j,e1,e2,e3,e4⟩;dsimp only at e1 e2 e3 e4 ⊢
   subst e1;refine zac (fun h=>?_) fun h=>zab ?_
   · simp only [qaa]at h;rw [qab];dsimp only;have w:W ((j:Int)+1)=j+1:=W_id (by omega)
     rw [w];refine zac (fun _=>zad (zez k n m j hm) ?_) fun c=>by cases c
     rintro ⟨⟨(b:Bool),_⟩,_⟩ hb;dsimp only at hb ⊢
     have hs:=P.zkk k n m j;rw [<-hb]at hs;refine zae (zaB fun _=>zan.2 (by simp;omega)) (zac (fun h2=>zab ?_) fun h2=>zab ?_)
     · rw [if_pos h2]at hs;simp only [qaq];exact ⟨⟨j+1,by omega,by omega,by rw [hs,e3],by simp;omega⟩,by omega⟩
     · rw [if_neg (by rw [h2];decide)]at hs
       simp only [qaq];exact ⟨⟨j+1,by omega,by omega,by rw [hs,e3],by omega⟩,by omega⟩
   · simp only [qaf]at h;simp only [qan];rw [e3,show j=n.toNat by omega]
end Go.VI
namespace Go.VI
open Go
theorem zht(pw np p o:Int):Tot (fun r=>r.1.1=P.za2 pw np p o/\r.1.2.1=P.zlf pw np p o) (F_r04_Address ((pw,np,()),p,o,())):=by
 rw [zlR];dsimp only
 rw [zbh,qab];dsimp only;simp only [cor];refine zac (fun h=>zab ?_) fun h=>?_
 · obtain ⟨e1,e2⟩:=P.addr_no (pw:=pw) (np:=np) (p:=p) (o:=o) (by simpa [zaH] using h)
   rw [e1,e2];exact ⟨rfl,rfl⟩
 simp only [qav]at h;have hc:P.confB pw np=true:=by rw [zaH];exact h
 obtain ⟨c1,c2⟩:=P.conf_prod hc;have c3:=P.zai hc;refine zac (fun h1=>zab ?_) fun h1=>zab ?_
 · simp only [qaT,qaa]at h1;obtain ⟨e1,e2⟩:=P.zof (p:=p) (o:=o) hc (by unfold P.inPg;exact qaj (by omega))
   rw [e1,e2];exact ⟨rfl,rfl⟩
 · simp only [qaI,qaf]at h1;obtain ⟨e1,e2⟩:=P.zdy (p:=p) (o:=o) hc (by unfold P.inPg;exact qac (by omega))
   have kp:=P.zaY hc (p:=p) (by omega) (by omega)
   have v1:W (p*pw)=p*pw:=W_id (by omega)
   have v2:W (4096+p*pw)=4096+p*pw:=W_id (by omega)
   have v3:W (4096+p*pw+o)=4096+p*pw+o:=W_id (by omega)
   have v4:U (4096+p*pw+o)=4096+p*pw+o:=U_id (by omega)
   dsimp only;rw [v1,v2,v3,v4,e1,e2];exact ⟨rfl,rfl⟩
theorem zug{pw np:Int}{ps:List P.Pg}{i:Nat}{x:P.Pg}(hc:P.confB pw np=true)(h:P.zbt pw np ps=true)(hx:ps[i]?=some x)(hk:x.kind=1\/x.kind=2):0<=x.used/\x.used<=1000:=by
 have c3:=P.zai hc;have:=P.zbb.1 h i x hx
 unfold P.zbG at this;rcases hk with hk | hk
 · obtain ⟨-,b,-⟩:=P.zjR h hx hk;omega
 · rw [if_neg (by omega),if_neg (by omega),if_pos hk]at this
   unfold P.zcL at this;simp only [qae,qaa]at this;obtain ⟨⟨⟨⟨_,a2⟩,_⟩,_⟩,_⟩:=this;have h4:=P.ze8 pw np x.used;have h1:1<=x.used:=by
    by_cases hq:1<=x.used
    · exact hq
    · rw [P.zgh (.inr (by omega))]at a2;omega
   rw [P.zgg hc h1]at a2 h4;have hb:=P.zsp (pw:=pw) (n:=x.used) (by omega)
   have:P.zd9 pw x.used*pw<=4*64:=by
    calc P.zd9 pw x.used*pw<=4*pw:=qaR h4 (by omega)
     _<=4*64:=by omega
   omega
theorem ziw(h:HpD)(hw:HpW h)(i:Int):Tot (fun r=>r.1.1=P.zaD (toHp h) i/\r.1.2.1=P.zbc (toHp h) i) (F_r06_Page (h,i,())):=by
 rw [zqW];dsimp only
 rw [zar];refine zad (zbn _ hw) fun r hr=>?_
 obtain ⟨⟨(b:Bool),_⟩,_⟩:=r;have hb:b=P.okH (toHp h):=hr
 subst hb;dsimp only;simp only [cor];have hlm:(toHp h).pages.length=h.2.2.1.length:=qai ..
 refine zac (fun h1=>zab ?_) fun h1=>zac (fun h2=>zab ?_) fun h2=>?_
 · obtain ⟨e1,e2⟩:=P.znr (i:=i) (show P.okH (toHp h)=false by simpa using h1)
   rw [e1,e2];exact ⟨rfl,rfl⟩
 · simp only [qav]at h1;simp only [qaT,qaa]at h2;obtain ⟨e1,e2⟩:=P.znq (i:=i) h1 (by rw [hlm];omega)
   rw [e1,e2];exact ⟨rfl,rfl⟩
 simp only [qav]at h1;simp only [qaI,qaf]at h2;have hin:¬(i<0\/(toHp h).pages.length<=i):=by rw [hlm];omega
 obtain ⟨j,rfl⟩:=qaQ (show 0<=i by omega)
 obtain ⟨p1,p2,p3,p4,p5,p6⟩:=P.zaU (zfJ h1);have hj:j<h.2.2.1.length:=by omega
 have hat:(toHp h).pages[j]?=some (toPg (h.2.2.1.getD j PG0)):=zbe hj
 have hpg:P.pgAt (toHp h) (j:Int)=toPg (h.2.2.1.getD j PG0):=by
  unfold P.pgAt;rw [qad];exact P.zav hat
 rw [qad];have hub:=fun hk=>zug p1 p6 hat hk
 generalize hG:h.2.2.1.getD j PG0=G at hpg hub
 obtain ⟨gk,gs,gu,gp,_⟩:=G;have hk:(P.pgAt (toHp h) (j:Int)).kind=gk:=by rw [hpg];rfl
 have hu:(P.pgAt (toHp h) (j:Int)).used=gu:=by rw [hpg];rfl
 have hub:gk=1\/gk=2->0<=gu/\gu<=1000:=hub
 dsimp only;refine zae (zaj.2 ⟨by omega,by omega⟩) (zac (fun h3=>zab ?_) fun h3=>?_)
 · simp only [qaT,qaC]at h3;obtain ⟨e1,e2⟩:=P.ze0 h1 hin (by rw [hk];exact h3)
   rw [e1,e2];exact ⟨rfl,rfl⟩
 simp only [qaI,qaX,ne_eq]at h3;have hnk:¬((P.pgAt (toHp h) (j:Int)).kind=0\/(P.pgAt (toHp h) (j:Int)).kind=3):=by rw [hk];omega
 have hk12:gk=1\/gk=2:=by
  have:=P.zbb.1 p6 j _ hat
  rw [hG]at this;unfold P.zbG at this;have e:(toPg (gk,gs,gu,gp,())).kind=gk:=rfl
  rw [e]at this;by_cases k1:gk=1
  · exact .inl k1
  · by_cases k2:gk=2
    · exact .inr k2
    · rw [if_neg h3.1,if_neg k1,if_neg k2,if_neg h3.2]at this;cases this
 have hgu:=hub hk12;have hW:P.zco (toHp h) (j:Int)=P.zb1 (toHp h) j (decide (gk=2)) gu.toNat 0:=by
  unfold P.zco;rw [hk,hu]
 refine zad (P:=fun r=>match r with
  | .inl x=>x.1.1=[]/\x.1.2.1=19/\P.zco (toHp h) (j:Int)=none
  | .inr y=>P.zco (toHp h) (j:Int)=some y.2.1.1) (zao (fun x=>∃ o:Nat,x.1.2.2.2.1=(o:Int)/\P.zcD (toHp h) j (decide (gk=2)) gu.toNat o x.2.1.1/\x.2.1.1.length<=o/\o<=2000) (fun x=>(gu-x.1.2.2.2.1).toNat) ⟨0,rfl,P.zcD.start _ _ _ _,by simp,by omega⟩ ?_) ?_
 · rintro ⟨⟨q1,q2,_,(o':Int),_⟩,⟨(acc:List Int),_⟩,_⟩ ⟨o,e1,e2,e3,e4⟩;dsimp only at e1 e2 e3 ⊢
   subst e1;refine zac (fun h4=>?_) fun h4=>zab ?_
   · simp only [qaa]at h4;have hlt:o<gu.toNat:=by omega
     refine zad (zht h.1.1 h.1.2.1 j o) ?_;rintro ⟨⟨(a:Int),_,_⟩,_⟩ ⟨ha,-⟩;dsimp only at ha ⊢
     have ha':a=P.za2 (toHp h).pw (toHp h).np j o:=ha
     have hab:=P.zle (toHp h).pw (toHp h).np j o;rw [<-ha']at hab;refine zad (zfE h hw a hab) ?_;rintro ⟨⟨⟨(k:Int),(n:Int),(m:Int),_⟩,(e:Int),_⟩,_⟩ ⟨he,hH⟩;dsimp only at he hH ⊢
     refine zac (fun h5=>zab ?_) fun h5=>zae (zan.2 (by simp;omega)) ?_
     · simp only [qaz,ne_eq]at h5;simp only [qan];refine ⟨by trivial,by trivial,?_⟩
       rw [hW];exact e2.bad hlt (by rw [<-ha',<-he];exact h5)
     · simp only [qaA]at h5;have he0:P.atE (toHp h) a=0:=he.symm.trans h5
       have he0':=he0;rw [ha']at he0'
       refine zac (fun h6=>zab ?_) fun h6=>?_
       · simp only [qaC]at h6;rw [show decide (gk=2)=true from qac h6]at e2 hW
         simp only [qan];rw [hW,e2.big hlt he0',ha']
       · simp only [qaX,ne_eq]at h6;have hdf:decide (gk=2)=false:=qaj h6
         obtain ⟨-,a2,a3,a4,a5,a6⟩:=P.zgn he0;have ek:(P.atH (toHp h) a).k=k:=(congrArg P.Hd.k hH).symm
         have en:(P.atH (toHp h) a).n=n:=(congrArg P.Hd.n hH).symm
         have em:(P.atH (toHp h) a).m=m:=(congrArg P.Hd.m hH).symm
         rw [ek,en,em]at a2;rw [em]at a3 a4;rw [en]at a5 a6;rw [zcg k n m ⟨a3,a4⟩,qab,P.zcm a2];dsimp only;have w:W ((o:Int)+(n+1))=((o+(n.toNat+1):Nat):Int):=by rw [W_id (by omega)];omega
         rw [w];have hs:=e2;rw [hdf]at hs;have hs:=hs.step hlt he0';rw [<-ha',en]at hs;refine zab ?_;simp only [qaq];exact ⟨⟨o+(n.toNat+1),rfl,by rw [hdf];exact hs,by simp;omega,by omega⟩,by omega⟩
   · simp only [qaf]at h4;simp only [qan];rw [hW];exact e2.fin (by omega)
 · rintro r hr;refine zbp (fun x hx=>?_) fun y hy=>?_
   · subst hx;obtain ⟨g1,g2,g3⟩:=hr;obtain ⟨e1,e2⟩:=P.zoU h1 hin hnk g3;exact zab (by rw [e1,e2];exact ⟨g1,g2⟩)
   · subst hy;obtain ⟨e1,e2⟩:=P.zgL h1 hin hnk hr;exact zab (by rw [e1,e2];exact ⟨rfl,rfl⟩)
end Go.VI
namespace Go.VI
open Go
theorem getD_some{l:List Int}{k:Nat}(h:k<l.length):l[k]?=some (l.getD k 0):=by
 rw [qay,qap h];rfl
theorem zp3(h:HpD)(hw:HpW h):Tot (fun r=>r.1.1=P.zaL (toHp h)/\r.1.2.1=P.zbS (toHp h)) (F_r06_Starts (h,())):=by
 rw [zny];dsimp only
 rw [zar];refine zad (zbn _ hw) fun r hr=>?_
 obtain ⟨⟨(b:Bool),_⟩,_⟩:=r;have hb:b=P.okH (toHp h):=hr
 subst hb;dsimp only;have hlm:(toHp h).pages.length=h.2.2.1.length:=qai ..
 refine zac (fun h1=>zab ?_) fun h1=>?_
 · obtain ⟨e1,e2⟩:=P.zmk (show P.okH (toHp h)=false by simpa using h1)
   rw [e1,e2];exact ⟨rfl,rfl⟩
 simp only [qav]at h1;have hpl:=hw.pl;refine zad (P:=fun r=>match r with
  | .inl x=>x.1.1=[]/\x.1.2.1=P.zbS (toHp h)/\P.zaL (toHp h)=[]
  | .inr y=>P.zbS (toHp h)=0/\P.zaL (toHp h)=y.2.1.1) (zao (fun x=>∃ k:Nat,x.1.2.2.2.1=(k:Int)/\k<=h.2.2.1.length/\x.2.1.1=P.zbw (toHp h) k/\∀ t:Nat,t<k->P.zbc (toHp h) t=0) (fun x=>((h.2.2.1.length:Int)-x.1.2.2.2.1).toNat) ⟨0,rfl,by omega,rfl,fun t ht=>by omega⟩ ?_) ?_
 · rintro ⟨⟨q1,q2,_,(k':Int),_⟩,⟨(acc:List Int),_⟩,_⟩ ⟨k,e1,e2,e3,e4⟩;dsimp only at e1 e3 ⊢
   subst e1 e3;refine zac (fun h4=>?_) fun h4=>zab ?_
   · simp only [qaa]at h4;have hk:k<h.2.2.1.length:=by omega
     refine zad (ziw h hw k) ?_;rintro ⟨⟨(l:List Int),(e:Int),_⟩,_⟩ ⟨hl,he⟩;dsimp only at hl he ⊢
     have w:W ((k:Int)+1)=((k+1:Nat):Int):=by rw [W_id (by omega)];omega
     rw [w];refine zac (fun h5=>zab ?_) fun h5=>zae (zan.2 ?_) (zab ?_)
     · simp only [qaz,ne_eq]at h5;rw [he]at h5;have h19:P.zbc (toHp h) k=19:=P.zuI h1 (by rw [hlm];omega) h5
       obtain ⟨s1,s2⟩:=P.zoH h1 (by rw [hlm];exact hk) h5
       simp only [qan];exact ⟨by trivial,by rw [he,h19,s1],s2⟩
     · have l1:=P.zeU h1 k;have l2:=P.ze1 (i:=(k:Int)) h1
       rw [<-hl]at l2;omega
     · simp only [qaA]at h5;simp only [qaq];refine ⟨⟨k+1,rfl,by omega,by rw [P.zej,hl],fun t ht=>?_⟩,by omega⟩
       by_cases htk:t=k
       · subst htk;rw [<-he];exact h5
       · exact e4 t (by omega)
   · simp only [qaf]at h4;simp only [qan];have hk:k=h.2.2.1.length:=by omega
     obtain ⟨s1,s2⟩:=P.zd3 h1 (fun t ht=>e4 t (by rw [hlm]at ht;omega))
     rw [s1,s2,hlm,hk];exact ⟨rfl,rfl⟩
 · rintro r hr;refine zbp (fun x hx=>?_) fun y hy=>?_
   · subst hx;exact zab ⟨by rw [hr.2.2];exact hr.1,hr.2.1⟩
   · subst hy;exact zab ⟨hr.2.symm,hr.1.symm⟩
theorem zed(l:List Int)(a:Int)(hl:l.length<=100000000):Tot (fun r=>r.1.1=decide (a∈l)) (F_r06_Has (l,a,())):=by
 rw [zti];dsimp only
 refine zad (P:=fun r=>match r with
  | .inl x=>x.1.1=true/\a∈l
  | .inr _=>¬a∈l) (zao (fun x=>∃ k:Nat,x.1.2.1=(k:Int)/\k<=l.length/\¬a∈l.take k) (fun x=>((l.length:Int)-x.1.2.1).toNat) ⟨0,rfl,by omega,by simp⟩ ?_) ?_
 · rintro ⟨⟨(b:Bool),(k':Int),_⟩,_⟩ ⟨k,e1,e2,e3⟩;dsimp only at e1 ⊢
   subst e1;refine zac (fun h4=>?_) fun h4=>zab ?_
   · simp only [qaa]at h4;have hk:k<l.length:=by omega
     have w:W ((k:Int)+1)=((k+1:Nat):Int):=by rw [W_id (by omega)];omega
     rw [w,qad];refine zae (zaj.2 ⟨by omega,h4⟩) (zac (fun h5=>zab ?_) fun h5=>zab ?_)
     · simp only [qaC]at h5;simp only [qan];exact ⟨by trivial,by rw [<-h5];exact zaC hk⟩
     · simp only [qaX,ne_eq]at h5;simp only [qaq];refine ⟨⟨k+1,rfl,by omega,?_⟩,by omega⟩
       rw [P.zbk (getD_some hk),qas,qaw];rintro (c | c)
       · exact e3 c
       · exact h5 c.symm
   · simp only [qaf]at h4;simp only [qan];rwa [qa7 (by omega)]at e3
 · rintro r hr;refine zbp (fun x hx=>?_) fun y hy=>zab ?_
   · subst hx;exact zab (by rw [qac hr.2];exact hr.1)
   · subst hy;exact (qaj hr).symm
theorem zey(h:HpD)(hw:HpW h):Tot (fun r=>r.1.1=P.zag (toHp h)/\r.1.2.1=P.zbS (toHp h)) (F_r06_Objects (h,())):=by
 rw [zlP];dsimp only
 rw [zar];refine zad (zp3 h hw) ?_;rintro ⟨⟨(l:List Int),(e:Int),_⟩,_⟩ ⟨hl,he⟩;dsimp only at hl he ⊢
 have hlb:=P.zcG (toHp h);have hwb:=P.zml (toHp h);rw [<-hl]at hlb hwb;have hO:P.zag (toHp h)=P.zbW (toHp h) l:=by unfold P.zag;rw [hl]
 rw [hO];refine zad (P:=fun r=>r.2.1.1=P.zbW (toHp h) l) (zao (fun x=>∃ k:Nat,x.1.2.1=(k:Int)/\k<=l.length/\x.2.1.1=P.zbW (toHp h) (l.take k)) (fun x=>((l.length:Int)-x.1.2.1).toNat) ⟨0,rfl,by omega,rfl⟩ ?_) fun r hr=>zab ⟨hr,he⟩
 rintro ⟨⟨_,(k':Int),_⟩,⟨(acc:List Int),_⟩,_⟩ ⟨k,e1,e2,e3⟩;dsimp only at e1 e3 ⊢
 subst e1 e3;refine zac (fun h4=>?_) fun h4=>zab ?_
 · simp only [qaa]at h4;have hk:k<l.length:=by omega
   have w:W ((k:Int)+1)=((k+1:Nat):Int):=by rw [W_id (by omega)];omega
   have hx:=getD_some hk;rw [w,qad];have hin:inB (k:Int) l.length=true:=zaj.2 ⟨by omega,h4⟩
   refine zae hin (zad (zfE h hw (l.getD k 0) (hwb _ (zaC hk))) ?_);rintro ⟨⟨⟨(hk':Int),(n:Int),(m:Int),_⟩,(e':Int),_⟩,_⟩ ⟨-,hH⟩;dsimp only at hH ⊢
   have ek:(P.atH (toHp h) (l.getD k 0)).k=hk':=(congrArg P.Hd.k hH).symm
   have hol:=P.zwm (toHp h) l k;refine zae (zaB fun _=>hin) (zae (zaB fun _=>zan.2 (by simp;omega)) (zac (fun h5=>zab ?_) fun h5=>zab ?_))
   · simp only [qaz,ne_eq]at h5;simp only [qaq];exact ⟨⟨k+1,rfl,by omega,(P.objs_in hx (by rw [ek];exact h5)).symm⟩,by omega⟩
   · simp only [qaA]at h5;simp only [qaq];exact ⟨⟨k+1,rfl,by omega,(P.zwl hx (by rw [ek];exact h5)).symm⟩,by omega⟩
 · simp only [qaf]at h4;simp only [qan];rw [qa7 (by omega)]
theorem zp4(h:HpD)(hw:HpW h)(a:Int)(ha:0<=a/\a<18446744073709551616):Tot (fun r=>r.1.1=P.zbM (toHp h) a/\r.1.2.1=P.zvq (toHp h) a) (F_r05_Fields (h,a,())):=by
 rw [znz];dsimp only
 rw [zar];refine zad (zhq h hw a ha) ?_;rintro ⟨⟨⟨(k:Int),(n:Int),(m:Int),_⟩,(e:Int),_⟩,_⟩ ⟨he,hH⟩;dsimp only at he hH ⊢
 have en:(P.getH (toHp h) a).n=n:=(congrArg P.Hd.n hH).symm
 unfold P.zbM P.zvq;rw [<-he,en];refine zac (fun h1=>zab ?_) fun h1=>?_
 · simp only [qaz,ne_eq]at h1;rw [if_neg h1,if_neg h1];exact ⟨rfl,rfl⟩
 · simp only [qaA]at h1;rw [if_pos h1,if_pos h1];obtain ⟨-,-,-,-,-,g6,g7,-,-,-⟩:=P.zrh (he.symm.trans h1);have w:U (a+1)=a+1:=U_id (by omega)
   rw [w];exact zad (zmX h.2.1 (a+1) n hw.wl (by omega)) fun r hr=>zab hr
end Go.VI
namespace Go.VI
open Go
theorem znp(h:HpD)(j:Nat):P.pgAt (toHp h) (j:Int)=toPg (h.2.2.1.getD j PG0):=by
 unfold P.pgAt;rw [qad];exact zaR _ _
theorem zrF(h:HpD)(hw:HpW h)(hok:P.okH (toHp h)=true)(j:Nat)(hj:j<h.2.2.1.length)(l:List Int)(hl:l.length<=100000)(hlw:P.WB l):Tot (fun r=>r.1.1=P.clsV (toHp h) j l) (F_r09_class (h,(j:Int),l,())):=by
 obtain ⟨p1,p2,p3,p4,p5,p6⟩:=P.zaU (zfJ hok);have hcf:confB h.1.1 h.1.2.1=true:=by rw [<-zaH];exact p1
 have c3:=zaV.1 hcf;rw [zo6];dsimp only
 rw [zar];refine zad (P:=fun r=>match r with
  | .inl x=>x.1.1=P.clsV (toHp h) j l
  | .inr _=>P.clsV (toHp h) j l=0) (zao (fun x=>∃ k:Nat,x.1.2.1=(k:Int)/\k<=l.length/\P.zpL (P.clsB (toHp h) j) (l.drop k)=P.clsV (toHp h) j l) (fun x=>((l.length:Int)-x.1.2.1).toNat) ⟨0,rfl,by omega,rfl⟩ ?_) ?_
 · rintro ⟨⟨(b:Int),(k':Int),_⟩,_⟩ ⟨k,e1,e2,e3⟩;dsimp only at e1 ⊢
   subst e1;refine zac (fun h4=>?_) fun h4=>zab ?_
   · simp only [qaa]at h4;have hk:k<l.length:=by omega
     have w:W ((k:Int)+1)=((k+1:Nat):Int):=by rw [W_id (by omega)];omega
     rw [P.zsD (getD_some hk)]at e3;rw [w,qad];have hin:inB (k:Int) l.length=true:=zaj.2 ⟨by omega,h4⟩
     have hinp:inB (j:Int) h.2.2.1.length=true:=zaj.2 ⟨by omega,by omega⟩
     refine zae hin (zad (zfE h hw (l.getD k 0) (hlw _ (zaC hk))) ?_);rintro ⟨⟨⟨(hk':Int),(n:Int),(m:Int),_⟩,(e':Int),_⟩,_⟩ ⟨-,hH⟩;dsimp only at hH ⊢
     have ek:(P.atH (toHp h) (l.getD k 0)).k=hk':=(congrArg P.Hd.k hH).symm
     have en:(P.atH (toHp h) (l.getD k 0)).n=n:=(congrArg P.Hd.n hH).symm
     have em:(P.atH (toHp h) (l.getD k 0)).m=m:=(congrArg P.Hd.m hH).symm
     have hmb:=P.atH_m (toHp h) (l.getD k 0);rw [em]at hmb;rw [zcg hk' n m hmb,qab];dsimp only;rw [zc6,qab];dsimp only;have hq:W (h.1.1.tdiv 4)=h.1.1 / 4:=by rw [qbv (by omega)];exact W_id (by omega)
     have hsm:P.zdG (toHp h).pw (toHp h).np=h.1.1 / 4:=P.znd p1
     rw [hcf,if_pos rfl,hq,hinp,hin,qad];have hC:P.clsB (toHp h) j (l.getD k 0)=((h.2.2.1.getD j PG0).1 == 1 && !decide (P.zaO hk' n m<=h.1.1 / 4) || ((h.2.2.1.getD j PG0).1 == 2&&hk' == 0)):=by
      unfold P.clsB;rw [hsm,ek,en,em,znp]
      rfl
     rw [hC]at e3;generalize (h.2.2.1.getD j PG0).1=gk at e3 ⊢
     refine zae rfl (zae ?_ (zae ?_ (zae ?_ (zac (fun h5=>zab ?_) fun h5=>zab ?_))))
     · cases (gk == 1) <;> cases (decide (P.zaO hk' n m<=h.1.1 / 4)) <;> rfl
     · cases (gk == 1) <;> rfl
     · cases (gk == 1) <;> cases (gk == 2) <;> cases (decide (P.zaO hk' n m<=h.1.1 / 4)) <;> cases (hk' == 0) <;> rfl
     · simp only [qan];have:((gk == 1 && !decide (P.zaO hk' n m<=h.1.1 / 4)) || (gk == 2&&hk' == 0))=true:=by
        revert h5
        cases (gk == 1) <;> cases (gk == 2) <;> cases (decide (P.zaO hk' n m<=h.1.1 / 4)) <;> cases (hk' == 0) <;> simp
       rw [if_pos this]at e3;exact e3
     · simp only [qaq];have:((gk == 1 && !decide (P.zaO hk' n m<=h.1.1 / 4)) || (gk == 2&&hk' == 0))=false:=by
        revert h5
        cases h1:(gk == 1) <;> cases h2:(gk == 2) <;> cases (decide (P.zaO hk' n m<=h.1.1 / 4)) <;> cases (hk' == 0) <;> simp
        all_goals (simp only [qaC]at h1 h2;omega)
       rw [if_neg (by rw [this];decide)]at e3
       exact ⟨⟨k+1,rfl,by omega,e3⟩,by omega⟩
   · simp only [qaf]at h4;rw [P.zpK (by omega)]at e3
     simp only [qan];exact e3.symm
 · rintro r hr;refine zbp (fun x hx=>?_) fun y hy=>zab ?_
   · subst hx;exact zab hr
   · subst hy;exact hr.symm
theorem ztK(h:HpD)(hw:HpW h)(hok:P.okH (toHp h)=true)(j:Nat)(hj:j<h.2.2.1.length):Tot (fun r=>r.1.1=(P.zbr (toHp h).pages j:Int)) (F_r09_head (h,(j:Int),())):=by
 have hz:=P.zvi hok;have hpl:=hw.pl;have hpd:∀ t:Nat,((toHp h).pages.getD t P.Pg.zero).kind=(h.2.2.1.getD t PG0).1:=fun t=>by
  show ((h.2.2.1.map toPg).getD t P.Pg.zero).kind=_
  rw [zaR];rfl
 rw [zqQ];dsimp only
 refine zad (P:=fun r=>r.1.1=(P.zbr (toHp h).pages j:Int)) (zao (fun x=>∃ k:Nat,x.1.1=(k:Int)/\k<=j/\P.zbr (toHp h).pages k=P.zbr (toHp h).pages j) (fun x=>x.1.1.toNat) ⟨j,rfl,by omega,rfl⟩ ?_) fun r hr=>zab hr
 rintro ⟨⟨(k':Int),_⟩,_⟩ ⟨k,e1,e2,e3⟩;dsimp only at e1 ⊢
 subst e1;rw [qad];refine zae (zaj.2 ⟨by omega,by omega⟩) (zac (fun h4=>zab ?_) fun h4=>zab ?_)
 · simp only [qaC]at h4;cases k with
   | zero=>rw [hpd]at hz;exact absurd h4 hz
   | succ k=>
    have w:W (((k+1:Nat):Int)-1)=(k:Int):=by rw [W_id (by omega)];omega
    rw [w];simp only [qaq];refine ⟨⟨k,rfl,by omega,?_⟩,by omega⟩
    rw [<-e3,P.zbr,if_pos (by rw [hpd];exact h4)]
 · simp only [qaX,ne_eq]at h4;simp only [qan];rw [<-e3];cases k with
   | zero=>rfl
   | succ k=>rw [P.zbr,if_neg (by rw [hpd];exact h4)]
theorem ztI(h:HpD)(hw:HpW h)(hok:P.okH (toHp h)=true)(j:Nat)(hj:j<h.2.2.1.length)(l:List Int)(hl:l.length<=100000)(hla:∀ a∈l,P.atE (toHp h) a=0):Tot (fun r=>r.1.1=P.zf4 (toHp h) j l) (F_r09_used (h,(j:Int),l,())):=by
 obtain ⟨p1,p2,p3,p4,p5,p6⟩:=P.zaU (zfJ hok);have c3:16<=h.1.1/\h.1.1<=64/\h.1.1 % 4=0/\8<=h.1.2.1/\h.1.2.1<=64:=P.zai p1
 have hlm:(toHp h).pages.length=h.2.2.1.length:=qai ..
 have hjn:(j:Int)<h.1.2.1:=by
  have:((toHp h).pages.length:Int)=h.1.2.1:=p3
  omega
 obtain ⟨kp1,kp2⟩:=P.zaY (p:=(j:Int)) (show P.confB h.1.1 h.1.2.1=true from p1) (by omega) hjn
 obtain ⟨cp1,cp2⟩:=P.conf_prod (show P.confB h.1.1 h.1.2.1=true from p1)
 have epw:(toHp h).pw=h.1.1:=rfl
 rw [zqO];dsimp only
 rw [zar];refine zae (qac (by omega)) (zae (zan.2 (by omega)) (zad (P:=fun r=>r.2.2.1=P.zf4 (toHp h) j l) (zao (fun x=>∃ k:Nat,x.1.1=(k:Int)/\k<=l.length/\x.2.2.1=P.zf4 (toHp h) j (l.take k)) (fun x=>((l.length:Int)-x.1.1).toNat) ⟨0,rfl,by omega,(P.zuh (toHp h) j).symm⟩ ?_) fun r hr=>zab hr))
 rintro ⟨⟨(k':Int),_⟩,_,(us:List Bool),_⟩ ⟨k,e1,e2,e3⟩;dsimp only at e1 e3 ⊢
 subst e1 e3;refine zac (fun h4=>?_) fun h4=>zab ?_
 · simp only [qaa]at h4;have hk:k<l.length:=by omega
   have w:W ((k:Int)+1)=((k+1:Nat):Int):=by rw [W_id (by omega)];omega
   have hin:inB (k:Int) l.length=true:=zaj.2 ⟨by omega,h4⟩
   have hx:=getD_some hk;have hat:=hla _ (zaC (d:=0) hk)
   have hbd:=P.zvw hat;rw [w,qad,hin];generalize l.getD k 0=a at hx hat hbd
   refine zae rfl (zad (zfE h hw a (by omega)) ?_)
   rintro ⟨⟨⟨(hk':Int),(n:Int),(m:Int),_⟩,(e':Int),_⟩,_⟩ ⟨-,hH⟩;dsimp only at hH ⊢
   have ek:(P.atH (toHp h) a).k=hk':=(congrArg P.Hd.k hH).symm
   have en:(P.atH (toHp h) a).n=n:=(congrArg P.Hd.n hH).symm
   have em:(P.atH (toHp h) a).m=m:=(congrArg P.Hd.m hH).symm
   have hmb:=P.atH_m (toHp h) a;rw [em]at hmb;rw [zcg hk' n m hmb,qab];dsimp only;have hZ:(bif hk' == 0 then 1 else P.zaO hk' n m)=P.zc3 (toHp h) a:=by
    unfold P.zc3;rw [ek,en,em];by_cases q:hk'=0
    · rw [if_pos q,show (hk' == 0)=true by simp [q]];rfl
    · rw [if_neg q,show (hk' == 0)=false by simp [q]];rfl
   have hzb:=P.zvP (toHp h) a;rw [hZ];refine zad (P:=fun r=>r.2.2.1=P.zf4 (toHp h) j (l.take (k+1))) (zao (fun x=>∃ z:Nat,x.1.1=(z:Int)/\(z:Int)<=P.zc3 (toHp h) a/\x.2.2.1=P.zhT (toHp h) j (l.take k) a z) (fun x=>(P.zc3 (toHp h) a-x.1.1).toNat) ⟨0,rfl,by omega,(P.zsT (toHp h) j (l.take k) a).symm⟩ ?_) fun r hr=>zab ?_
   · rintro ⟨⟨(z':Int),_⟩,_,(us:List Bool),_⟩ ⟨z,f1,f2,f3⟩;dsimp only at f1 f3 ⊢
     subst f1 f3;refine zac (fun h5=>?_) fun h5=>zab ?_
     · simp only [qaa]at h5;have wz:W ((z:Int)+1)=((z+1:Nat):Int):=by rw [W_id (by omega)];omega
       have t1:W a=a:=W_id (by omega)
       have t2:W (a-4096)=a-4096:=W_id (by omega)
       have t3:W (a-4096+z)=a-4096+z:=W_id (by omega)
       have t4:W ((j:Int)*h.1.1)=j*h.1.1:=W_id (by omega)
       have t5:W (a-4096+z-(j:Int)*h.1.1)=a-4096+z-j*h.1.1:=W_id (by omega)
       rw [wz,t1,t2,t3,t4,t5,P.zoC,epw];simp only [cand];refine zae rfl (zae (zaB fun hc=>?_) (zac (fun hc=>zab ?_) fun hc=>zab ?_))
       · simp only [qae,qaa]at hc;exact zaj.2 ⟨by omega,hc.2⟩
       · simp only [qae,qaa]at hc;obtain ⟨T,hT⟩:=qaQ (show 0<=a-4096+z-(j:Int)*h.1.1 by omega)
         rw [hT,qad];simp only [qaq];refine ⟨⟨z+1,rfl,by omega,?_⟩,by omega⟩
         exact P.zvQ (by rw [epw];omega) (by rw [epw];omega)
       · simp only [qbF,qaf]at hc;simp only [qaq];refine ⟨⟨z+1,rfl,by omega,?_⟩,by omega⟩
         exact (P.zui (by rw [epw];omega)).symm
     · simp only [qaf]at h5;simp only [qan];rw [P.zbk hx];exact P.zuj (by omega)
   · simp only [qaq];exact ⟨⟨k+1,rfl,by omega,hr⟩,by omega⟩
 · simp only [qaf]at h4;simp only [qan];rw [qa7 (by omega)]
end Go.VI
namespace Go.VI
open Go
def toFd(x:Int×Int×Int×Unit):P.Fd:=⟨x.1,x.2.1,x.2.2.1⟩
theorem ztL(h:HpD)(hw:HpW h)(hok:P.okH (toHp h)=true)(j:Nat)(hj:j<h.2.2.1.length):Tot (fun r=>r.1.1=P.zk4 (toHp h) j) (F_r09_dirt (h,(j:Int),())):=by
 obtain ⟨p1,p2,p3,p4,p5,p6⟩:=P.zaU (zfJ hok);have c3:16<=h.1.1/\h.1.1<=64/\h.1.1 % 4=0/\8<=h.1.2.1/\h.1.2.1<=64:=P.zai p1
 have hlm:(toHp h).pages.length=h.2.2.1.length:=qai ..
 have hjn:(j:Int)<h.1.2.1:=by
  have:((toHp h).pages.length:Int)=h.1.2.1:=p3
  omega
 obtain ⟨kp1,kp2⟩:=P.zaY (p:=(j:Int)) (show P.confB h.1.1 h.1.2.1=true from p1) (by omega) hjn
 obtain ⟨cp1,cp2⟩:=P.conf_prod (show P.confB h.1.1 h.1.2.1=true from p1)
 rw [zqR];dsimp only
 rw [zar];refine zad (ztK h hw hok j hj) ?_;rintro ⟨⟨(q:Int),_⟩,_⟩ hq;dsimp only at hq ⊢
 subst hq;refine zad (ziw h hw _) ?_;rintro ⟨⟨(l:List Int),(e:Int),_⟩,_⟩ ⟨hl,-⟩;dsimp only at hl ⊢
 subst hl;refine zad (ztI h hw hok j hj _ (by have:=P.ze1 (i:=(P.zbr (toHp h).pages j:Int)) hok;omega) (fun a ha=>P.zdJ ha)) ?_
 rintro ⟨⟨(us:List Bool),_⟩,_⟩ hus;dsimp only at hus ⊢
 have hul:us.length=h.1.1.toNat:=by rw [hus];exact P.zoB _ _ _
 have hD:P.zk4 (toHp h) j=P.zc1 (toHp h) j 0 us:=by unfold P.zk4;rw [hus]
 rw [hD];refine zad (P:=fun r=>match r with
  | .inl x=>x.1.1=P.zc1 (toHp h) j 0 us
  | .inr _=>P.zc1 (toHp h) j 0 us=0) (zao (fun x=>∃ k:Nat,x.1.2.1=(k:Int)/\k<=us.length/\P.zc1 (toHp h) j k (us.drop k)=P.zc1 (toHp h) j 0 us) (fun x=>((us.length:Int)-x.1.2.1).toNat) ⟨0,rfl,by omega,rfl⟩ ?_) ?_
 · rintro ⟨⟨(b:Int),(k':Int),_⟩,_⟩ ⟨k,e1,e2,e3⟩;dsimp only at e1 ⊢
   subst e1;refine zac (fun h4=>?_) fun h4=>zab ?_
   · simp only [qaa]at h4;have hk:k<us.length:=by omega
     have w:W ((k:Int)+1)=((k+1:Nat):Int):=by rw [W_id (by omega)];omega
     have hx:us[k]?=some (us.getD k false):=by rw [qay,qap hk];rfl
     rw [P.dirt_at hx]at e3;rw [w,qad];generalize us.getD k false=u at e3 ⊢
     refine zae (zaj.2 ⟨by omega,h4⟩) (zac (fun h5=>?_) fun h5=>zab ?_)
     · simp only [qao]at h5;subst h5;have h142:Tot (fun r=>r.1.1=P.zjq (toHp h) j k) (F_r06_Word (h,(j:Int),(k:Int),())):=by
        rw [zqV];dsimp only
        rw [zar,zqU];dsimp only
        refine zad (P:=fun r=>r.1.1=P.zjq (toHp h) j k) ?_ fun r hr=>zab hr
        refine zad (zht h.1.1 h.1.2.1 j k) ?_;rintro ⟨⟨(a:Int),_,_⟩,_⟩ ⟨ha,-⟩;dsimp only at ha ⊢
        have hab:=P.zle (toHp h).pw (toHp h).np j k;have ha':a=P.za2 (toHp h).pw (toHp h).np j k:=ha
        rw [<-ha']at hab;refine zad (zcP h.2.1 a hw.wl hab) fun r hr=>zab ?_
        unfold P.zjq;rw [<-ha'];exact hr.1
       refine zad h142 ?_;rintro ⟨⟨(v:Int),_⟩,_⟩ hv;dsimp only at hv ⊢
       rw [<-hv]at e3;refine zac (fun h6=>?_) fun h6=>zab ?_
       · simp only [qaz,ne_eq]at h6;rw [if_pos ⟨rfl,h6⟩]at e3;rw [zlO];dsimp only
         rw [qab];have v1:W ((j:Int)*h.1.1)=j*h.1.1:=W_id (by omega)
         have v2:W (4096+(j:Int)*h.1.1)=4096+j*h.1.1:=W_id (by omega)
         have v3:W (4096+(j:Int)*h.1.1+k)=4096+j*h.1.1+k:=W_id (by omega)
         have v4:U (4096+(j:Int)*h.1.1+k)=4096+j*h.1.1+k:=U_id (by omega)
         dsimp only;rw [v1,v2,v3,v4];refine zab ?_;simp only [qan];exact e3
       · simp only [qaA]at h6;rw [if_neg (fun c=>c.2 h6)]at e3
         simp only [qaq];exact ⟨⟨k+1,rfl,by omega,e3⟩,by omega⟩
     · simp only [qav]at h5;rw [if_neg (fun c=>by rw [h5]at c;cases c.1)]at e3
       simp only [qaq];exact ⟨⟨k+1,rfl,by omega,e3⟩,by omega⟩
   · simp only [qaf]at h4;rw [P.zwC (by omega)]at e3
     simp only [qan];exact e3.symm
 · rintro r hr;refine zbp (fun x hx=>?_) fun y hy=>zab ?_
   · subst hx;exact zab hr
   · subst hy;exact hr.symm
theorem ztJ(h:HpD)(hw:HpW h)(hok:P.okH (toHp h)=true)(j:Nat)(hj:j<h.2.2.1.length):Tot (fun r=>toFd r.1.1=P.ze2 (toHp h) j) (F_r09_page (h,(j:Int),())):=by
 rw [zqP];dsimp only
 rw [zar,qad];have hin:inB (j:Int) h.2.2.1.length=true:=zaj.2 ⟨by omega,by omega⟩
 have hk:(P.pgAt (toHp h) (j:Int)).kind=(h.2.2.1.getD j PG0).1:=by rw [znp];rfl
 have hs:(P.pgAt (toHp h) (j:Int)).space=(h.2.2.1.getD j PG0).2.1:=by rw [znp];rfl
 have esp:(toHp h).space=h.2.2.2.1:=rfl
 unfold P.ze2;rw [hk,hs,esp];generalize h.2.2.1.getD j PG0=G
 obtain ⟨gk,gs,gu,gp,_⟩:=G;dsimp only;simp only [cand];refine zae hin (zae (zaB fun _=>hin) (zac (fun h1=>zab ?_) fun h1=>?_))
 · simp only [qae,qaz,ne_eq]at h1;rw [if_pos h1];rfl
 have h1':¬(¬gk=0/\¬gs=h.2.2.2.1):=by
  rintro ⟨c1,c2⟩;rw [show (gk != 0)=true by simp [c1],show (gs != h.2.2.2.1)=true by simp [c2]]at h1
  cases h1
 rw [if_neg h1'];refine zad (ziw h hw j) ?_;rintro ⟨⟨(l:List Int),(e:Int),_⟩,_⟩ ⟨hl,he⟩;dsimp only at hl he ⊢
 rw [<-he,<-hl];refine zac (fun h2=>zab ?_) fun h2=>?_
 · simp only [qaz,ne_eq]at h2;rw [if_pos h2];rfl
 simp only [qaA]at h2;rw [if_neg (fun c=>c h2)]
 have hll:=P.ze1 (i:=(j:Int)) hok
 have hlw:=P.zsj (toHp h) (j:Int);rw [<-hl]at hll hlw;refine zad (zrF h hw hok j hj l (by omega) hlw) ?_
 rintro ⟨⟨(c:Int),_⟩,_⟩ hc;dsimp only at hc ⊢
 rw [<-hc];refine zac (fun h3=>zab ?_) fun h3=>?_
 · simp only [qaz,ne_eq]at h3;rw [if_pos h3];rfl
 simp only [qaA]at h3;rw [if_neg (fun c=>c h3)]
 refine zad (ztL h hw hok j hj) ?_;rintro ⟨⟨(dv:Int),_⟩,_⟩ hdv;dsimp only at hdv ⊢
 rw [<-hdv];refine zac (fun h4=>zab ?_) fun h4=>zab ?_
 · simp only [qaz,ne_eq]at h4;rw [if_pos h4];rfl
 · simp only [qaA]at h4;rw [if_neg (fun c=>c h4)];rfl
theorem zl7(h:HpD)(hw:HpW h):Tot (fun r=>toFd r.1.1=P.zbV (toHp h)) (F_r09_pointers (h,())):=by
 rw [zkw];dsimp only
 rw [zar];refine zad (zey h hw) ?_;rintro ⟨⟨(l:List Int),_,_⟩,_⟩ ⟨hl,-⟩;dsimp only at hl ⊢
 have hO:P.zbV (toHp h)=P.zcn (toHp h) l l:=by unfold P.zbV;rw [<-hl]
 have hll:l.length<=4096/\∀ a∈l,P.atE (toHp h) a=0:=by
  rw [hl];unfold P.zag P.zbW;refine ⟨qaD (qbz _ _) (P.zcG _),fun a ha=>P.zfw (qbG.1 ha).1⟩
 rw [hO];refine zad (P:=fun r=>match r with
  | .inl x=>toFd x.2.2.1=P.zcn (toHp h) l l
  | .inr _=>P.zcn (toHp h) l l=P.Fd.none) (zao (fun x=>∃ k:Nat,x.1.1=(k:Int)/\k<=l.length/\P.zcn (toHp h) l (l.drop k)=P.zcn (toHp h) l l) (fun x=>((l.length:Int)-x.1.1).toNat) ⟨0,rfl,by omega,rfl⟩ ?_) ?_
 · rintro ⟨⟨(k':Int),_⟩,_,fd,_⟩ ⟨k,e1,e2,e3⟩;dsimp only at e1 ⊢
   subst e1;refine zac (fun h4=>?_) fun h4=>zab ?_
   · simp only [qaa]at h4;have hk:k<l.length:=by omega
     have w:W ((k:Int)+1)=((k+1:Nat):Int):=by rw [W_id (by omega)];omega
     have hin:inB (k:Int) l.length=true:=zaj.2 ⟨by omega,h4⟩
     rw [P.zuC (getD_some hk)]at e3;rw [w,qad,hin];have hat:=hll.2 _ (zaC (d:=0) hk)
     have hbd:=P.zvw hat;generalize l.getD k 0=a at e3 hat hbd ⊢
     refine zae rfl (zad (zhq h hw a (by omega)) ?_)
     rintro ⟨⟨⟨(hk':Int),(n:Int),(m:Int),_⟩,(e':Int),_⟩,_⟩ ⟨-,hH⟩;dsimp only at hH ⊢
     have hmb:=P.getH_m (toHp h) a;rw [<-hH]at e3 hmb;have hmb:0<=m/\m<4294967296:=hmb
     refine zae rfl (zad (zp4 h hw a (by omega)) ?_)
     rintro ⟨⟨(fs:List Int),_,_⟩,_⟩ ⟨hfs,-⟩;dsimp only at hfs ⊢
     have hfl:=P.zrn (toHp h) a;have hwl:(toHp h).words.length<=100000000:=hw.wl
     rw [<-hfs]at e3 hfl;refine zad (P:=fun r=>match r with
      | .inl x=>∃ t:Nat,P.za1 l (toHd (hk',n,m,())) 0 fs=some t/\toFd x.2.2.1=P.zqG (toHp h) (a+1+t)
      | .inr _=>P.za1 l (toHd (hk',n,m,())) 0 fs=none) (zao (fun x=>∃ t:Nat,x.1.1=(t:Int)/\t<=fs.length/\P.za1 l (toHd (hk',n,m,())) t (fs.drop t)=P.za1 l (toHd (hk',n,m,())) 0 fs) (fun x=>((fs.length:Int)-x.1.1).toNat) ⟨0,rfl,by omega,rfl⟩ ?_) ?_
     · rintro ⟨⟨(t':Int),_⟩,_,fd2,_⟩ ⟨t,f1,f2,f3⟩;dsimp only at f1 ⊢
       subst f1;refine zac (fun h5=>?_) fun h5=>zab ?_
       · simp only [qaa]at h5;have ht:t<fs.length:=by omega
         have wt:W ((t:Int)+1)=((t+1:Nat):Int):=by rw [W_id (by omega)];omega
         have hin2:inB (t:Int) fs.length=true:=zaj.2 ⟨by omega,h5⟩
         rw [P.bad_at (getD_some ht)]at f3;rw [wt,qad,hin2];generalize fs.getD t 0=f at f3 ⊢
         refine zad (zez hk' n m t hmb) ?_;rintro ⟨⟨(pt:Bool),_⟩,_⟩ hpt;dsimp only at hpt ⊢
         have hpt':P.ptrB (toHd (hk',n,m,())).k (toHd (hk',n,m,())).n (toHd (hk',n,m,())).m t=pt:=hpt.symm
         rw [hpt']at f3;have next:(¬(pt=true/\¬f=0/\¬f∈l))->Tot (Sum.elim (fun x':(Int×Unit)×Unit×(Int×Int×Int×Unit)×Unit=>(∃ t:Nat,x'.1.1=(t:Int)/\t<=fs.length/\P.za1 l (toHd (hk',n,m,())) t (fs.drop t)=P.za1 l (toHd (hk',n,m,())) 0 fs)/\((fs.length:Int)-x'.1.1).toNat<((fs.length:Int)-(t:Int)).toNat) fun (r:Unit×Unit×(Int×Int×Int×Unit)×Unit⊕Unit×Unit×(Int×Int×Int×Unit)×Unit)=>match r with
          | .inl x=>∃ t:Nat,P.za1 l (toHd (hk',n,m,())) 0 fs=some t/\toFd x.2.2.1=P.zqG (toHp h) (a+1+t)
          | .inr _=>P.za1 l (toHd (hk',n,m,())) 0 fs=none) (some (Sum.inl ((((t+1:Nat):Int),()),(),(fd2.1,fd2.2.1,fd2.2.2.1,()),()))):=fun hno=>by
          rw [if_neg hno]at f3;refine zab ?_;simp only [qaq];exact ⟨⟨t+1,rfl,by omega,f3⟩,by omega⟩
         refine zae (zaB fun _=>rfl) (zae (zaB fun _=>zaB fun _=>rfl) (zac (fun h6=>zac (fun h7=>?_) fun h7=>next ?_) fun h6=>next ?_))
         · simp only [qaz,ne_eq]at h7;refine zad (zed l f (by omega)) ?_
           rintro ⟨⟨(bb:Bool),_⟩,_⟩ hbb;dsimp only at hbb ⊢
           refine zae (zaB fun _=>rfl) (zac (fun h8=>?_) fun h8=>next ?_)
           · simp only [qao]at h8;rw [h8]at hbb;have hnm:¬f∈l:=qa3 hbb.symm;rw [if_pos ⟨h6,h7,hnm⟩]at f3;have u1:U (a+1)=a+1:=U_id (by omega)
             have u2:U (t:Int)=t:=U_id (by omega)
             have u3:U (a+1+(t:Int))=a+1+t:=U_id (by omega)
             rw [u1,u2,u3];refine zad (zhs h.1.1 h.1.2.1 (a+1+t) (by omega)) ?_
             rintro ⟨⟨(pi:Int),_,_,_⟩,_⟩ ⟨hpi,-,-⟩;dsimp only at hpi ⊢
             refine zab ?_;simp only [qan];refine ⟨t,f3.symm,?_⟩;unfold P.zqG;rw [show (toHp h).pw=h.1.1 from rfl,show (toHp h).np=h.1.2.1 from rfl,<-hpi];rfl
           · simp only [qav]at h8;rw [h8]at hbb;exact fun c=>c.2.2 (qar hbb.symm)
         · simp only [qaA]at h7;exact fun c=>c.2.1 h7
         · exact fun c=>by rw [c.1]at h6;cases h6
       · simp only [qaf]at h5;rw [P.bad_end (by omega)]at f3
         simp only [qan];exact f3.symm
     · rintro r hr;refine zbp (fun x hx=>zab ?_) fun y hy=>zab ?_
       · subst hx;obtain ⟨t,ht,hfd⟩:=hr;rw [ht]at e3;simp only [qan];exact hfd.trans e3
       · subst hy;have hr:P.za1 l (toHd (hk',n,m,())) 0 fs=none:=hr
         rw [hr]at e3;simp only [qaq];exact ⟨⟨k+1,rfl,by omega,e3⟩,by omega⟩
   · simp only [qaf]at h4;rw [P.zsg (by omega)]at e3
     simp only [qan];exact e3.symm
 · rintro r hr;refine zbp (fun x hx=>zab ?_) fun y hy=>zab ?_
   · subst hx;exact hr
   · subst hy;exact hr.symm
end Go.VI
namespace Go.VI
open Go
theorem zlh(h:HpD)(hw:HpW h):Tot (fun r=>toFd r.1.1=P.zfj (toHp h)) (F_r09_Check (h,())):=by
 rw [zo7];dsimp only
 rw [zar];refine zad (zbn _ hw) fun r hr=>?_
 obtain ⟨⟨(b:Bool),_⟩,_⟩:=r;have hb:b=P.okH (toHp h):=hr
 subst hb;dsimp only;unfold P.zfj;refine zac (fun h1=>zab ?_) fun h1=>?_
 · simp only [qao]at h1;rw [if_neg (by rw [h1];decide)];rfl
 simp only [qav]at h1;rw [if_pos h1];have hlm:(toHp h).pages.length=h.2.2.1.length:=qai ..
 have hpl:=hw.pl;rw [hlm];refine zad (P:=fun r=>match r with
  | .inl x=>toFd x.2.2.1=P.zaQ (toHp h) 0 h.2.2.1.length/\¬(toFd x.2.2.1).fault=0
  | .inr _=>P.zaQ (toHp h) 0 h.2.2.1.length=P.Fd.none) (zao (fun x=>∃ k:Nat,x.1.1=(k:Int)/\k<=h.2.2.1.length/\P.zaQ (toHp h) k (h.2.2.1.length-k)=P.zaQ (toHp h) 0 h.2.2.1.length) (fun x=>((h.2.2.1.length:Int)-x.1.1).toNat) ⟨0,rfl,by omega,rfl⟩ ?_) ?_
 · rintro ⟨⟨(k':Int),_⟩,_,fd,_⟩ ⟨k,e1,e2,e3⟩;dsimp only at e1 ⊢
   subst e1;refine zac (fun h4=>?_) fun h4=>zab ?_
   · simp only [qaa]at h4;have hk:k<h.2.2.1.length:=by omega
     have w:W ((k:Int)+1)=((k+1:Nat):Int):=by rw [W_id (by omega)];omega
     rw [w];rw [show h.2.2.1.length-k=(h.2.2.1.length-(k+1))+1 by omega,P.zaQ]at e3
     refine zad (ztJ h hw h1 k hk) ?_;rintro ⟨⟨⟨(f1:Int),(f2:Int),(f3:Int),_⟩,_⟩,_⟩ hf;dsimp only at hf ⊢
     rw [<-hf]at e3;have hff:(toFd (f1,f2,f3,())).fault=f1:=rfl
     refine zac (fun h5=>zab ?_) fun h5=>zab ?_
     · simp only [qaz,ne_eq]at h5;have e3:=(if_pos (show ¬(toFd (f1,f2,f3,())).fault=0 from h5)).symm.trans e3
       simp only [qan];exact ⟨e3,h5⟩
     · simp only [qaA]at h5;have e3:=(if_neg (show ¬¬(toFd (f1,f2,f3,())).fault=0 from fun c=>c h5)).symm.trans e3
       simp only [qaq];exact ⟨⟨k+1,rfl,by omega,e3⟩,by omega⟩
   · simp only [qaf]at h4;rw [show h.2.2.1.length-k=0 by omega,P.zaQ]at e3
     simp only [qan];exact e3.symm
 · rintro r hr;refine zbp (fun x hx=>zab ?_) fun y hy=>?_
   · subst hx;obtain ⟨g1,g2⟩:=hr;rw [<-g1,if_pos g2]
   · subst hy;have hr:P.zaQ (toHp h) 0 h.2.2.1.length=P.Fd.none:=hr
     rw [hr,if_neg (fun c=>c rfl)]
     refine zad (zl7 h hw) ?_;rintro ⟨⟨⟨(f1:Int),(f2:Int),(f3:Int),_⟩,_⟩,_⟩ hf;dsimp only at hf ⊢
     rw [<-hf];refine zac (fun h5=>zab ?_) fun h5=>?_
     · simp only [qaz,ne_eq]at h5;exact (if_pos (show ¬(toFd (f1,f2,f3,())).fault=0 from h5)).symm
     simp only [qaA]at h5;have e4:∀ z:P.Fd,(if ¬(toFd (f1,f2,f3,())).fault=0 then toFd (f1,f2,f3,()) else z)=z:=fun z=>if_neg (show ¬¬(toFd (f1,f2,f3,())).fault=0 from fun c=>c h5)
     rw [e4];obtain ⟨p1,p2,p3,p4,p5,p6⟩:=P.zaU (zfJ h1);have c3:16<=h.1.1/\h.1.1<=64/\h.1.1 % 4=0/\8<=h.1.2.1/\h.1.2.1<=64:=P.zai p1
     have hq4:W (h.1.2.1.tdiv 4)=h.1.2.1 / 4:=by rw [qbv (by omega)];exact W_id (by omega)
     have hcl:=zjh h hpl;rw [zgT]at hcl;dsimp only at hcl
     obtain ⟨r0,hr0,hv0⟩:=hcl;rw [qbB]at hr0;obtain ⟨r1,hr1,hr1'⟩:=hr0;refine zad (P:=fun r=>r.1.1=(P.zaS (h.2.2.1.map toPg):Int)) ⟨r1,hr1,?_⟩ ?_
     · have:=Option.some.inj hr1'
       rw [<-this]at hv0;exact hv0
     · rintro ⟨⟨(c:Int),_⟩,_⟩ hc;dsimp only at hc ⊢
       rw [hq4];have enp:(toHp h).np=h.1.2.1:=rfl
       have epg:(toHp h).pages=h.2.2.1.map toPg:=rfl
       rw [enp,epg];refine zae rfl (zac (fun h6=>zab ?_) fun h6=>zab ?_)
       · simp only [qaa]at h6;rw [if_pos (by omega)];rfl
       · simp only [qaf]at h6;rw [if_neg (by omega)];rfl
theorem ziv(h:HpD)(hw:HpW h):Tot (fun r=>r.1.1=P.zrg (toHp h)) (F_r09_Good (h,())):=by
 rw [zqS];dsimp only
 rw [zar];refine zad (zlh h hw) ?_;rintro ⟨⟨⟨(f1:Int),(f2:Int),(f3:Int),_⟩,_⟩,_⟩ hf;dsimp only at hf ⊢
 refine zab ?_;unfold P.zrg;by_cases h0:(P.zfj (toHp h)).fault=0
 · rw [qac h0];have hn:=P.zmR h0;rw [<-hf]at hn;simp only [toFd,P.Fd.none,P.Fd.mk.injEq]at hn;obtain ⟨a1,a2,a3⟩:=hn;subst a1 a2 a3
   rfl
 · rw [qaj h0];rw [<-hf]at h0;have h0:¬f1=0:=h0
   simp [h0]
theorem zjf(h:HpD)(hw:HpW h)(l:List Int)(hl:l.length<=100000000):Tot (fun r=>r.1.1=P.zh0 (toHp h) l) (F_r09_Refers (h,l,())):=by
 rw [znx];dsimp only
 rw [zar];unfold P.zh0;refine zad (ziv h hw) ?_;rintro ⟨⟨(b:Bool),_⟩,_⟩ hb;dsimp only at hb ⊢
 rw [<-hb];refine zac (fun h1=>zab ?_) fun h1=>zad (zey h hw) ?_
 · simp only [qao]at h1;rw [h1];rfl
 simp only [qav]at h1;rw [h1,qaS];rintro ⟨⟨(all:List Int),_,_⟩,_⟩ ⟨hall,-⟩;dsimp only at hall ⊢
 have hal:all.length<=4096:=by
  rw [hall];unfold P.zag P.zbW
  exact qaD (qbz _ _) (P.zcG _)
 rw [<-hall];refine zad (P:=fun r=>match r with
  | .inl x=>x.1.1=false/\(l.all fun x=>decide (x=0\/x∈all))=false
  | .inr _=>(l.all fun x=>decide (x=0\/x∈all))=true) (zao (fun x=>∃ k:Nat,x.1.2.1=(k:Int)/\k<=l.length/\((l.drop k).all fun x=>decide (x=0\/x∈all))=(l.all fun x=>decide (x=0\/x∈all))) (fun x=>((l.length:Int)-x.1.2.1).toNat) ⟨0,rfl,by omega,rfl⟩ ?_) ?_
 · rintro ⟨⟨(bb:Bool),(k':Int),_⟩,_⟩ ⟨k,e1,e2,e3⟩;dsimp only at e1 ⊢
   subst e1;refine zac (fun h4=>?_) fun h4=>zab ?_
   · simp only [qaa]at h4;have hk:k<l.length:=by omega
     have w:W ((k:Int)+1)=((k+1:Nat):Int):=by rw [W_id (by omega)];omega
     have hin:inB (k:Int) l.length=true:=zaj.2 ⟨by omega,h4⟩
     rw [P.all_at (getD_some hk)]at e3;rw [w,qad,hin];generalize l.getD k 0=f at e3 ⊢
     have next:(f=0\/f∈all)->∀ q:Bool,Tot (Sum.elim (fun x':(Bool×Int×Unit)×Unit×Unit=>(∃ k:Nat,x'.1.2.1=(k:Int)/\k<=l.length/\((l.drop k).all fun x=>decide (x=0\/x∈all))=(l.all fun x=>decide (x=0\/x∈all)))/\((l.length:Int)-x'.1.2.1).toNat<((l.length:Int)-(k:Int)).toNat) fun (r:(Bool×Unit)×Unit×Unit⊕(Bool×Unit)×Unit×Unit)=>match r with
      | .inl x=>x.1.1=false/\(l.all fun x=>decide (x=0\/x∈all))=false
      | .inr _=>(l.all fun x=>decide (x=0\/x∈all))=true) (some (Sum.inl ((q,((k+1:Nat):Int),()),(),()))):=fun hf q=>by
      rw [qac hf,qaS]at e3;refine zab ?_;simp only [qaq];exact ⟨⟨k+1,rfl,by omega,e3⟩,by omega⟩
     refine zae rfl (zae (zaB fun _=>rfl) (zac (fun h5=>?_) fun h5=>next ?_ _))
     · simp only [qaz,ne_eq]at h5;refine zad (zed all f (by omega)) ?_
       rintro ⟨⟨(hb2:Bool),_⟩,_⟩ hhas;dsimp only at hhas ⊢
       refine zac (fun h6=>zab ?_) fun h6=>next ?_ _
       · simp only [qao]at h6;rw [h6]at hhas;have hnm:=qa3 hhas.symm;rw [qaj (show ¬(f=0\/f∈all) from fun c=>c.elim h5 hnm),Bool.false_and]at e3
         simp only [qan];exact ⟨by trivial,e3.symm⟩
       · simp only [qav]at h6;rw [h6]at hhas;exact .inr (qar hhas.symm)
     · simp only [qaA]at h5;exact .inl h5
   · simp only [qaf]at h4;rw [qbp (by omega)]at e3
     simp only [qan];exact e3.symm
 · rintro r hr;refine zbp (fun x hx=>zab ?_) fun y hy=>zab ?_
   · subst hx;exact hr.1.trans hr.2.symm
   · subst hy;exact hr.symm
end Go.VI
namespace Go.VI
open Go
abbrev WkD:=HpD×List Int×List Int×List Int×Int×(Int×Int×Int×Int×Int×Int×Unit)×Unit
def toWk(d:WkD):P.Wk:=⟨toHp d.1,d.2.1,d.2.2.1,d.2.2.2.1,d.2.2.2.2.1,d.2.2.2.2.2.1.1,d.2.2.2.2.2.1.2.1,d.2.2.2.2.2.1.2.2.1,d.2.2.2.2.2.1.2.2.2.1,d.2.2.2.2.2.1.2.2.2.2.1,d.2.2.2.2.2.1.2.2.2.2.2.1⟩
theorem zmY(n:Int):W n=RowKit.wrap64 n:=by rw [W,IntKind.wrap_i64];unfold RowKit.wrap64;omega
theorem zrC(d:WkD)(a:Int)(hl:d.2.2.1.length<=100000000):Tot (fun r=>r.1.1=decide (a∈d.2.2.1)) (F_r10_taken (d,a,())):=by
 obtain ⟨h,old,l,q,sc,rs,_⟩:=d;dsimp only at hl
 rw [zo3];dsimp only
 refine zad (P:=fun r=>match r with
  | .inl x=>x.1.1=true/\a∈l
  | .inr _=>¬a∈l) (zao (fun x=>∃ k:Nat,x.1.2.1=(k:Int)/\k<=l.length/\¬a∈l.take k) (fun x=>((l.length:Int)-x.1.2.1).toNat) ⟨0,rfl,by omega,by simp⟩ ?_) ?_
 · rintro ⟨⟨(b:Bool),(k':Int),_⟩,_⟩ ⟨k,e1,e2,e3⟩;dsimp only at e1 ⊢
   subst e1;refine zac (fun h4=>?_) fun h4=>zab ?_
   · simp only [qaa]at h4;have hk:k<l.length:=by omega
     have w:W ((k:Int)+1)=((k+1:Nat):Int):=by rw [W_id (by omega)];omega
     rw [w,qad];refine zae (zaj.2 ⟨by omega,h4⟩) (zac (fun h5=>zab ?_) fun h5=>zab ?_)
     · simp only [qaC]at h5;simp only [qan];exact ⟨by trivial,by rw [<-h5];exact zaC hk⟩
     · simp only [qaX,ne_eq]at h5;simp only [qaq];refine ⟨⟨k+1,rfl,by omega,?_⟩,by omega⟩
       rw [P.zbk (getD_some hk),qas,qaw];rintro (c | c)
       · exact e3 c
       · exact h5 c.symm
   · simp only [qaf]at h4;simp only [qan];rwa [qa7 (by omega)]at e3
 · rintro r hr;refine zbp (fun x hx=>?_) fun y hy=>zab ?_
   · subst hx;exact zab (by rw [qac hr.2];exact hr.1)
   · subst hy;exact (qaj hr).symm
theorem zfZ(d:WkD)(i:Int)(hl:d.2.2.1.length<=100000000)(hp:d.1.2.2.1.length<=100000000):Tot (fun r=>r.1.1=P.zep (toWk d) i) (F_r10_Promoted (d,i,())):=by
 rw [zkv];dsimp only
 simp only [cor];have hpg:(toWk d).h.pages=d.1.2.2.1.map toPg:=rfl
 have hsp:(toWk d).h.space=d.1.2.2.2.1:=rfl
 have htk:(toWk d).taken=d.2.2.1:=rfl
 unfold P.zep;refine zac (fun h1=>zab ?_) fun h1=>?_
 · simp only [qaT,qaa]at h1;cases hg:(toWk d).h.pages[i.toNat]? with
   | none=>rfl
   | some g=>
    have hlt:=(qak.1 hg).1;rw [hpg,qai]at hlt;have:¬0<=i:=by omega
    simp [this]
 simp only [qaI,qaf]at h1;obtain ⟨j,rfl⟩:=qaQ (show 0<=i by omega)
 have hj:j<d.1.2.2.1.length:=by omega
 rw [hpg,qad,zbe hj,hsp,htk];generalize d.1.2.2.1.getD j PG0=G
 obtain ⟨gk,gs,gu,gp,_⟩:=G;dsimp only;have e1:(toPg (gk,gs,gu,gp,())).kind=gk:=rfl
 have e2:(toPg (gk,gs,gu,gp,())).space=gs:=rfl
 refine zae (zaj.2 ⟨by omega,by omega⟩) (zac (fun h2=>zac (fun h3=>?_) fun h3=>zab ?_) fun h2=>zab ?_)
 · refine zad (zrC d j hl) ?_;rintro ⟨⟨(b:Bool),_⟩,_⟩ hb;dsimp only at hb ⊢
   refine zab ?_;simp only [qaC]at h2;simp only [qaz,ne_eq]at h3;simp only [toPg];rw [hb];simp [h2,h3]
 · simp only [qaA]at h3;simp only [toPg];simp [h3]
 · simp only [qaX,ne_eq]at h2;simp only [toPg];simp [h2]
theorem zmW(d:WkD)(a:Int)(hl:d.2.2.2.1.length<=100000000):Tot (fun r=>toWk r.1.1=P.zdu (toWk d) a) (F_r10_keep (d,a,())):=by
 rw [zqN];dsimp only
 refine zae (zan.2 (by omega)) (zae (zan.2 (by simp;omega)) (zab ?_))
 unfold toWk P.zdu;dsimp only;rw [zmY]
theorem zrE(h:HpD)(hw:HpW h):Tot (fun r=>r.1.2.1=(if P.okH (toHp h) then (if P.zrg (toHp h) then 0 else 19) else 1)/\(r.1.2.1=0->toWk r.1.1=P.zdx (toHp h))) (F_r10_Begin (h,())):=by
 rw [zo5];dsimp only
 rw [zar];refine zad (zbn _ hw) fun r hr=>?_
 obtain ⟨⟨(b:Bool),_⟩,_⟩:=r;have hb:b=P.okH (toHp h):=hr
 subst hb;dsimp only;refine zac (fun h1=>zab ?_) fun h1=>zad (ziv h hw) ?_
 · simp only [qao]at h1;rw [h1];exact ⟨rfl,fun c=>by cases c⟩
 simp only [qav]at h1;rintro ⟨⟨(g:Bool),_⟩,_⟩ hg;dsimp only at hg ⊢
 rw [<-hg,if_pos h1];refine zac (fun h2=>zab ?_) fun h2=>zad (zey h hw) ?_
 · simp only [qao]at h2;rw [h2];exact ⟨rfl,fun c=>by cases c⟩
 simp only [qav]at h2;rw [h2];rintro ⟨⟨(all:List Int),_,_⟩,_⟩ ⟨hall,-⟩;dsimp only at hall ⊢
 have hpl:=hw.pl;have hsp:0<=h.2.2.2.1/\h.2.2.2.1<=1:=P.zfy.1 (P.zaU (zfJ h1)).2.2.2.1
 have ws:W (1-h.2.2.2.1)=1-h.2.2.2.1:=W_id (by omega)
 rw [ws];refine zae (zan.2 (by omega)) (zad (P:=fun r=>r.2.2.1.map toPg=(P.zdx (toHp h)).h.pages) (zao (fun x=>∃ k:Nat,x.1.1=(k:Int)/\k<=h.2.2.1.length/\x.2.2.1.map toPg=P.bgPs (toHp h) k) (fun x=>((h.2.2.1.length:Int)-x.1.1).toNat) ⟨0,rfl,by omega,rfl⟩ ?_) fun r hr=>zab ⟨rfl,fun _=>?_⟩)
 · rintro ⟨⟨(k':Int),_⟩,_,(ps:List PgD),_⟩ ⟨k,e1,e2,e3⟩;dsimp only at e1 e3 ⊢
   subst e1;have hlp:ps.length=h.2.2.1.length:=by
    have:=congrArg List.length e3
    rw [P.zj0,qai]at this;exact this.trans (qai ..)
   refine zac (fun h4=>?_) fun h4=>zab ?_
   · simp only [qaa]at h4;have hk:k<h.2.2.1.length:=by omega
     have w:W ((k:Int)+1)=((k+1:Nat):Int):=by rw [W_id (by omega)];omega
     have hin:inB (k:Int) ps.length=true:=zaj.2 ⟨by omega,h4⟩
     have hat:(toHp h).pages[k]?=some (toPg (h.2.2.1.getD k PG0)):=zbe hk
     have h5:=P.zrw (toHp h) k k _ hat;rw [if_neg (by omega),<-e3,zbe (by omega)]at h5
     have h5:toPg (ps.getD k PG0)=toPg (h.2.2.1.getD k PG0):=Option.some.inj h5
     have hD:(toHp h).pages.getD k P.Pg.zero=toPg (ps.getD k PG0):=by rw [P.zav hat,h5]
     have hB:P.bgB (toHp h) k=((ps.getD k PG0).1 == 1&&decide (0<(ps.getD k PG0).2.2.2.1)):=by
      unfold P.bgB;rw [hD,qbb,qae,qae,qaa,qaa,qaa,qaC];exact Iff.rfl
     have hbg:P.bgPs (toHp h) (k+1)=if P.bgB (toHp h) k then (P.bgPs (toHp h) k).set k ⟨((toHp h).pages.getD k P.Pg.zero).kind,1-(toHp h).space,((toHp h).pages.getD k P.Pg.zero).used,((toHp h).pages.getD k P.Pg.zero).pins⟩ else P.bgPs (toHp h) k:=rfl
     rw [hD,hB]at hbg;rw [w,qad];simp only [cand];refine zae hin (zae (zaB fun _=>hin) (zac (fun h6=>zab ?_) fun h6=>zab ?_))
     · rw [if_pos h6]at hbg;simp only [qaq];refine ⟨⟨k+1,rfl,by omega,?_⟩,by omega⟩
       rw [hbg,qbw,e3];rfl
     · rw [if_neg (fun c=>Bool.noConfusion (c.symm.trans h6))]at hbg
       simp only [qaq];exact ⟨⟨k+1,rfl,by omega,by rw [hbg,e3]⟩,by omega⟩
   · simp only [qaf]at h4;simp only [qan];rw [e3,<-P.zwK];have:(toHp h).pages.length=h.2.2.1.length:=qai ..
     rw [this,show k=h.2.2.1.length by omega]
 · unfold toWk;dsimp only;rw [hall];have e:toHp ((h.1.1,h.1.2.1,()),h.2.1,r.2.2.1,h.2.2.2.1,h.2.2.2.2.1,())={ toHp h with pages:=(P.zdx (toHp h)).h.pages }:=by
    unfold toHp;dsimp only;rw [hr];rfl
   rw [e]
   rfl
end Go.VI
namespace Go.VI
open Go
theorem zrD(d:WkD)(hx:P.PlOK (toWk d))(n:Int)(hn:0<=n/\n<=100000):
 Tot (fun r=>r.1.2.2.1=P.plB (toWk d) n/\(r.1.2.2.1=true->toWk r.1.1=P.plW (toWk d) n/\r.1.2.1=P.plA (toWk d) n)) (F_r10_place (d,n,())):=by
 obtain ⟨⟨⟨pw,np,_⟩,ws,ps,sp,bu,_⟩,old,taken,queue,sc,⟨r0,r1,r2,r3,r4,r5,_⟩,_⟩:=d;have x1:=hx.pw0;have x2:=hx.pw1;have x3:=hx.np0;have x4:=hx.np1;have x5:=hx.sp0;have x6:=hx.sp1;have x7:=hx.tk;have x8:=hx.last
 have hps:=fun hb=>P.zfC (n:=n) hx hb
 have hlm:(ps.map toPg).length=ps.length:=qai ..
 have hreu:P.zdm (toWk (((pw,np,()),ws,ps,sp,bu,()),old,taken,queue,sc,(r0,r1,r2,r3,r4,r5,()),())) n=(match taken.getLast? with | some l=>decide (((ps.map toPg).getD l.toNat P.Pg.zero).used+n<=pw) | none=>false):=rfl
 have hplB:P.plB (toWk (((pw,np,()),ws,ps,sp,bu,()),old,taken,queue,sc,(r0,r1,r2,r3,r4,r5,()),())) n=(P.zdm (toWk (((pw,np,()),ws,ps,sp,bu,()),old,taken,queue,sc,(r0,r1,r2,r3,r4,r5,()),())) n || decide (0<=P.zaz (ps.map toPg) 1)):=rfl
 have hplJ:P.plJ (toWk (((pw,np,()),ws,ps,sp,bu,()),old,taken,queue,sc,(r0,r1,r2,r3,r4,r5,()),())) n=if P.zdm (toWk (((pw,np,()),ws,ps,sp,bu,()),old,taken,queue,sc,(r0,r1,r2,r3,r4,r5,()),())) n then taken.getLast?.getD (-1) else P.zaz (ps.map toPg) 1:=rfl
 have hplPs:P.plPs (toWk (((pw,np,()),ws,ps,sp,bu,()),old,taken,queue,sc,(r0,r1,r2,r3,r4,r5,()),())) n=if P.zdm (toWk (((pw,np,()),ws,ps,sp,bu,()),old,taken,queue,sc,(r0,r1,r2,r3,r4,r5,()),())) n then ps.map toPg else P.zcl (ps.map toPg) (P.zaz (ps.map toPg) 1) (1-sp):=rfl
 have hplT:P.plT (toWk (((pw,np,()),ws,ps,sp,bu,()),old,taken,queue,sc,(r0,r1,r2,r3,r4,r5,()),())) n=if P.zdm (toWk (((pw,np,()),ws,ps,sp,bu,()),old,taken,queue,sc,(r0,r1,r2,r3,r4,r5,()),())) n then taken else taken++[P.zaz (ps.map toPg) 1]:=rfl
 have hplW:P.plW (toWk (((pw,np,()),ws,ps,sp,bu,()),old,taken,queue,sc,(r0,r1,r2,r3,r4,r5,()),())) n=⟨⟨pw,np,ws,P.zgC (P.plPs (toWk (((pw,np,()),ws,ps,sp,bu,()),old,taken,queue,sc,(r0,r1,r2,r3,r4,r5,()),())) n) (P.plJ (toWk (((pw,np,()),ws,ps,sp,bu,()),old,taken,queue,sc,(r0,r1,r2,r3,r4,r5,()),())) n).toNat n,sp,bu⟩,old,P.plT (toWk (((pw,np,()),ws,ps,sp,bu,()),old,taken,queue,sc,(r0,r1,r2,r3,r4,r5,()),())) n,queue,sc,r0,r1,r2,r3,r4,r5⟩:=rfl
 have hplA:P.plA (toWk (((pw,np,()),ws,ps,sp,bu,()),old,taken,queue,sc,(r0,r1,r2,r3,r4,r5,()),())) n=4096+P.plJ (toWk (((pw,np,()),ws,ps,sp,bu,()),old,taken,queue,sc,(r0,r1,r2,r3,r4,r5,()),())) n*pw+((P.plPs (toWk (((pw,np,()),ws,ps,sp,bu,()),old,taken,queue,sc,(r0,r1,r2,r3,r4,r5,()),())) n).getD (P.plJ (toWk (((pw,np,()),ws,ps,sp,bu,()),old,taken,queue,sc,(r0,r1,r2,r3,r4,r5,()),())) n).toNat P.Pg.zero).used:=rfl
 generalize hX:toWk (((pw,np,()),ws,ps,sp,bu,()),old,taken,queue,sc,(r0,r1,r2,r3,r4,r5,()),())=X at *
 have x1:16<=pw:=by rw [<-hX]at x1;exact x1
 have x2:pw<=64:=by rw [<-hX]at x2;exact x2
 have x3:1<=ps.length:=by rw [<-hX]at x3;rw [<-hlm];exact x3
 have x4:ps.length<=64:=by rw [<-hX]at x4;rw [<-hlm];exact x4
 have x5:0<=sp:=by rw [<-hX]at x5;exact x5
 have x6:sp<=1:=by rw [<-hX]at x6;exact x6
 have x7:taken.length<=1000:=by rw [<-hX]at x7;exact x7
 have x8:∀ l,taken.getLast?=some l->∃ k:Nat,l=k/\∃ g,(ps.map toPg)[k]?=some g/\0<=g.used/\g.used<=pw:=by rw [<-hX]at x8;exact x8
 have hps:P.plB X n=true->∃ j:Nat,∃ y:P.Pg,P.plJ X n=j/\j<ps.length/\(P.plPs X n).length=ps.length/\(P.plPs X n)[j]?=some y/\0<=y.used/\y.used<=pw:=fun hb=>by
  obtain ⟨j,y,a1,a2,a3,a4,a5,a6,-⟩:=hps hb;have e1:X.h.pages.length=ps.length:=by rw [<-hX];exact hlm
  have e2:X.h.pw=pw:=by rw [<-hX];rfl
  rw [e1]at a2 a3;rw [e2]at a6;exact ⟨j,y,a1,a2,a3,a4,a5,a6⟩
 have hT:0<taken.length->∃ k:Nat,taken.getD (W ((taken.length:Int)-1)).toNat 0=(k:Int)/\k<ps.length/\taken.getLast?=some (k:Int)/\0<=(ps.getD k PG0).2.2.1/\(ps.getD k PG0).2.2.1<=pw:=fun h0=>by
  rcases qcE taken with e | ⟨pre,t,e⟩
  · rw [e]at h0;cases h0
  · rw [qcD]at e;have hl:taken.getLast?=some t:=by rw [e];simp
    obtain ⟨k,rfl,g,hg,g0,g1⟩:=x8 t hl;have hk:=(qak.1 hg).1;rw [hlm]at hk;rw [zbe hk]at hg;have hg:=Option.some.inj hg;have hlen:taken.length=pre.length+1:=by rw [e];simp
    have w:W ((taken.length:Int)-1)=pre.length:=by rw [W_id (by omega)];omega
    refine ⟨k,?_,hk,hl,?_,?_⟩
    · rw [w,qad,e,qay,qbA (qam _),qbK];rfl
    · rw [<-hg]at g0;exact g0
    · rw [<-hg]at g1;exact g1
 have hC:(bif decide ((taken.length:Int) > 0) then decide (W ((ps.getD (taken.getD (W ((taken.length:Int)-1)).toNat 0).toNat PG0).2.2.1+n)<=pw) else false)=P.zdm X n:=by
  rw [hreu];by_cases h0:0<taken.length
  · obtain ⟨k,t1,t2,t3,t4,t5⟩:=hT h0;rw [t1,t3,qad,qac (show (taken.length:Int) > 0 by omega)]
    simp only [qah,qad];have w:W ((ps.getD k PG0).2.2.1+n)=(ps.getD k PG0).2.2.1+n:=W_id (by omega)
    have e:((ps.map toPg).getD k P.Pg.zero).used=(ps.getD k PG0).2.2.1:=by rw [zaR];rfl
    rw [w];exact qcd.2 (by rw [e])
  · have e:taken=[]:=qb3 (by omega)
    rw [e];rfl
 have hG1:(bif decide ((taken.length:Int) > 0) then inB (W ((taken.length:Int)-1)) taken.length else true)=true:=zaB fun h=>by
  simp only [qaa]at h;rw [W_id (by omega)]
  exact zaj.2 ⟨by omega,by omega⟩
 have hG2:(bif decide ((taken.length:Int) > 0) then inB (taken.getD (W ((taken.length:Int)-1)).toNat 0) ps.length else true)=true:=zaB fun h=>by
  simp only [qaa]at h;obtain ⟨k,t1,t2,-⟩:=hT (by omega)
  rw [t1];exact zaj.2 ⟨by omega,by omega⟩
 have hpos:P.zdm X n=true->0<taken.length:=fun h=>by
  rw [<-hC]at h;by_cases h0:0<taken.length
  · exact h0
  · rw [qaj (show ¬(taken.length:Int) > 0 by omega)]at h;cases h
 rw [zo4];dsimp only
 rw [hC];refine zae (zan.2 (by omega)) (zae hG1 (zae hG2 (zae (zaB fun h=>?_) (zac (fun hc=>?_) fun hc=>?_))))
 · have h0:=hpos h;rw [qac (show (taken.length:Int) > 0 by omega)]at hG1
   exact hG1
 · have h0:=hpos hc;have hb:P.plB X n=true:=by rw [hplB,hc];rfl
   obtain ⟨k,t1,t2,t3,t4,t5⟩:=hT h0;rw [t1,qad];have hin:inB (k:Int) ps.length=true:=zaj.2 ⟨by omega,by omega⟩
   have hkp:0<=(k:Int)*pw/\(k:Int)*pw<=4096:=⟨qa0 (by omega) (by omega),by
    calc (k:Int)*pw<=64*pw:=qaR (by omega) (by omega)
     _<=4096:=by omega⟩
   have v1:W ((k:Int)*pw)=k*pw:=W_id (by omega)
   have v2:W (4096+(k:Int)*pw)=4096+k*pw:=W_id (by omega)
   have v3:W (4096+(k:Int)*pw+(ps.getD k PG0).2.2.1)=4096+k*pw+(ps.getD k PG0).2.2.1:=W_id (by omega)
   have v4:U (4096+(k:Int)*pw+(ps.getD k PG0).2.2.1)=4096+k*pw+(ps.getD k PG0).2.2.1:=U_id (by omega)
   have v5:W ((ps.getD k PG0).2.2.1+n)=(ps.getD k PG0).2.2.1+n:=W_id (by omega)
   have eJ:P.plJ X n=(k:Int):=by rw [hplJ,if_pos hc,t3];rfl
   have eP:P.plPs X n=ps.map toPg:=by rw [hplPs,if_pos hc]
   have eT:P.plT X n=taken:=by rw [hplT,if_pos hc]
   refine zae hin (zae hin (zae hin (zab ⟨hb.symm,fun _=>⟨?_,?_⟩⟩)))
   · rw [hplW,eJ,eP,eT,qad];unfold toWk toHp P.zgC;dsimp only;rw [qbw,zaR,v5];rfl
   · rw [hplA,eJ,eP,qad,zaR];dsimp only;rw [v1,v2,v3,v4];rfl
 · refine zad (zgo ps 1 (by omega)) ?_
   rintro ⟨⟨(K':Int),_⟩,_⟩ hK;dsimp only at hK ⊢
   refine zac (fun h1=>zab ?_) fun h1=>?_
   · simp only [qaa]at h1;refine ⟨?_,fun c=>by cases c⟩
     rw [hplB,hc,<-hK,qaj (by omega)];rfl
   simp only [qaf]at h1;have hb:P.plB X n=true:=by rw [hplB,<-hK,qac (show 0<=K' by omega),Bool.or_true]
   obtain ⟨K,rfl⟩:=qaQ (show 0<=K' by omega)
   obtain ⟨j,y,a1,a2,a3,a4,a5,a6⟩:=hps hb;have eJ:P.plJ X n=(K:Int):=by rw [hplJ,if_neg (by rw [hc];decide),<-hK]
   have eP:P.plPs X n=P.zcl (ps.map toPg) K (1-sp):=by rw [hplPs,if_neg (by rw [hc];decide),<-hK]
   have eT:P.plT X n=taken++[(K:Int)]:=by rw [hplT,if_neg (by rw [hc];decide),<-hK]
   have hj:j=K:=by rw [eJ]at a1;omega
   subst hj;obtain ⟨-,s1,s2⟩:=P.zdf (ps:=ps.map toPg) (k:=1) (by omega)
   rw [<-hK]at s1 s2;obtain ⟨z,hz,hz0⟩:=s2 j (by omega) (by omega)
   have hf:P.zct (ps.map toPg) j 1=true:=by
    have:=P.zce (ps:=ps.map toPg) (i:=j) (k:=0) (x:=z) (by rw [qa4];exact hz)
    rw [P.zcM,hz0]at this;simpa using this
   have ws':W (1-sp)=1-sp:=W_id (by omega)
   rw [ws'];refine zad (zhr ps j (1-sp) (by omega) (by omega) (by omega) hf) ?_
   rintro ⟨⟨(qs:List PgD),_,_⟩,_⟩ ⟨hqs,-⟩;dsimp only at hqs ⊢
   rw [<-hqs]at eP;rw [eP]at a3 a4;rw [qai]at a3;have hjq:j<qs.length:=by omega
   rw [zbe hjq]at a4;have a4:=Option.some.inj a4;rw [<-a4]at a5 a6;have a5:0<=(qs.getD j PG0).2.2.1:=a5
   have a6:(qs.getD j PG0).2.2.1<=pw:=a6
   rw [qad];have hin:inB (j:Int) qs.length=true:=zaj.2 ⟨by omega,by omega⟩
   have hkp:0<=(j:Int)*pw/\(j:Int)*pw<=4096:=⟨qa0 (by omega) (by omega),by
    calc (j:Int)*pw<=64*pw:=qaR (by omega) (by omega)
     _<=4096:=by omega⟩
   have v1:W ((j:Int)*pw)=j*pw:=W_id (by omega)
   have v2:W (4096+(j:Int)*pw)=4096+j*pw:=W_id (by omega)
   have v3:W (4096+(j:Int)*pw+(qs.getD j PG0).2.2.1)=4096+j*pw+(qs.getD j PG0).2.2.1:=W_id (by omega)
   have v4:U (4096+(j:Int)*pw+(qs.getD j PG0).2.2.1)=4096+j*pw+(qs.getD j PG0).2.2.1:=U_id (by omega)
   have v5:W ((qs.getD j PG0).2.2.1+n)=(qs.getD j PG0).2.2.1+n:=W_id (by omega)
   refine zae (zan.2 (by omega)) (zae (zan.2 (by simp;omega)) (zae hin (zae hin (zae hin (zab ⟨hb.symm,fun _=>⟨?_,?_⟩⟩)))))
   · rw [hplW,eJ,eP,eT,qad];unfold toWk toHp P.zgC;dsimp only;rw [qbw,zaR,v5];rfl
   · rw [hplA,eJ,eP,qad,zaR];dsimp only;rw [v1,v2,v3,v4];rfl
end Go.VI
namespace Go.VI
open Go
abbrev WK0:WkD:=(H0,[],[],[],0,(0,0,0,0,0,0,()),())
theorem zj6:toWk WK0=P.Wk.zero:=rfl
theorem zhp(d:WkD)(hx:P.FwOK (toWk d))(hwb:WBo d.1.2.1)(hol:d.2.1.length<=100000000)(a:Int)(ha:0<=a/\a<18446744073709551616):
 Tot (fun r=>r.1.2.2.1=P.evE (toWk d) a/\r.1.2.1=P.evA (toWk d) a/\toWk r.1.1=P.evW (toWk d) a) (F_r10_Forward (d,a,())):=by
 obtain ⟨⟨⟨pw,np,_⟩,ws,ps,sp,bu,_⟩,old,taken,queue,sc,⟨r0,r1,r2,r3,r4,r5,_⟩,_⟩:=d;have hwl:ws.length<=100000:=hx.wl
 have hql:queue.length<=1000000:=hx.ql
 have htk:taken.length<=1000:=hx.pl.tk
 have hlm:(ps.map toPg).length=ps.length:=qai ..
 have hpl:ps.length<=64:=by rw [<-hlm];exact hx.pl.np1
 have hs0:0<=sp:=hx.pl.sp0
 have hs1:sp<=1:=hx.pl.sp1
 dsimp only at hwb hol
 generalize hX:toWk (((pw,np,()),ws,ps,sp,bu,()),old,taken,queue,sc,(r0,r1,r2,r3,r4,r5,()),())=X at *
 have Xq:X.queue=queue:=by rw [<-hX];rfl
 have Xo:X.old=old:=by rw [<-hX];rfl
 have Xw:X.h.words=ws:=by rw [<-hX];rfl
 have Xp:X.h.pages=ps.map toPg:=by rw [<-hX];rfl
 have Xpw:X.h.pw=pw:=by rw [<-hX];rfl
 have Xnp:X.h.np=np:=by rw [<-hX];rfl
 have Xs:X.h.space=sp:=by rw [<-hX];rfl
 have fin:∀ (e b:Int) (g:WkD) (c:Nat),P.evC X a=c->e=(match c with | 1=>19 | 3=>19 | 6=>3 | _=>0)->b=(match c with | 0=>a | 2=>P.tgtV (P.evWd X a).toNat | 4=>a | 5=>a | 7=>P.plA X (P.evN X a) | _=>0)->toWk g=(match c with | 0=>X | 2=>X | 4=>P.zdu X a | 5=>P.zdu (P.zcd X (P.evI X a).toNat) a | 7=>P.zbq X a | _=>P.Wk.zero) ->
  Tot (fun r:(WkD×Int×Int×Unit)×Unit=>r.1.2.2.1=P.evE X a/\r.1.2.1=P.evA X a/\toWk r.1.1=P.evW X a) (some ((g,b,e,()),())):=fun e b g c hc h1 h2 h3=>by
  refine zab ?_;unfold P.evE P.evA P.evW;rw [hc];exact ⟨h1,h2,h3⟩
 rw [zlN];dsimp only
 refine zac (fun h1=>?_) fun h1=>zad (zed queue a (by omega)) ?_
 · simp only [qaC]at h1;exact fin _ _ _ 0 (by unfold P.evC;rw [if_pos (.inl h1)]) rfl rfl hX
 simp only [qaX,ne_eq]at h1;rintro ⟨⟨(b1:Bool),_⟩,_⟩ hb1;dsimp only at hb1 ⊢
 refine zac (fun h2=>?_) fun h2=>zad (zed old a (by omega)) ?_
 · rw [h2]at hb1;exact fin _ _ _ 0 (by unfold P.evC;rw [Xq,if_pos (.inr (qar hb1.symm))]) rfl rfl hX
 rw [h2]at hb1;have hnq:=qa3 hb1.symm;rintro ⟨⟨(b2:Bool),_⟩,_⟩ hb2;dsimp only at hb2 ⊢
 have c0:¬(a=0\/a∈X.queue):=by rw [Xq];exact fun c=>c.elim h1 hnq
 refine zac (fun h3=>?_) fun h3=>zad (zcP ws a (by omega) ha) ?_
 · simp only [qao]at h3;rw [h3]at hb2;exact fin _ _ _ 1 (by unfold P.evC;rw [if_neg c0,Xo,if_pos (qa3 hb2.symm)]) rfl rfl zj6
 simp only [qav]at h3;rw [h3]at hb2;have hold:=qar hb2.symm;have c1:¬¬a∈X.old:=by rw [Xo];exact fun c=>c hold
 rintro ⟨⟨(wd:Int),_,_⟩,_⟩ ⟨hwd,-⟩;dsimp only at hwd ⊢
 obtain ⟨y,hy,hy2⟩:=P.zfb hwb a;rw [hy]at hwd;subst hwd;have hev:(P.evWd X a).toNat=y:=by unfold P.evWd;rw [Xw,hy];rfl
 refine zad (zjg y hy2) ?_;rintro ⟨⟨(tg:Int),(tok:Bool),_⟩,_⟩ ⟨htg,htok⟩;dsimp only at htg htok ⊢
 refine zac (fun h4=>?_) fun h4=>zad (zhs pw np a ha) ?_
 · refine fin _ _ _ 2 ?_ rfl ?_ hX
   · unfold P.evC;rw [if_neg c0,if_neg c1,hev,<-htok,if_pos h4]
   · show tg=P.tgtV (P.evWd X a).toNat
     rw [hev,htg]
 have c2:¬P.okT (P.evWd X a).toNat=true:=by rw [hev,<-htok,h4];decide
 rintro ⟨⟨(i:Int),(o:Int),(e:Int),_⟩,_⟩ ⟨g1,g2,g3⟩;dsimp only at g1 g2 g3 ⊢
 have hI:P.evI X a=i:=by unfold P.evI;rw [Xpw,Xnp,g1]
 simp only [cor];refine zac (fun h5=>?_) fun h5=>zad (zfZ _ i (by show taken.length<=_;omega) (by show ps.length<=_;omega)) ?_
 · simp only [qaT,qaz,ne_eq,qaa]at h5;refine fin _ _ _ 3 ?_ rfl rfl zj6;unfold P.evC;rw [if_neg c0,if_neg c1,if_neg c2,Xpw,Xnp,<-g3,hI,Xp,hlm,if_pos (by omega)]
 simp only [qaI,qaA,qaf]at h5;have c3:¬(¬P.ofE X.h.pw X.h.np a=0\/(X.h.pages.length:Int)<=P.evI X a):=by rw [Xpw,Xnp,<-g3,hI,Xp,hlm];omega
 have hi0:0<=i:=by
  obtain ⟨_,q,_⟩:=P.zwk (pw:=pw) (np:=np) (a:=a) (by omega)
  omega
 rw [hX];rintro ⟨⟨(pr:Bool),_⟩,_⟩ hpr;dsimp only at hpr ⊢
 refine zac (fun h6=>zad (zmW _ a (by show queue.length<=_;omega)) ?_) fun h6=>?_
 · rintro ⟨⟨(g:WkD),_⟩,_⟩ hg;rw [hX]at hg;dsimp only at hg ⊢
   refine fin _ _ g 4 ?_ rfl rfl hg;unfold P.evC;rw [if_neg c0,if_neg c1,if_neg c2,if_neg c3,hI,<-hpr,if_pos h6]
 have c4:¬P.zep X (P.evI X a)=true:=by rw [hI,<-hpr,h6];decide
 obtain ⟨j,rfl⟩:=qaQ hi0;have hj:j<ps.length:=by omega
 have hinj:inB (j:Int) ps.length=true:=zaj.2 ⟨by omega,by omega⟩
 rw [qad];have hBig:P.zhi X a=((ps.getD j PG0).1 == 2):=by
  unfold P.zhi;rw [hI,qad,qbb,qaa,qaC,Xp,zaR];exact Iff.rfl
 refine zae hinj (zae (zaB fun _=>zan.2 (by omega)) (zae (zaB fun _=>hinj) (zac (fun h7=>?_) fun h7=>?_)))
 · have hsw:W (1-sp)=1-sp:=W_id (by omega)
   have hw1:W ((j:Int)+1)=((j+1:Nat):Int):=by rw [W_id (by omega)];omega
   rw [hsw,hw1];refine zad (P:=fun r=>r.2.2.1.map toPg=P.spc (ps.map toPg) j (P.zb4 (ps.map toPg) j) (1-sp)) (zao (fun x=>∃ k:Nat,x.1.1=(k:Int)/\j+1<=k/\k<=ps.length/\x.2.2.1.map toPg=P.spc (ps.map toPg) j k (1-sp)/\∀ t y,j<t->t<k->(ps.map toPg)[t]?=some y->y.kind=3) (fun x=>((ps.length:Int)-x.1.1).toNat) ⟨j+1,rfl,by omega,by omega,?_,fun t y t1 t2=>by omega⟩ ?_) ?_
   · have:=P.zsc (ps:=ps.map toPg) (i:=j) (k:=j) (sp:=1-sp) (qam _) (zbe hj)
     rw [P.zuq]at this;rw [<-this,qbw];rfl
   · rintro ⟨⟨(k':Int),_⟩,_,(qs:List PgD),_⟩ ⟨k,e1,e2,e3,e4,e5⟩;dsimp only at e1 e4 ⊢
     subst e1;have hql:qs.length=ps.length:=by
      have:=congrArg List.length e4
      rw [P.zur,qai,qai]at this;exact this
     have hkd:k<ps.length->toPg (qs.getD k PG0)=toPg (ps.getD k PG0):=fun hk=>by
      have h8:=P.zhW (i:=j) (k:=k) (sp:=1-sp) (zbe hk)
      rw [<-e4,zbe (by omega),if_neg (by omega)]at h8
      exact Option.some.inj h8
     have w:W ((k:Int)+1)=((k+1:Nat):Int):=by rw [W_id (by omega)];omega
     rw [w,qad];simp only [cand];refine zae (zaB fun h=>?_) (zac (fun h8=>zae ?_ (zab ?_)) fun h8=>zab ?_)
     · simp only [qaa]at h;exact zaj.2 ⟨by omega,h⟩
     · simp only [qae,qaa]at h8;exact zaj.2 ⟨by omega,h8.1⟩
     · simp only [qae,qaa,qaC]at h8;have hk:k<ps.length:=by omega
       have hkk:=hkd hk;simp only [qaq];refine ⟨⟨k+1,rfl,by omega,by omega,?_,fun t y t1 t2 hy=>?_⟩,by omega⟩
       · rw [<-P.zsc (by omega) (zbe hk),qbw,e4,<-hkk];rfl
       · by_cases ht:t=k
         · subst ht;rw [zbe hk]at hy;rw [<-Option.some.inj hy,<-hkk];exact h8.2
         · exact e5 t y t1 (by omega) hy
     · simp only [qan];rw [e4,P.zsX e2 (by rw [hlm];exact e3) e5 (fun y hy=>?_)]
       have hk:=(qak.1 hy).1;rw [hlm]at hk;have hkk:=hkd hk;rw [zbe hk]at hy;rw [<-Option.some.inj hy,<-hkk];intro h9;have h9:(qs.getD k PG0).1=3:=h9
       rw [h9,qac (show (k:Int)<(qs.length:Int) by omega)]at h8
       cases h8
   · rintro ⟨_,_,(qs:List PgD),_⟩ hqs;dsimp only at hqs ⊢
     refine zad (zmW _ a (by show queue.length<=_;omega)) ?_
     rintro ⟨⟨(g:WkD),_⟩,_⟩ hg;dsimp only at hg ⊢
     refine fin _ _ g 5 ?_ rfl rfl ?_
     · unfold P.evC;rw [if_neg c0,if_neg c1,if_neg c2,if_neg c3,if_neg c4,hBig,if_pos h7]
     · show toWk g=P.zdu (P.zcd X (P.evI X a).toNat) a
       rw [hg,hI,qad];have:toWk (((pw,np,()),ws,qs,sp,bu,()),old,taken,queue,sc,(r0,r1,r2,r3,r4,r5,()),())=P.zcd X j:=by
        unfold P.zcd;rw [Xp,Xs,<-hqs,<-hX];rfl
       rw [this]
 · have c5:¬P.zhi X a=true:=by rw [hBig,h7];decide
   refine zad (zfn y hy2) ?_;rintro ⟨⟨⟨(dk:Int),(dn:Int),(dm:Int),_⟩,_,_⟩,_⟩ ⟨-,hd⟩;dsimp only at hd ⊢
   simp only [Prod.mk.injEq,qbf]at hd;obtain ⟨hk1,hk2,hk3⟩:=hd;have hmb:=P.zvt y;rw [<-hk3]at hmb;have hN:P.evN X a=P.zaO dk dn dm:=by unfold P.evN;rw [hev,hk1,hk2,hk3]
   have hNb:=P.evN_bd X a;rw [zcg dk dn dm hmb,qab];dsimp only;rw [<-hN];have hx':P.PlOK (toWk (((pw,np,()),ws,ps,sp,bu,()),old,taken,queue,sc,(r0,r1,r2,r3,r4,r5,()),())):=by rw [hX];exact hx.pl
   refine zad (zrD _ hx' (P.evN X a) (by omega)) ?_
   rw [hX];rintro ⟨⟨(g:WkD),(to:Int),(ok:Bool),_⟩,_⟩ ⟨hok,hg⟩;dsimp only at hok hg ⊢
   refine zac (fun h8=>?_) fun h8=>?_
   · simp only [qao]at h8;refine fin _ _ _ 6 ?_ rfl rfl zj6;unfold P.evC;rw [if_neg c0,if_neg c1,if_neg c2,if_neg c3,if_neg c4,if_neg c5,<-hok,h8];rfl
   · simp only [qav]at h8;obtain ⟨hg1,hg2⟩:=hg h8;have hplb:P.plB X (P.evN X a)=true:=by rw [<-hok];exact h8
     have hto:=P.zuE hx.pl hplb;rw [<-hg2]at hto;obtain ⟨⟨⟨pw',np',_⟩,ws',ps',sp',bu',_⟩,old',taken',queue',sc',⟨s0,s1,s2,s3,s4,s5,_⟩,_⟩:=g;have ew:ws'=ws:=by
      have:=congrArg (fun z=>z.h.words) hg1
      exact this.trans Xw
     have eq:queue'=queue:=by
      have:=congrArg (fun z=>z.queue) hg1
      exact this.trans Xq
     subst ew eq;refine zad (ztQ ws' to a (P.evN X a) (by omega) hto ha) ?_
     rintro ⟨⟨(w2:List Int),_,_⟩,_⟩ ⟨hw2,-⟩;dsimp only at hw2 ⊢
     have hw2l:w2.length<=ws'.length:=by rw [hw2];exact P.zsq _ _ _ _
     refine zad (zoh to hto) ?_;rintro ⟨⟨(fw:Int),_,_⟩,_⟩ ⟨hfw,-⟩;dsimp only at hfw ⊢
     refine zad (zgp w2 a fw (by omega) ha) ?_
     rintro ⟨⟨(w3:List Int),_,_⟩,_⟩ ⟨hw3,-⟩;dsimp only at hw3 ⊢
     refine zae (zan.2 (by omega)) (zae (zan.2 (by simp;omega)) ?_)
     refine fin _ _ _ 7 ?_ rfl hg2 ?_
     · unfold P.evC;rw [if_neg c0,if_neg c1,if_neg c2,if_neg c3,if_neg c4,if_neg c5,if_pos hplb]
     · show _=P.zbq X a
       have hcw:P.zk8 X a=w3:=by
        unfold P.zk8;rw [Xw,<-hg2,<-hw2,<-hfw,hw3]
       unfold P.zbq;rw [hcw,<-hg1,Xq,<-hg2,zmY];have e0:X.r0=s0:=by
        have:=congrArg (fun z=>z.r0) hg1
        exact this.symm
       rw [e0];rfl
end Go.VI
namespace Go.VI
open Go
abbrev BxD:=Int×Int×List Int×List PgD×Int×Int×List Int×List Int×List Int×Int×Int×Int×Int×Int×Int×Int×Unit
def unfl(b:BxD):WkD:=(((b.1,b.2.1,()),b.2.2.1,b.2.2.2.1,b.2.2.2.2.1,b.2.2.2.2.2.1,()),b.2.2.2.2.2.2.1,b.2.2.2.2.2.2.2.1,b.2.2.2.2.2.2.2.2.1,b.2.2.2.2.2.2.2.2.2.1,(b.2.2.2.2.2.2.2.2.2.2.1,b.2.2.2.2.2.2.2.2.2.2.2.1,b.2.2.2.2.2.2.2.2.2.2.2.2.1,b.2.2.2.2.2.2.2.2.2.2.2.2.2.1,b.2.2.2.2.2.2.2.2.2.2.2.2.2.2.1,b.2.2.2.2.2.2.2.2.2.2.2.2.2.2.2.1,()),())
theorem zw8{x:P.Wk}(hx:P.PlOK x)(hw:P.WB x.h.words)(a:Int):P.WB (P.evW x a).h.words:=by
 unfold P.evW;split
 · exact hw
 · exact hw
 · exact hw
 · exact hw
 · rename_i h;refine P.zw9 hx ?_ hw;unfold P.evC at h;repeat' (split at h <;> try cases h)
   all_goals first | assumption | (exfalso;omega)
 · exact P.WB.nil
theorem zvr(x:P.Wk)(a:Int):(P.evW x a).old=x.old\/(P.evW x a).old=[]:=by
 unfold P.evW;split <;> first | exact .inl rfl | exact .inr rfl
theorem zrB(d:WkD)(rs:List Int)(hR:P.zot (toWk d) rs)(hwb:WBo d.1.2.1)(hol:d.2.1.length<=100000000)(hrl:rs.length<=1000000):
 Tot (fun r=>r.1.2.2.1=(P.za5 (toWk d) [] rs).2.2/\r.1.2.1=(P.za5 (toWk d) [] rs).2.1/\toWk r.1.1=(P.za5 (toWk d) [] rs).1/\WBo r.1.1.1.2.1) (F_r11_Roots (d,rs,())):=by
 rw [zo2];dsimp only
 refine zad (P:=fun r=>match r with
  | .inl x=>x.1.1=[]/\toWk (unfl x.2.2.2.1)=P.Wk.zero/\WBo x.2.2.2.1.2.2.1/\P.za5 (toWk d) [] rs=(P.Wk.zero,[],x.1.2.1)
  | .inr y=>P.za5 (toWk d) [] rs=(toWk (unfl y.2.2.1),y.2.1.1,0)/\WBo y.2.2.1.2.2.1) (zao (fun x=>∃ k:Nat,x.1.2.2.2.1=(k:Int)/\k<=rs.length/\x.2.1.1.length=k/\P.zot (toWk (unfl x.2.2.1)) (rs.drop k)/\P.za5 (toWk (unfl x.2.2.1)) x.2.1.1 (rs.drop k)=P.za5 (toWk d) [] rs/\WBo x.2.2.1.2.2.1/\(unfl x.2.2.1).2.1.length<=100000000) (fun x=>((rs.length:Int)-x.1.2.2.2.1).toNat) ?_ ?_) ?_
 · exact ⟨0,rfl,by omega,rfl,hR,rfl,hwb,hol⟩
 · rintro ⟨⟨q1,q2,_,(k':Int),_⟩,⟨(acc:List Int),_⟩,(b:BxD),(b0:BxD),_⟩ ⟨k,e1,e2,e3,e4,e5,e6,e7⟩;dsimp only at e1 e3 e4 e5 e6 e7 ⊢
   subst e1;refine zac (fun h4=>?_) fun h4=>zab ?_
   · simp only [qaa]at h4;have hk:k<rs.length:=by omega
     have w:W ((k:Int)+1)=((k+1:Nat):Int):=by rw [W_id (by omega)];omega
     have hd:rs.drop k=rs.getD k 0::rs.drop (k+1):=by
      rw [qaU hk,qay,qap hk];rfl
     rw [hd]at e4 e5;rw [w,qad];generalize rs.getD k 0=a at e4 e5 ⊢
     obtain ⟨f1,f2,f3⟩:=e4;rw [P.za5]at e5;refine zae (zaj.2 ⟨by omega,h4⟩) (zad (zhp (unfl b) f1 e6 e7 a f2) ?_)
     rintro ⟨⟨(g:WkD),(ad:Int),(e:Int),_⟩,_⟩ ⟨he,had,hg⟩;dsimp only at he had hg ⊢
     rw [<-he,<-had,<-hg]at e5;rw [<-he,<-hg]at f3;refine zac (fun h5=>zab ?_) fun h5=>zae (zan.2 (by simp;omega)) (zab ?_)
     · simp only [qaz,ne_eq]at h5;rw [if_neg h5]at e5;simp only [qan];exact ⟨by trivial,rfl,fun x hx=>(by cases hx),e5.symm⟩
     · simp only [qaA]at h5;rw [if_pos h5]at e5;simp only [qaq];refine ⟨⟨k+1,rfl,by omega,by simp;omega,f3 h5,e5,?_,?_⟩,by omega⟩
       · show WBo (toWk g).h.words
         rw [hg];exact zw8 f1.pl e6 a
       · show (toWk g).old.length<=_
         rw [hg];rcases zvr (toWk (unfl b)) a with c | c
         · rw [c];exact e7
         · rw [c];simp
   · simp only [qaf]at h4;rw [qbp (by omega),P.za5]at e5
     simp only [qan];exact ⟨e5.symm,e6⟩
 · rintro r hr;refine zbp (fun x hx=>zab ?_) fun y hy=>zab ?_
   · subst hx;obtain ⟨g1,g2,g3,g4⟩:=hr;rw [g4];exact ⟨rfl,g1,g2,g3⟩
   · subst hy;obtain ⟨g1,g2⟩:=hr;rw [g1];exact ⟨rfl,rfl,rfl,g2⟩
end Go.VI
namespace Go.VI
open Go
theorem zp2(d:WkD)(hwb:WBo d.1.2.1)(hwl:d.1.2.1.length<=100000000)(a:Int)(ha:0<=a/\a<18446744073709551616):Tot (fun r=>toHd r.1.1=P.evH (toWk d) a) (F_r10_Get (d,a,())):=by
 rw [ztg];dsimp only
 obtain ⟨y,hy,hy2⟩:=P.zfb (show P.WB (toWk d).h.words from hwb) a
 refine zad (zcP d.1.2.1 a hwl ha) ?_;rintro ⟨⟨(wd:Int),_,_⟩,_⟩ ⟨hwd,-⟩;dsimp only at hwd ⊢
 have hwd:wd=(y:Int):=hwd.trans hy
 subst hwd;refine zad (zfn y hy2) ?_;rintro ⟨⟨⟨(dk:Int),(dn:Int),(dm:Int),_⟩,_,_⟩,_⟩ ⟨-,hd⟩;dsimp only at hd ⊢
 simp only [Prod.mk.injEq,qbf]at hd;obtain ⟨h1,h2,h3⟩:=hd;refine zab ?_;unfold P.evH P.evWd;rw [hy,qad,h1,h2,h3];rfl
theorem zs0(x:P.Wk)(A:Int):(P.zc9 x A).old=x.old\/(P.zc9 x A).old=[]:=zvr x _
theorem ztH(d:WkD)(k:Nat)(hk:(toWk d).sc=k)(hq:(toWk d).queue[k]?=none\/∃ A,(toWk d).queue[k]?=some A/\0<=A/\A<=1000000/\(toWk d).h.words.length<=100000/\P.StOK (toWk d) A (P.stL (toWk d) A))(hwb:WBo d.1.2.1)(hol:d.2.1.length<=100000000):
 Tot (fun r=>((toWk d).queue[k]?=none->r=((d,false,0,()),()))/\∀ A,(toWk d).queue[k]?=some A->r.1.2.2.1=P.stE (toWk d) A/\(P.stE (toWk d) A=0->r.1.2.1=true/\toWk r.1.1=P.stW (toWk d) A/\WBo r.1.1.1.2.1/\r.1.1.2.1.length<=100000000)) (F_r11_Step (d,())):=by
 have ek:d.2.2.2.2.1=(k:Int):=hk
 have eq:(toWk d).queue=d.2.2.2.1:=rfl
 rw [eq]at hq ⊢
 rw [zqM];dsimp only
 rw [ek,qad];refine zac (fun h1=>zab ?_) fun h1=>?_
 · simp only [qaa]at h1;have hn:d.2.2.2.1[k]?=none:=qbQ (by omega)
   refine ⟨fun _=>?_,fun A hA=>by rw [hn]at hA;cases hA⟩
   rw [<-ek]
 simp only [qaf]at h1;have hkl:k<d.2.2.2.1.length:=by omega
 have hx:=getD_some hkl;obtain ⟨A,hA,a0,a1,hwl,hst⟩:∃ A,d.2.2.2.1[k]?=some A/\0<=A/\A<=1000000/\(toWk d).h.words.length<=100000/\P.StOK (toWk d) A (P.stL (toWk d) A):=by
  rcases hq with c | c
  · rw [hx]at c;cases c
  · exact c
 have hD:d.2.2.2.1.getD k 0=A:=by rw [hx]at hA;exact Option.some.inj hA
 rw [hD];have hwl':d.1.2.1.length<=100000:=hwl
 refine zae (zaj.2 ⟨by omega,by omega⟩) (zad (P:=fun r=>toHd r.1.1=P.evH (toWk d) A) ?_ ?_)
 · rw [<-ek];exact zp2 d hwb (by omega) A (by omega)
 rintro ⟨⟨⟨(dk:Int),(dn:Int),(dm:Int),_⟩,_⟩,_⟩ hH;dsimp only at hH ⊢
 have e1:(P.evH (toWk d) A).k=dk:=(congrArg P.Hd.k hH).symm
 have e2:(P.evH (toWk d) A).n=dn:=(congrArg P.Hd.n hH).symm
 have e3:(P.evH (toWk d) A).m=dm:=(congrArg P.Hd.m hH).symm
 have hdm:0<=dm/\dm<4294967296:=by rw [<-e3];exact P.zvt _
 have hdn:dn<=1000000:=by
  rw [<-e2];show P.decN _<=_
  unfold P.decN;split
  · unfold P.dN;omega
  · omega
 refine zad (zl9 dk dn dm hdm hdn) ?_;rintro ⟨⟨(l:List Int),_⟩,_⟩ hl;dsimp only at hl ⊢
 have hL:P.stL (toWk d) A=l:=by unfold P.stL;rw [e1,e2,e3,hl]
 have hlb:∀ i∈l,0<=i/\i<=1000:=fun i hi=>P.stL_bd (by rw [hL];exact hi)
 have hll:l.length<=1000000:=by
  rw [hl];unfold P.zeN;split
  · refine qaD (P.zs6 _ _ _ _) (by omega)
  · simp
 have hE:P.stE (toWk d) A=(P.stGo (toWk d) A l).2:=by unfold P.stE;rw [hL]
 have hW:P.stW (toWk d) A={ (P.stGo (toWk d) A l).1 with sc:=RowKit.wrap64 ((P.stGo (toWk d) A l).1.sc+1),r5:=RowKit.wrap64 (RowKit.wrap64 ((P.stGo (toWk d) A l).1.r5+1)+l.length) }:=by unfold P.stW;rw [hL]
 rw [hL]at hst;rw [<-ek];refine zad (P:=fun r=>match r with
  | .inl x=>P.stGo (toWk d) A l=(P.Wk.zero,x.1.2.1)/\¬x.1.2.1=0
  | .inr y=>P.stGo (toWk d) A l=(toWk (unfl y.2.2.1),0)/\WBo y.2.2.1.2.2.1/\(unfl y.2.2.1).2.1.length<=100000000) (zao (fun x=>∃ t:Nat,x.1.2.2.1=(t:Int)/\t<=l.length/\P.StOK (toWk (unfl x.2.2.1)) A (l.drop t)/\P.stGo (toWk (unfl x.2.2.1)) A (l.drop t)=P.stGo (toWk d) A l/\WBo x.2.2.1.2.2.1/\(unfl x.2.2.1).2.1.length<=100000000) (fun x=>((l.length:Int)-x.1.2.2.1).toNat) ?_ ?_) ?_
 · exact ⟨0,rfl,by omega,hst,rfl,hwb,hol⟩
 · rintro ⟨⟨q1,q2,(t':Int),_⟩,_,(b:BxD),(b0:BxD),_⟩ ⟨t,f1,f2,f3,f4,f5,f6⟩;dsimp only at f1 f3 f4 f5 f6 ⊢
   subst f1;refine zac (fun h4=>?_) fun h4=>zab ?_
   · simp only [qaa]at h4;have ht:t<l.length:=by omega
     have w:W ((t:Int)+1)=((t+1:Nat):Int):=by rw [W_id (by omega)];omega
     have hd:l.drop t=l.getD t 0::l.drop (t+1):=by
      rw [qaU ht,qay,qap ht];rfl
     have hpb:=hlb _ (zaC (d:=0) ht)
     rw [hd]at f3 f4;rw [w,qad];generalize l.getD t 0=p at f3 f4 hpb ⊢
     obtain ⟨s1,s2⟩:=f3;have u1:U (A+1)=A+1:=U_id (by omega)
     have u2:U p=p:=U_id (by omega)
     have u3:U (A+1+p)=A+1+p:=U_id (by omega)
     rw [u1,u2,u3];have hbw:b.2.2.1.length<=100000:=s1.wl
     refine zae (zaj.2 ⟨by omega,h4⟩) (zad (zcP b.2.2.1 (A+1+p) (by omega) (by omega)) ?_)
     rintro ⟨⟨(v:Int),_,_⟩,_⟩ ⟨hv,-⟩;dsimp only at hv ⊢
     obtain ⟨y,hy,hy2⟩:=P.zfb (show P.WB (toWk (unfl b)).h.words from f5) (A+1+p)
     have hv':P.zas (toWk (unfl b)).h.words (A+1+p)=v:=hv.symm
     have hvb:0<=v/\v<18446744073709551616:=by rw [<-hv',hy];omega
     have hnext:P.zc9 (toWk (unfl b)) (A+1+p)={ P.evW (toWk (unfl b)) v with h:={ (P.evW (toWk (unfl b)) v).h with words:=P.zaF (P.evW (toWk (unfl b)) v).h.words (A+1+p) [P.evA (toWk (unfl b)) v] } }:=by
      unfold P.zc9;rw [hv']
     have hwbn:=P.wb_next (A:=A+1+p) s1.pl (show P.WB (toWk (unfl b)).h.words from f5) (zw8 s1.pl f5 _)
     have holn:=zs0 (toWk (unfl b)) (A+1+p);have hwl2:=P.evW_wl (x:=toWk (unfl b)) (n:=100000) s1.wl v
     rw [P.stGo,hv']at f4;rw [hv']at s2;refine zad (zhp (unfl b) s1 f5 f6 v hvb) ?_;rintro ⟨⟨(g:WkD),(ad:Int),(e:Int),_⟩,_⟩ ⟨he,had,hg⟩;dsimp only at he had hg ⊢
     rw [<-he]at f4 s2;rw [<-hg,<-had]at hnext;rw [<-hg]at hwl2;have hwl2:g.1.2.1.length<=100000:=hwl2
     refine zac (fun h5=>zab ?_) fun h5=>zad (zgp g.1.2.1 (A+1+p) ad (by omega) (by omega)) ?_
     · simp only [qaz,ne_eq]at h5;rw [if_neg h5]at f4;simp only [qan];exact ⟨f4.symm,h5⟩
     · simp only [qaA]at h5;rw [if_pos h5]at f4;have s2:=s2 h5;rintro ⟨⟨(w3:List Int),_,_⟩,_⟩ ⟨hw3,-⟩;dsimp only at hw3 ⊢
       have hnew:P.zc9 (toWk (unfl b)) (A+1+p)=toWk ((g.1.1,w3,g.1.2.2),g.2):=by
        rw [hnext,hw3];rfl
       rw [hnew]at f4 s2 hwbn holn;refine zab ?_;simp only [qaq];refine ⟨⟨t+1,rfl,by omega,s2,f4,hwbn,?_⟩,by omega⟩
       rcases holn with c | c
       · show (toWk ((g.1.1,w3,g.1.2.2),g.2)).old.length<=_
         rw [c];exact f6
       · show (toWk ((g.1.1,w3,g.1.2.2),g.2)).old.length<=_
         rw [c];simp
   · simp only [qaf]at h4;rw [qbp (by omega),P.stGo]at f4
     simp only [qan];exact ⟨f4.symm,f5,f6⟩
 · rintro r hr;refine zbp (fun x hx=>zab ?_) fun y hy=>zab ?_
   · subst hx;obtain ⟨g1,g2⟩:=hr;refine ⟨fun c=>(by rw [hx]at c;cases c),fun A' hA'=>?_⟩
     rw [hA]at hA'
     have:=Option.some.inj hA'
     subst this;rw [hE,g1];exact ⟨rfl,fun c=>absurd c g2⟩
   · subst hy;obtain ⟨g1,g2,g3⟩:=hr;refine ⟨fun c=>(by rw [hx]at c;cases c),fun A' hA'=>?_⟩
     rw [hA]at hA'
     have:=Option.some.inj hA'
     subst this;rw [hE,hW,g1];refine ⟨rfl,fun _=>⟨rfl,?_,g2,g3⟩⟩
     simp only [zmY]
     rfl
end Go.VI
namespace Go.VI
open Go
theorem zm9{X Y:Type}{f:X->Option (X⊕Y)}{x:X}(Inv:Nat->X->Prop){Q:Y->Prop}(n:Nat)(h0:Inv n x)(h:∀ n x,Inv n x->Tot (Sum.elim (fun x'=>∃ m,m<n/\Inv m x') Q) (f x)):Tot Q (runLoop f x):=by
 have key:∀ (n m:Nat) (x:X),m<=n->Inv m x->∃ k y,iter f k x=some y/\Q y:=by
  intro n;induction n with
  | zero=>
   intro m x hm hi;obtain ⟨r,hr,hq⟩:=h m x hi;cases r with
   | inl x'=>obtain ⟨m',hm',-⟩:=hq;omega
   | inr y=>exact ⟨1,y,by simp [iter,hr],hq⟩
  | succ n ih=>
   intro m x hm hi;obtain ⟨r,hr,hq⟩:=h m x hi;cases r with
   | inl x'=>
    obtain ⟨m',hm',hi'⟩:=hq;obtain ⟨k,y,h1,h2⟩:=ih m' x' (by omega) hi'
    exact ⟨k+1,y,by simp [iter,hr,h1],h2⟩
   | inr y=>exact ⟨1,y,by simp [iter,hr],hq⟩
 obtain ⟨k,y,h1,h2⟩:=key n n x (qam _) h0;exact ⟨y,zmo h1,h2⟩
theorem zvD(d:WkD)(f:Nat)(hA:P.zvK f (toWk d))(hwb:WBo d.1.2.1)(hol:d.2.1.length<=100000000):
 Tot (fun r=>r.1.2.1=(P.allV f (toWk d)).2/\toWk r.1.1=(P.allV f (toWk d)).1/\((P.allV f (toWk d)).2=0->WBo r.1.1.1.2.1/\r.1.1.2.1.length<=100000000)) (F_r11_All (d,())):=by
 rw [ztf];dsimp only
 refine zad (P:=fun r=>r.1.1=(P.allV f (toWk d)).2/\toWk (unfl r.2.2.2.1)=(P.allV f (toWk d)).1/\((P.allV f (toWk d)).2=0->WBo r.2.2.2.1.2.2.1/\(unfl r.2.2.2.1).2.1.length<=100000000)) (zm9 (fun n x=>P.zvK n (toWk (unfl x.2.2.1))/\P.allV n (toWk (unfl x.2.2.1))=P.allV f (toWk d)/\WBo x.2.2.1.2.2.1/\(unfl x.2.2.1).2.1.length<=100000000) f ?_ ?_) fun r hr=>zab hr
 · exact ⟨hA,rfl,hwb,hol⟩
 · rintro n ⟨⟨(e0:Int),_⟩,_,(b:BxD),(b0:BxD),_⟩ ⟨h1,h2,h3,h4⟩;dsimp only at h1 h2 h3 h4 ⊢
   cases n with
   | zero=>exact absurd h1 (by simp [P.zvK])
   | succ n=>
    obtain ⟨k,k1,k2,k3⟩:=h1;refine zad (ztH (unfl b) k k1 (k3.imp id fun ⟨A,a1,a2,a3,a4,a5,_⟩=>⟨A,a1,a2,a3,a4,a5⟩) h3 h4) ?_
    rintro ⟨⟨(g:WkD),(more:Bool),(e:Int),_⟩,_⟩ ⟨g1,g2⟩;dsimp only at g1 g2 ⊢
    rcases k3 with hn | ⟨A,a1,a2,a3,a4,a5,a6⟩
    · have hr:=g1 hn;simp only [Prod.mk.injEq,qbf]at hr;obtain ⟨hg,hm,he⟩:=hr;rw [P.zsN k1 hn]at h2;rw [he,hm];refine zac (fun c=>by simp at c) fun _=>zac (fun _=>zab ?_) fun c=>by simp at c
      simp only [qan];rw [<-h2];refine ⟨rfl,?_,fun _=>⟨?_,?_⟩⟩
      · show toWk g=toWk (unfl b)
        rw [hg]
      · show WBo g.1.2.1
        rw [hg];exact h3
      · show g.2.1.length<=_
        rw [hg];exact h4
    · obtain ⟨g3,g4⟩:=g2 A a1;rw [P.zvC k1 a1,<-g3]at h2;rw [<-g3]at g4 a6;refine zac (fun h5=>zab ?_) fun h5=>?_
      · simp only [qaz,ne_eq]at h5;rw [if_neg h5]at h2;simp only [qan];rw [<-h2];exact ⟨rfl,rfl,fun c=>absurd c h5⟩
      · simp only [qaA]at h5;rw [if_pos h5]at h2;obtain ⟨g5,g6,g7,g8⟩:=g4 h5;obtain ⟨-,a7⟩:=a6 h5;rw [<-g6]at h2 a7;rw [g5];refine zac (fun c=>by simp at c) fun _=>zab ?_
        simp only [qaq];exact ⟨n,by omega,a7,h2,g7,g8⟩
end Go.VI
