import Derived.Test.YtfjkjbffdhoejaaGreatV10
set_option linter.unusedSimpArgs false
set_option linter.unusedVariables false
set_option maxRecDepth 100000
set_option maxHeartbeats 4000000
namespace Go.VI
open Go
theorem zt2(d:WkD)(hwb:WBo d.1.2.1)(hwl:d.1.2.1.length<=100000000)(hql:d.2.2.2.1.length<=100000000)(a:Int)(ha:0<=a/\a<18446744073709551616):Tot (fun r=>r.1.1=P.zoX (toWk d) a) (F_r12_after (d,a,())):=by
 rw [zrd];dsimp only
 unfold P.zoX;have eq:(toWk d).queue=d.2.2.2.1:=rfl
 rw [eq];refine zad (zdW d.2.2.2.1 a hql) ?_;rintro ⟨⟨(b:Bool),_⟩,_⟩ hb;dsimp only at hb ⊢
 refine zac (fun h1=>zab ?_) fun h1=>zad (zc1 d.1.2.1 a hwl ha) ?_
 . rw [h1]at hb;rw [if_pos (qat hb.symm)]
 rw [h1]at hb;rw [if_neg (qa4 hb.symm)];obtain ⟨y,hy,hy2⟩:=P.zeU (show P.WB (toWk d).h.words from hwb) a
 rintro ⟨⟨(wd:Int),_,_⟩,_⟩ ⟨hwd,-⟩;dsimp only at hwd ⊢
 have hwd:wd=(y:Int):=hwd.trans hy
 subst hwd;refine zad (zkF y hy2) fun r hr=>zab ?_
 unfold P.evWd;rw [hy,qac];exact hr.1
theorem zwa(d:WkD)(hwb:WBo d.1.2.1)(hwl:d.1.2.1.length<=100000)(hpl:d.1.2.2.1.length<=100000)(hol:d.2.1.length<=100000000)(hob:∀ a∈d.2.1,0<=a/\a<18446744073709551616)(htl:d.2.2.1.length<=100000000)(hql:d.2.2.2.1.length<=100000000):
 Tot (fun r=>toWk r.1.1=P.zc0 (toWk d)/\WBo r.1.1.1.2.1) (F_r12_fill (d,())):=by
 rw [zs9];dsimp only
 refine zad (P:=fun r=>toWk (unfl r.2.2.1)=P.zc0 (toWk d)/\WBo r.2.2.1.2.2.1) (zai (fun x=>∃ k:Nat,x.1.1=(k:Int)/\k<=d.2.1.length/\toWk (unfl x.2.2.1)=P.zmH (toWk d) k/\WBo x.2.2.1.2.2.1/\x.2.2.1.2.2.1.length<=100000) (fun x=>((d.2.1.length:Int)-x.1.1).toNat) ?_ ?_) fun r hr=>zab hr
 . exact ⟨0,rfl,by omega,rfl,hwb,hwl⟩
 . rintro ⟨⟨(k':Int),_⟩,_,(b:BxD),_⟩ ⟨k,e1,e2,e3,e4,e5⟩;dsimp only at e1 e3 e4 e5 ⊢
   subst e1;have fs:=P.zmC (((toWk d).old).take k) (toWk d);rw [show ((toWk d).old.take k).foldl P.zaw (toWk d)=P.zmH (toWk d) k from rfl,<-e3]at fs
   obtain ⟨y1,y2,y3,y4,y5,y6,y7,y8⟩:=fs;have z7:b.2.2.2.2.2.2.1=d.2.1:=y7
   have z6:b.2.2.2.2.2.2.2.2.1=d.2.2.2.1:=y6
   have z5:b.2.2.2.2.2.2.2.1=d.2.2.1:=y5
   have zl:(unfl b).1.2.2.1.length<=100000000:=by
    have:=congrArg List.length y3
    have h1:(toWk (unfl b)).h.pages.length=(unfl b).1.2.2.1.length:=qaj ..
    have h2:(toWk d).h.pages.length=d.1.2.2.1.length:=qaj ..
    omega
   have zL:b.2.2.2.2.2.2.1.length=d.2.1.length:=by rw [z7]
   have zq:b.2.2.2.2.2.2.2.2.1.length<=100000000:=by rw [z6];exact hql
   refine zac (fun h4=>?_) fun h4=>zab ?_
   . simp only [qab]at h4;have hk:k<d.2.1.length:=by omega
     have w:W ((k:Int)+1)=((k+1:Nat):Int):=by rw [W_id (by omega)];omega
     have hx:(toWk d).old[k]?=some (b.2.2.2.2.2.2.1.getD k 0):=by rw [z7];exact getD_some hk
     have hab:0<=b.2.2.2.2.2.2.1.getD k 0/\b.2.2.2.2.2.2.1.getD k 0<18446744073709551616:=by rw [z7];exact hob _ (zaJ (d:=0) hk)
     have hin:inB (k:Int) b.2.2.2.2.2.2.1.length=true:=zag.2 ⟨by omega,h4⟩
     have hst:=P.ztO hx;rw [<-e3]at hst;rw [w,qac,hin];generalize b.2.2.2.2.2.2.1.getD k 0=a at hst hab ⊢
     unfold P.zaw P.zr2 at hst;have eq:(toWk (unfl b)).queue=b.2.2.2.2.2.2.2.2.1:=rfl
     rw [eq]at hst;refine zae rfl (zad (ziO b.1 b.2.1 a hab) ?_);rintro ⟨⟨(i:Int),_,_,_⟩,_⟩ ⟨hi,-,-⟩;dsimp only at hi ⊢
     have hi':P.ofI (toWk (unfl b)).h.pw (toWk (unfl b)).h.np a=i:=hi.symm
     rw [hi']at hst;have hz5:(unfl b).2.2.1.length<=100000000:=by
      show b.2.2.2.2.2.2.2.1.length<=_
      rw [z5];exact htl
     refine zad (zer (unfl b) i hz5 zl) ?_;rintro ⟨⟨(pr:Bool),_⟩,_⟩ hpr;dsimp only at hpr ⊢
     rw [<-hpr]at hst;refine zae (by cases pr <;> rfl) (zac (fun h5=>zab ?_) fun h5=>zad (zdW b.2.2.2.2.2.2.2.2.1 a zq) ?_)
     . simp only [qar]at h5;rw [h5,Bool.false_and]at hst;simp only [qam];refine ⟨⟨k+1,rfl,by omega,?_,e4,e5⟩,by omega⟩
       exact hst.symm
     simp only [qaw]at h5;rw [h5,qaY]at hst;rintro ⟨⟨(hq:Bool),_⟩,_⟩ hhq;dsimp only at hhq ⊢
     rw [<-hhq]at hst;refine zac (fun h6=>zab ?_) fun h6=>zae rfl ?_
     . rw [h6]at hst;simp only [qam];refine ⟨⟨k+1,rfl,by omega,?_,e4,e5⟩,by omega⟩
       exact hst.symm
     rw [h6]at hst;simp only [Bool.not_false,if_true]at hst;refine zad (zsk (unfl b) e4 (by show b.2.2.1.length<=_;omega) a hab) ?_
     rintro ⟨⟨⟨(dk:Int),(dn:Int),(dm:Int),_⟩,_⟩,_⟩ hH;dsimp only at hH ⊢
     have en:(P.evH (toWk (unfl b)) a).n=dn:=(congrArg P.Hd.n hH).symm
     have hdn:0<=dn/\dn<=4096:=by
      rw [<-en];show 0<=P.decN _/\P.decN _<=_
      unfold P.decN;split
      . unfold P.dN;omega
      . omega
     rw [zgs 0 dn 0 (by omega),qaa]
     dsimp only;have hL:[P.encV 0 dn 0]++List.replicate dn.toNat (0:Int)=P.znY (toWk (unfl b)) a:=by unfold P.znY;rw [en];rfl
     rw [hL];refine zae rfl (zae (qad hdn.1) (zae (zak.2 (by simp only [qaJ,qbM];omega)) (zad (zfo b.2.2.1 a (P.znY (toWk (unfl b)) a) (by omega) (by unfold P.znY;rw [en,qaJ,qbf];omega) hab) ?_)))
     rintro ⟨⟨(w3:List Int),_,_⟩,_⟩ ⟨hw3,-⟩;dsimp only at hw3 ⊢
     have hwb3:WBo w3:=by
      rw [hw3];refine P.zhT e4 fun x hx=>?_
      unfold P.znY at hx;rcases qas.1 hx with rfl | hx
      . exact P.encV_wb _
      . exact P.WB.zeros _ x hx
     have hwl3:w3.length<=100000:=by
      rw [hw3];exact qaA (P.zwL _ _ _) e5
     refine zab ?_;simp only [qam];refine ⟨⟨k+1,rfl,by omega,?_,hwb3,hwl3⟩,by omega⟩
     rw [hst,hw3,zkI]
     rfl
   . simp only [qag]at h4;simp only [qal];have hkk:k=d.2.1.length:=by omega
     refine ⟨?_,e4⟩;have:P.zmH (toWk d) k=P.zc0 (toWk d):=by
      unfold P.zmH P.zc0;rw [qa3 (by show d.2.1.length<=k;omega)]
     rw [<-this,<-e3]
end Go.VI
namespace Go.VI
open Go
theorem zv9(d:WkD)(hwb:WBo d.1.2.1)(hpw:0<=d.1.1.1/\d.1.1.1<=64)(hpl:d.1.2.2.1.length<=64)(hwl:(d.1.2.1.length:Int)=d.1.2.2.1.length*d.1.1.1):
 Tot (fun r=>toWk r.1.1=P.freeW (toWk d)/\WBo r.1.1.1.2.1) (F_r12_free (d,())):=by
 have hlm:(toWk d).h.pages.length=d.1.2.2.1.length:=qaj ..
 have epw:(toWk d).h.pw=d.1.1.1:=rfl
 have esp:(toWk d).h.space=d.1.2.2.2.1:=rfl
 have hw4:(d.1.2.1.length:Int)<=4096:=by
  rw [hwl];calc (d.1.2.2.1.length:Int)*d.1.1.1<=64*d.1.1.1:=qaV (by omega) (by omega)
   _<=4096:=by omega
 have hWL:=fun k (hk:k<=d.1.2.2.1.length)=>P.zp0 (toWk d) (show 0<=(toWk d).h.pw from hpw.1) (by rw [hlm];exact hwl) k (by rw [hlm];exact hk)
 have hPL:∀ k,(P.frPs (toWk d) k).length=d.1.2.2.1.length:=fun k=>by rw [P.zp1];exact hlm
 rw [zs8];dsimp only
 refine zae (zak.2 (by omega)) (zae (zak.2 (by omega)) (zad (P:=fun r=>r.2.1.1=P.frWs (toWk d) d.1.2.2.1.length/\r.2.1.2.1.map toPg=P.frPs (toWk d) d.1.2.2.1.length/\WBo r.2.1.1/\r.2.2.1=(d.1.1.1,d.1.1.2.1,(),(),d.1.2.2.2.1,d.1.2.2.2.2.1,d.2.1,d.2.2.1,d.2.2.2.1,d.2.2.2.2.1,d.2.2.2.2.2.1.1,d.2.2.2.2.2.1.2.1,d.2.2.2.2.2.1.2.2.1,P.frR (toWk d) d.1.2.2.1.length,d.2.2.2.2.2.1.2.2.2.2.1,d.2.2.2.2.2.1.2.2.2.2.2.1,())) (zai (fun x=>∃ k:Nat,x.1.1=(k:Int)/\k<=d.1.2.2.1.length/\x.2.1.1=P.frWs (toWk d) k/\x.2.1.2.1.map toPg=P.frPs (toWk d) k/\WBo x.2.1.1/\x.2.2.1=(d.1.1.1,d.1.1.2.1,(),(),d.1.2.2.2.1,d.1.2.2.2.2.1,d.2.1,d.2.2.1,d.2.2.2.1,d.2.2.2.2.1,d.2.2.2.2.2.1.1,d.2.2.2.2.2.1.2.1,d.2.2.2.2.2.1.2.2.1,P.frR (toWk d) k,d.2.2.2.2.2.1.2.2.2.2.1,d.2.2.2.2.2.1.2.2.2.2.2.1,())) (fun x=>((d.1.2.2.1.length:Int)-x.1.1).toNat) ?_ ?_) ?_))
 . exact ⟨0,rfl,by omega,rfl,rfl,hwb,rfl⟩
 . rintro ⟨⟨(k':Int),_⟩,⟨(ws:List Int),(ps:List PgD),_⟩,b,_⟩ ⟨k,e1,e2,e3,e4,e5,e6⟩;dsimp only at e1 e3 e4 e5 e6 ⊢
   subst e1 e6;dsimp only;have hpsl:ps.length=d.1.2.2.1.length:=by
    have:=congrArg List.length e4
    rw [hPL,qaj]at this;exact this
   refine zac (fun h4=>?_) fun h4=>zab ?_
   . simp only [qab]at h4;have hk:k<d.1.2.2.1.length:=by omega
     have w:W ((k:Int)+1)=((k+1:Nat):Int):=by rw [W_id (by omega)];omega
     have hin:inB (k:Int) ps.length=true:=zag.2 ⟨by omega,h4⟩
     have hat:(toWk d).h.pages[k]?=some (toPg (d.1.2.2.1.getD k PG0)):=zaF hk
     have h5:=P.ztM (toWk d) k k (qao _);rw [<-e4,zaF (by omega),hat]at h5
     have h5:toPg (ps.getD k PG0)=toPg (d.1.2.2.1.getD k PG0):=Option.some.inj h5
     have hB:P.frB (toWk d) k=(!((ps.getD k PG0).1 == 0)&&((ps.getD k PG0).2.1 == d.1.2.2.2.1)):=by
      unfold P.frB;rw [P.zam hat,<-h5,qa8,qae,qae,qab,qar,qar,qag,qaI,qaz];exact Iff.rfl
     have r1:P.frPs (toWk d) (k+1)=if P.frB (toWk d) k then (P.frPs (toWk d) k).set k P.Pg.zero else P.frPs (toWk d) k:=rfl
     have r2:P.frWs (toWk d) (k+1)=if P.frB (toWk d) k then Go.splice (P.frWs (toWk d) k) (k*(toWk d).h.pw.toNat) (List.replicate (toWk d).h.pw.toNat 0) else P.frWs (toWk d) k:=rfl
     have r3:P.frR (toWk d) (k+1)=if P.frB (toWk d) k then RowKit.wrap64 (P.frR (toWk d) k+1) else P.frR (toWk d) k:=rfl
     rw [w,qac];simp only [cor];refine zae hin (zac (fun h6=>zab ?_) fun h6=>zae hin ?_)
     . have hB0:P.frB (toWk d) k=false:=by
        rw [hB];rw [show ((ps.getD k PG0).2.1 != d.1.2.2.2.1) = !((ps.getD k PG0).2.1 == d.1.2.2.2.1) from rfl]at h6
        revert h6
        generalize ((ps.getD k PG0).1 == 0)=p
        generalize ((ps.getD k PG0).2.1 == d.1.2.2.2.1)=q
        cases p <;> cases q <;> simp
       rw [hB0]at r1 r2 r3;simp only [qbm,qbj]at r1 r2 r3;simp only [qam];exact ⟨⟨k+1,rfl,by omega,by rw [r2];exact e3,by rw [r1];exact e4,e5,by rw [r3]⟩,by omega⟩
     . have hB1:P.frB (toWk d) k=true:=by
        rw [hB];rw [show ((ps.getD k PG0).2.1 != d.1.2.2.2.1) = !((ps.getD k PG0).2.1 == d.1.2.2.2.1) from rfl]at h6
        revert h6
        generalize ((ps.getD k PG0).1 == 0)=p
        generalize ((ps.getD k PG0).2.1 == d.1.2.2.2.1)=q
        cases p <;> cases q <;> simp
       rw [hB1]at r1 r2 r3;simp only [if_true]at r1 r2 r3;have hwsl:ws.length=d.1.2.1.length:=by rw [e3];exact hWL k (by omega)
       obtain ⟨pw,hpwn⟩:=qaP hpw.1;have hpg:=P.zop (k:=k) (m:=d.1.2.2.1.length) (n:=d.1.2.1.length) hpw.1 hk hwl
       rw [hpwn,qac]at hpg;have hkp:((k*pw:Nat):Int)=(k:Int)*pw:=by rw [qct]
       have w1:W ((k:Int)*d.1.1.1)=((k*pw:Nat):Int):=by rw [hpwn,<-hkp];exact W_id (by omega)
       rw [w1];refine zad (P:=fun r=>r.2.2.1=P.frWs (toWk d) (k+1)/\WBo r.2.2.1) (zai (fun x=>∃ z:Nat,x.1.1=(z:Int)/\z<=pw/\x.2.2.1=P.wrow ws (List.replicate pw 0) (k*pw) z/\WBo x.2.2.1) (fun x=>((pw:Int)-x.1.1).toNat) ?_ ?_) ?_
       . exact ⟨0,rfl,by omega,(P.zqJ _ _ _).symm,e5⟩
       . rintro ⟨⟨(z':Int),_⟩,_,(us:List Int),_⟩ ⟨z,f1,f2,f3,f4⟩;dsimp only at f1 f3 f4 ⊢
         subst f1;have hul:us.length=ws.length:=by rw [f3,P.zo6 (by rw [qbf];omega)]
         refine zac (fun h7=>?_) fun h7=>zab ?_
         . simp only [qab]at h7;have hz:z<pw:=by omega
           have wz:W ((z:Int)+1)=((z+1:Nat):Int):=by rw [W_id (by omega)];omega
           have w2:W (((k*pw:Nat):Int)+z)=((k*pw+z:Nat):Int):=by rw [W_id (by omega)];omega
           rw [wz,w2,qac];refine zae (zag.2 ⟨by omega,by omega⟩) (zab ?_)
           simp only [qam];refine ⟨⟨z+1,rfl,by omega,?_,f4.set (by omega)⟩,by omega⟩
           rw [f3];exact P.zuA (by rw [qbf];omega) (by rw [List.getElem?_replicate,if_pos hz])
         . simp only [qag]at h7;simp only [qal];refine ⟨?_,f4⟩;rw [f3,P.zuB (by rw [qbf];omega),r2,epw,hpwn,qac,<-e3]
       . rintro ⟨_,_,(us:List Int),_⟩ ⟨g1,g2⟩;dsimp only at g1 g2 ⊢
         refine zab ?_;simp only [qam];refine ⟨⟨k+1,rfl,by omega,g1,?_,g2,?_⟩,by omega⟩
         . rw [qba,e4,r1];rfl
         . rw [r3,zkI]
   . simp only [qag]at h4;simp only [qal];have hkk:k=d.1.2.2.1.length:=by omega
     rw [<-hkk];exact ⟨e3,e4,e5,by trivial⟩
 . rintro ⟨_,⟨(ws:List Int),(ps:List PgD),_⟩,b,_⟩ ⟨g1,g2,g3,g4⟩;dsimp only at g1 g2 g3 g4 ⊢
   subst g4;refine zab ⟨?_,g3⟩;unfold P.freeW;rw [hlm,<-g1,<-g2]
   rfl
end Go.VI
namespace Go.VI
open Go
theorem objs_wb(h:P.Hp):P.WB (P.zaf h):=fun a ha=>P.zog h a (qbR.1 ha).1
theorem zxw(h:P.Hp):(P.zaf h).length<=4096:=qaA (qbH _ _) (P.zcj h)
theorem zqm(h:HpD)(hw:HpW h)(st wk:List Int)(hst:P.WB st)(hwk:P.WB wk)(hsl:st.length<=100000)(hwl:wk.length<=100000):
 Tot (fun r=>r.1.2.2.2.2.1=P.zgn (toHp h) st wk/\(P.zgn (toHp h) st wk=0->toHp r.1.1=P.ztV (toHp h) st wk/\r.1.2.1=P.ztT (toHp h) st/\r.1.2.2.1=P.ztU (toHp h) st wk/\WBo r.1.1.2.1)) (F_r12_Collect (h,st,wk,())):=by
 have bad:∀ c:Int,¬c=0->P.zgn (toHp h) st wk=c->Tot (fun r:AG×Unit=>r.1.2.2.2.2.1=P.zgn (toHp h) st wk/\(P.zgn (toHp h) st wk=0->toHp r.1.1=P.ztV (toHp h) st wk/\r.1.2.1=P.ztT (toHp h) st/\r.1.2.2.1=P.ztU (toHp h) st wk/\WBo r.1.1.2.1)) (some ((H0,[],[],(0,0,0,0,0,0,()),c,()),())):=fun c h0 he=>
  zab ⟨he.symm,fun q=>absurd (he.symm.trans q) h0⟩
 rw [znD];dsimp only
 try rw [zas]
 refine zad (za3 _ hw) fun r hr=>?_
 obtain ⟨⟨(b:Bool),_⟩,_⟩:=r;have hb:b=P.okH (toHp h):=hr
 subst hb;dsimp only;refine zac (fun h1=>bad 1 (by decide) ?_) fun h1=>zad (zkE h hw st (by omega)) ?_
 . simp only [qar]at h1;unfold P.zgn;rw [h1];rfl
 simp only [qaw]at h1;rintro ⟨⟨(b1:Bool),_⟩,_⟩ hb1;dsimp only at hb1 ⊢
 refine zac (fun h2=>bad 19 (by decide) ?_) fun h2=>zad (zkE h hw wk (by omega)) ?_
 . simp only [qar]at h2;unfold P.zgn;rw [h1,<-hb1,h2];rfl
 simp only [qaw]at h2;rintro ⟨⟨(b2:Bool),_⟩,_⟩ hb2;dsimp only at hb2 ⊢
 refine zac (fun h3=>bad 19 (by decide) ?_) fun h3=>zad (zmX h hw) ?_
 . simp only [qar]at h3;unfold P.zgn;rw [h1,<-hb1,<-hb2,h2,h3];rfl
 simp only [qaw]at h3;have hE:P.zgn (toHp h) st wk=if (P.zqb (toHp h) st).2.2=0 then (P.znZ (toHp h) st).2 else (P.zqb (toHp h) st).2.2:=by
  unfold P.zgn;rw [h1,<-hb1,<-hb2,h2,h3];rfl
 have hgood:P.zg1 (toHp h)=true:=by
  have:P.zjn (toHp h) st=true:=by rw [<-hb1];exact h2
  unfold P.zjn at this;simp only [qae]at this;exact this.1
 rintro ⟨⟨(g:WkD),(e0:Int),_⟩,_⟩ ⟨he0,hg⟩;dsimp only at he0 hg ⊢
 rw [if_pos h1,if_pos hgood]at he0;have hg:=hg he0;have hR:=P.zpg st (P.zbB (toHp h)) [] (P.zgp h1) hst;have ecR:P.zba (toWk g) [] st=P.zqb (toHp h) st:=by rw [hg];rfl
 refine zad (zt3 g st (by rw [hg];exact hR.1) (show WBo (toWk g).h.words by rw [hg];exact hw.wb) (by
  have:(toWk g).old=P.zaf (toHp h):=by rw [hg];rfl
  have e:(toWk g).old=g.2.1:=rfl
  rw [<-e,this];have:=zxw (toHp h);omega) (by omega)) ?_
 rw [ecR];rintro ⟨⟨(g1:WkD),(nst:List Int),(e1:Int),_⟩,_⟩ ⟨he1,hns,hg1,hwb1⟩;dsimp only at he1 hns hg1 hwb1 ⊢
 refine zac (fun h4=>?_) fun h4=>?_
 . simp only [qaC,ne_eq]at h4;exact bad e1 h4 (by rw [hE,<-he1,if_neg h4])
 simp only [qaB]at h4;rw [<-he1,if_pos h4]at hE;obtain ⟨I1,L1,-⟩:=hR.2 (show (P.zqb (toHp h) st).2.2=0 from he1.symm.trans h4)
 have I1:P.Inv (toHp h) (toWk g1):=by rw [hg1];exact I1
 have L1:P.Later (P.zbB (toHp h)) (toWk g1):=by rw [hg1];exact L1
 have hA:=P.zyd ((P.zaf (toHp h)).length+1) (toWk g1) 0 I1 (by rw [L1.sc];rfl) (by omega) (by omega)
 have hob:=zxw (toHp h);have ecA:P.allV ((P.zaf (toHp h)).length+1) (toWk g1)=P.znZ (toHp h) st:=by rw [hg1];rfl
 refine zad (zyf g1 ((P.zaf (toHp h)).length+1) hA.1 hwb1 (by
  have e:(toWk g1).old=g1.2.1:=rfl
  rw [<-e,I1.old];omega)) ?_
 rw [ecA]at hA ⊢
 rintro ⟨⟨(g2:WkD),(e2:Int),_⟩,_⟩ ⟨he2,hg2,hwb2⟩;dsimp only at he2 hg2 hwb2 ⊢
 rw [<-he2]at hE hA hwb2;refine zac (fun h5=>?_) fun h5=>?_
 . simp only [qaC,ne_eq]at h5;exact bad e2 h5 hE
 simp only [qaB]at h5;have I2:P.Inv (toHp h) (toWk g2):=by rw [hg2];exact hA.2 h5
 obtain ⟨hwb2,hol2⟩:=hwb2 h5;have F2:=I2.fwok;refine zad (P:=fun r=>r.2.1.1=wk.map (P.zk4 (toWk g2))/\toWk (unfl r.2.2.1)={ toWk g2 with r4:=wk.foldl (P.zeX (toWk g2)) (toWk g2).r4 }) (zai (fun x=>∃ k:Nat,x.1.2.1=(k:Int)/\k<=wk.length/\x.2.1.1=(wk.take k).map (P.zk4 (toWk g2))/\toWk (unfl x.2.2.1)={ toWk g2 with r4:=(wk.take k).foldl (P.zeX (toWk g2)) (toWk g2).r4 }) (fun x=>((wk.length:Int)-x.1.2.1).toNat) ?_ ?_) ?_
 . exact ⟨0,rfl,by omega,rfl,rfl⟩
 . rintro ⟨⟨_,(k':Int),_⟩,⟨(acc:List Int),_⟩,(b:BxD),_⟩ ⟨k,f1,f2,f3,f4⟩;dsimp only at f1 f3 f4 ⊢
   subst f1 f3;refine zac (fun h6=>?_) fun h6=>zab ?_
   . simp only [qab]at h6;have hk:k<wk.length:=by omega
     have w:W ((k:Int)+1)=((k+1:Nat):Int):=by rw [W_id (by omega)];omega
     have hin:inB (k:Int) wk.length=true:=zag.2 ⟨by omega,h6⟩
     have hx:=getD_some hk;have hab:=hwk _ (zaJ (d:=0) hk)
     have htk:=P.zbd hx;rw [w,qac,hin];generalize wk.getD k 0=a at htk hab ⊢
     have hmap:(wk.take (k+1)).map (P.zk4 (toWk g2))=(wk.take k).map (P.zk4 (toWk g2))++[P.zk4 (toWk g2) a]:=by rw [htk,qa2];rfl
     have hfold:(wk.take (k+1)).foldl (P.zeX (toWk g2)) (toWk g2).r4=P.zeX (toWk g2) ((wk.take k).foldl (P.zeX (toWk g2)) (toWk g2).r4) a:=by rw [htk,List.foldl_append];rfl
     have hr4:(unfl b).2.2.2.2.2.1.2.2.2.2.1=(wk.take k).foldl (P.zeX (toWk g2)) (toWk g2).r4:=congrArg P.Wk.r4 f4
     have hwdb:(unfl b).1.2.1=g2.1.2.1:=congrArg (fun z=>z.h.words) f4
     have hqb:(unfl b).2.2.2.1=g2.2.2.2.1:=congrArg (fun z=>z.queue) f4
     have hll:((wk.take k).map (P.zk4 (toWk g2))).length=k:=by rw [qaj,qau];omega
     refine zae rfl (zae (zaz fun _=>rfl) (zac (fun h7=>?_) fun h7=>zae (zak.2 (by simp;omega)) (zab ?_)))
     . simp only [qaC,ne_eq]at h7;refine zad (zt2 (unfl b) (by rw [hwdb];exact hwb2) (by rw [hwdb];have:=F2.wl;have e:(toWk g2).h.words.length=g2.1.2.1.length:=rfl;omega) (by rw [hqb];have:=F2.ql;have e:(toWk g2).queue.length=g2.2.2.2.1.length:=rfl;omega) a hab) ?_
       rintro ⟨⟨(v:Int),_⟩,_⟩ hv;dsimp only at hv ⊢
       have hv':P.zoX (toWk g2) a=v:=by rw [hv,f4];rfl
       have hleft:P.zk4 (toWk g2) a=v:=by unfold P.zk4;rw [if_neg h7,hv']
       rw [hleft]at hmap;unfold P.zeX at hfold;rw [if_neg h7,hv']at hfold;refine zac (fun h8=>zae (zak.2 (by simp;omega)) (zab ?_)) fun h8=>zae (zak.2 (by simp;omega)) (zab ?_)
       . simp only [qaz]at h8;rw [if_pos h8]at hfold;simp only [qam];refine ⟨⟨k+1,rfl,by omega,hmap.symm,?_⟩,by omega⟩
         unfold P.zeX;rw [hfold,zkI];have hr4':b.2.2.2.2.2.2.2.2.2.2.2.2.2.2.1=_:=hr4
         rw [hr4'];have:=congrArg (fun z:P.Wk=>{ z with r4:=RowKit.wrap64 ((wk.take k).foldl (P.zeX (toWk g2)) (toWk g2).r4+1) }) f4
         exact this
       . simp only [qaI,ne_eq]at h8;rw [if_neg h8]at hfold;simp only [qam];refine ⟨⟨k+1,rfl,by omega,hmap.symm,?_⟩,by omega⟩
         unfold P.zeX;rw [hfold];exact f4
     . simp only [qaB]at h7;have hleft:P.zk4 (toWk g2) a=0:=by unfold P.zk4;rw [if_pos h7]
       rw [hleft]at hmap;unfold P.zeX at hfold;rw [if_pos h7]at hfold;simp only [qam];refine ⟨⟨k+1,rfl,by omega,hmap.symm,?_⟩,by omega⟩
       unfold P.zeX;rw [hfold];exact f4
   . simp only [qag]at h6;simp only [qal];rw [qa3 (by omega)]at f4 ⊢
     exact ⟨by trivial,f4⟩
 . rintro ⟨_,⟨(nwk:List Int),_⟩,(b:BxD),_⟩ ⟨hn,hbx⟩;dsimp only at hn hbx ⊢
   have ecX:toWk (unfl b)=P.zcD (toHp h) st wk:=by rw [hbx];unfold P.zcD;rw [<-hg2]
   have I3:P.Inv (toHp h) (toWk (unfl b)):=by rw [hbx];exact I2.reports _ _ _ _ _ _ _
   have F3:=I3.fwok;have hwb3:WBo (unfl b).1.2.1:=by
    have:(unfl b).1.2.1=g2.1.2.1:=congrArg (fun z=>z.h.words) hbx
    rw [this];exact hwb2
   have q1:(unfl b).1.2.1.length<=100000:=F3.wl
   have q2:(toWk (unfl b)).h.pages.length=(unfl b).1.2.2.1.length:=qaj ..
   have q3:=F3.pl.np1;have q4:(unfl b).2.1=P.zaf (toHp h):=I3.old
   refine zad (zwa (unfl b) hwb3 q1 (by omega) (by rw [q4];omega) (by rw [q4];exact objs_wb _) (by have:=F3.pl.tk;have e:(toWk (unfl b)).taken.length=(unfl b).2.2.1.length:=rfl;omega) (by have:=F3.ql;have e:(toWk (unfl b)).queue.length=(unfl b).2.2.2.1.length:=rfl;omega)) ?_
   rintro ⟨⟨(g3:WkD),_⟩,_⟩ ⟨hg3,hwb4⟩;dsimp only at hg3 hwb4 ⊢
   have fs:=P.zmC (toWk (unfl b)).old (toWk (unfl b));rw [show (toWk (unfl b)).old.foldl P.zaw (toWk (unfl b))=P.zc0 (toWk (unfl b)) from rfl,<-hg3]at fs
   obtain ⟨y1,y2,y3,y4,y5,y6,y7,y8⟩:=fs;obtain ⟨p1,p2,p3,-⟩:=P.zaN (zf9 h1);have c3:=P.zaj p1;have z1:g3.1.1.1=(toHp h).pw:=(show (toWk g3).h.pw=_ from y1).trans I3.pw
   have z2:g3.1.2.2.1.length=(toHp h).pages.length:=by
    have e:(toWk g3).h.pages.length=g3.1.2.2.1.length:=qaj ..
    rw [<-e,y3];exact I3.pl
   have z3:g3.1.2.1.length=(toHp h).words.length:=by
    have:=I3.fill
    rw [<-hg3]at this;exact this
   refine zad (zv9 g3 hwb4 (by rw [z1];omega) (by omega) (by rw [z1,z2,z3,p3,p2])) ?_
   rintro ⟨⟨(g4:WkD),_⟩,_⟩ ⟨hg4,hwb5⟩;dsimp only at hg4 hwb5 ⊢
   have ecW:toWk g4=P.ztS (toHp h) st wk:=by unfold P.ztS;rw [hg4,hg3,ecX]
   have hsp:0<=g4.1.2.2.2.1/\g4.1.2.2.2.1<=1:=by
    have e:(toWk g4).h.space=(toWk (unfl b)).h.space:=by
     rw [hg4];show (toWk g3).h.space=_
     exact y4
    have:g4.1.2.2.2.1=(toWk (unfl b)).h.space:=e
    have s0:=F3.pl.sp0;have s1:=F3.pl.sp1;omega
   have ws:W (1-g4.1.2.2.2.1)=1-g4.1.2.2.2.1:=W_id (by omega)
   have htk4:g4.2.2.1=(P.ztS (toHp h) st wk).taken:=congrArg P.Wk.taken ecW
   have htl:g4.2.2.1.length<=1000:=by
    have e:g4.2.2.1=(unfl b).2.2.1:=by
     have:(toWk g4).taken=(toWk g3).taken:=by rw [hg4];rfl
     exact this.trans y5
    rw [e];exact F3.pl.tk
   have hE0:P.zgn (toHp h) st wk=0:=by rw [hE];exact h5
   have done:∀ bp:Int,bp=((P.ztS (toHp h) st wk).taken.getLast?).getD (-1)->Tot (fun r:AG×Unit=>r.1.2.2.2.2.1=P.zgn (toHp h) st wk/\(P.zgn (toHp h) st wk=0->toHp r.1.1=P.ztV (toHp h) st wk/\r.1.2.1=P.ztT (toHp h) st/\r.1.2.2.1=P.ztU (toHp h) st wk/\WBo r.1.1.2.1)) (some ((((g4.1.1.1,g4.1.1.2.1,()),g4.1.2.1,g4.1.2.2.1,1-g4.1.2.2.2.1,bp,()),nst,nwk,(g4.2.2.2.2.2.1.1,g4.2.2.2.2.2.1.2.1,g4.2.2.2.2.2.1.2.2.1,g4.2.2.2.2.2.1.2.2.2.1,g4.2.2.2.2.2.1.2.2.2.2.1,g4.2.2.2.2.2.1.2.2.2.2.2.1,()),0,()),())):=fun bp hbp=>by
    refine zab ⟨hE0.symm,fun _=>⟨?_,?_,?_,hwb5⟩⟩
    . unfold P.ztV;rw [<-hbp,<-ecW];rfl
    . unfold P.ztT;exact hns
    . unfold P.ztU;rw [<-hg2];exact hn
   rw [ws];refine zae (zaz fun h8=>?_) (zac (fun h8=>done _ ?_) fun h8=>done _ ?_)
   . simp only [qab]at h8;rw [W_id (by omega)]
     exact zag.2 ⟨by omega,by omega⟩
   . simp only [qab]at h8;rw [<-htk4];rcases qcg g4.2.2.1 with c | ⟨pre,t,c⟩
     . rw [c]at h8;cases h8
     . rw [qcw]at c;have hlen:g4.2.2.1.length=pre.length+1:=by rw [c];simp
       rw [W_id (by omega),show ((g4.2.2.1.length:Int)-1).toNat=pre.length by omega,c,qax,qbo (qao _),qbG]
       simp
   . simp only [qag]at h8;rw [<-htk4,qbT (show g4.2.2.1.length=0 by omega)];rfl
end Go.VI
namespace Go.VI
open Go
theorem zg3(n:Nat)(hn:n<400)(d:WdD)(hm:Mk n d):Tot (fun (r:(WdD×Unit)×Unit)=>Mk (n+1) r.1.1) (F_made_World_Collect (d,())):=by
 obtain ⟨g,st,wk,_⟩:=d;have L:=hm.lens;have s1:st.length<=n:=L.stn
 have s2:wk.length<=n:=L.wkn
 rw [zgd];dsimp only
 try rw [zas]
 refine zad (zqm g hm.hw st wk L.st L.wk (by omega) (by omega)) ?_
 rintro ⟨⟨(g':HpD),(st':List Int),(wk':List Int),_,(e:Int),_⟩,_⟩ ⟨he,hr⟩;dsimp only at he hr ⊢
 refine zac (fun h1=>zab ?_) fun h1=>zab (hm.keep hn)
 simp only [qaz]at h1;have hE:P.zgn (toHp g) st wk=0:=by rw [<-he];exact h1
 obtain ⟨r1,r2,r3,r4⟩:=hr hE;refine ⟨?_,r4,by omega⟩
 have ew:toWd (g',st',wk',())=⟨P.ztV (toWd (g,st,wk,())).h (toWd (g,st,wk,())).st (toWd (g,st,wk,())).wk,P.ztT (toWd (g,st,wk,())).h (toWd (g,st,wk,())).st,P.ztU (toWd (g,st,wk,())).h (toWd (g,st,wk,())).st (toWd (g,st,wk,())).wk⟩:=by
  unfold toWd;dsimp only;rw [r1,r2,r3]
 dsimp only;rw [ew];exact .step n _ _ hm.made (.collect _ hE)
theorem zjY(n:Nat)(hn:n<400)(d:WdD)(hm:Mk n d)(l:List Int)(a:Int)(h0:0<=a)(h1:a<=1000000):
 Tot (fun (r:(WdD×Unit)×A4×Unit)=>Mk (n+1) r.1.1/\r.2.1.1=l/\a+1<=r.2.1.2.1/\r.2.1.2.1<=a+40) (F_made_World_Step (d,(l,a,()),())):=by
 rw [zif];dsimp only
 refine zad (zaq l a 12 h0 (by omega) (by omega)) ?_
 rintro ⟨⟨(v:Int),_⟩,⟨(l1:List Int),(a1:Int),_⟩,_⟩ g1;have q3:=g1.l;have q4:=g1.a2 (by omega)
 dsimp only at q3 q4 ⊢
 subst q3 q4;have hcf:confB d.1.1.1 d.1.1.2.1=true:=by rw [<-zaD];exact hm.lens.conf
 refine zac (fun _=>?_) fun _=>zac (fun _=>?_) fun _=>zac (fun _=>?_) fun _=>zac (fun _=>?_) fun _=>zac (fun _=>?_) fun _=>?_
 . refine zad (ziQ l1 (a+1) d.1.1.1 d.1.1.2.1 (by omega) (by omega) hcf) ?_
   rintro ⟨⟨⟨(k:Int),(s:Int),(m:Int),_⟩,_⟩,⟨(l2:List Int),(a2:Int),_⟩,_⟩ ⟨hk,r3,r4,r5⟩;dsimp only at hk r3 r4 r5 ⊢
   subst r3;exact zad (zfD n hn d hm k s m hk) fun r hr=>zab ⟨hr,rfl,by (try dsimp only);omega,by (try dsimp only);omega⟩
 . refine zad (zjZ n hn d hm l1 (a+1) (by omega) (by omega)) fun r hr=>zab ⟨hr.1,hr.2.1,by (try dsimp only);omega,by (try dsimp only);omega⟩
 . refine zad (zk8 n hn d hm l1 (a+1) (by omega) (by omega)) fun r hr=>zab ⟨hr.1,hr.2.1,by (try dsimp only);omega,by (try dsimp only);omega⟩
 . refine zad (zj0 n hn d hm l1 (a+1) (by omega) (by omega)) fun r hr=>zab ⟨hr.1,hr.2.1,by (try dsimp only);omega,by (try dsimp only);omega⟩
 . exact zad (zg3 n hn d hm) fun r hr=>zab ⟨hr,rfl,by (try dsimp only);omega,by (try dsimp only);omega⟩
 . obtain ⟨g,st,wk,_⟩:=d;have L:=hm.lens;have s1:st.length<=n:=L.stn
   refine zae (zak.2 (by (try dsimp only);omega)) (zad (zb2 n _ hm l1 (a+1) (by omega) (by omega)) ?_)
   rintro ⟨⟨(p:Int),_⟩,⟨(l2:List Int),(a2:Int),_⟩,_⟩ ⟨m1,m2,m3,m4,m5⟩;dsimp only at m1 m2 m3 m4 m5 ⊢
   subst m3;refine zae (zak.2 (by simp;omega)) (zab ⟨⟨?_,hm.wb,by omega⟩,rfl,by (try dsimp only);omega,by (try dsimp only);omega⟩)
   exact .step n _ _ hm.made (.dup (toWd (g,st,wk,())) p m1)
theorem zk9(l:List Int)(a:Int)(h0:0<=a)(h1:a<=100000000):Tot (fun (r:Ad×A4×Unit)=>((r.1.1.1=16\/r.1.1.1=20\/r.1.1.1=32)/\(r.1.1.2.1=8\/r.1.1.2.1=12\/r.1.1.2.1=16\/r.1.1.2.1=20\/r.1.1.2.1=24))/\r.2.1.1=l/\a<=r.2.1.2.1/\r.2.1.2.1<=a+2) (F_made_Tape_Conf ((l,a,()),())):=by
 rw [zeN];dsimp only
 refine zad (zaq l a 4 h0 (by omega) (by omega)) ?_
 rintro ⟨⟨(v:Int),_⟩,⟨(l1:List Int),(a1:Int),_⟩,_⟩ h;have e1:=h.lo;have e2:=h.hi (by omega);have e3:=h.l;have e4:=h.a0;have e5:=h.a1
 dsimp only at e1 e2 e3 e4 e5 ⊢
 subst e3;refine zae (zag.2 ⟨e1,by simpa using e2⟩) (zad (zaq l1 a1 5 (by omega) (by omega) (by omega)) ?_)
 rintro ⟨⟨(u:Int),_⟩,⟨(l2:List Int),(a2:Int),_⟩,_⟩ k;have f1:=k.lo;have f2:=k.hi (by omega);have f3:=k.l;have f4:=k.a0;have f5:=k.a1
 dsimp only at f1 f2 f3 f4 f5 ⊢
 subst f3;refine zae (zag.2 ⟨f1,by simpa using f2⟩) (zab ⟨?_,rfl,by (try dsimp only);omega,by (try dsimp only);omega⟩)
 dsimp only;have cv:v=0\/v=1\/v=2\/v=3:=by omega
 have cu:u=0\/u=1\/u=2\/u=3\/u=4:=by omega
 constructor
 . rcases cv with rfl | rfl | rfl | rfl
   . exact .inl rfl
   . exact .inl rfl
   . exact .inr (.inl rfl)
   . exact .inr (.inr rfl)
 . rcases cu with rfl | rfl | rfl | rfl | rfl
   . exact .inl rfl
   . exact .inr (.inl rfl)
   . exact .inr (.inr (.inl rfl))
   . exact .inr (.inr (.inr (.inl rfl)))
   . exact .inr (.inr (.inr (.inr rfl)))
theorem zsq(pw np:Int)(hc:confB pw np=true):Tot (fun r=>toHp r.1.1=P.zpP pw np/\WBo r.1.1.2.1) (F_r04_New ((pw,np,()),())):=by
 rw [zvR];dsimp only
 rw [zbj,qaa,hc];have c:=conf_prod hc;have c2:=zaT.1 hc;have w:W (np*pw)=np*pw:=W_id (by omega)
 simp only [qbA,qaf,w];refine zae (by simp;omega) (zae (zak.2 (by omega)) (zae (by simp;omega) (zae (zak.2 (by omega)) (zab ⟨?_,?_⟩))))
 . rw [(P.ztx (show P.confB pw np=true by rw [zaD];exact hc)).1]
   unfold toHp;dsimp only;rw [List.map_replicate];rfl
 . intro x hx;have:=List.eq_of_mem_replicate hx
   omega
theorem zeZ(l:List Int)(a:Int)(h0:0<=a)(h1:a<=100000000):Tot (fun (r:(WdD×Unit)×A4×Unit)=>Mk 0 r.1.1/\r.2.1.1=l/\a<=r.2.1.2.1/\r.2.1.2.1<=a+2) (F_made_Tape_Empty ((l,a,()),())):=by
 rw [zd9];dsimp only
 refine zad (zk9 l a h0 h1) ?_;rintro ⟨⟨⟨(pw:Int),(np:Int),_⟩,_⟩,⟨(l1:List Int),(a1:Int),_⟩,_⟩ ⟨⟨h2,h3⟩,h4,h5,h6⟩;dsimp only at h2 h3 h4 h5 h6 ⊢
 have hc:confB pw np=true:=by rcases h2 with rfl | rfl | rfl <;> rcases h3 with rfl | rfl | rfl | rfl | rfl <;> rfl
 refine zad (zsq pw np hc) ?_;rintro ⟨⟨(h:HpD),_,_⟩,_⟩ ⟨k1,k2⟩;dsimp only at k1 k2 ⊢
 refine zab ⟨⟨?_,k2,by omega⟩,h4,h5,h6⟩
 have ew:toWd (h,[],[],())=⟨P.zpP pw np,[],[]⟩:=by unfold toWd;dsimp only;rw [k1]
 show P.Made 0 (toWd (h,[],[],()))
 rw [ew];exact .empty pw np h2 h3
theorem zue(l:List Int):Tot (fun (r:(WdD×Unit)×Unit)=>∃ n,Mk n r.1.1) (F_made_Make (l,())):=by
 rw [zdg];dsimp only
 have main:∀ tp:List Int,tp.length<=300->Tot (fun (r:(WdD×Unit)×Unit)=>∃ n,Mk n r.1.1) (F_made_Make (tp,())):=fun tp htp=>by
  rw [zdg];dsimp only
  have hd:decide ((tp.length:Int) > 300)=false:=qai (by omega)
  rw [hd];simp only [qaf];refine zae rfl (zad (zeZ tp 0 (by omega) (by omega)) ?_)
  rintro ⟨⟨(d:WdD),_⟩,⟨(l1:List Int),(a1:Int),_⟩,_⟩ ⟨hm,h4,h5,h6⟩;dsimp only at hm h4 h5 h6 ⊢
  subst h4;refine zad (P:=fun r=>∃ n,Mk n (((r.2.2.2.1.1,r.2.2.2.1.2.1,()),r.2.2.2.1.2.2.1,r.2.2.2.1.2.2.2.1,r.2.2.2.1.2.2.2.2.1,r.2.2.2.1.2.2.2.2.2.1,()),r.2.2.2.1.2.2.2.2.2.2.1,r.2.2.2.1.2.2.2.2.2.2.2.1,())) (zai (fun x=>x.2.2.1.1=l1/\0<=x.2.2.1.2.1/\x.2.2.1.2.1<=400/\∃ n:Nat,(n:Int)<=x.2.2.1.2.1/\Mk n (((x.2.2.2.1.1,x.2.2.2.1.2.1,()),x.2.2.2.1.2.2.1,x.2.2.2.1.2.2.2.1,x.2.2.2.1.2.2.2.2.1,x.2.2.2.1.2.2.2.2.2.1,()),x.2.2.2.1.2.2.2.2.2.2.1,x.2.2.2.1.2.2.2.2.2.2.2.1,())) (fun x=>((l1.length:Int)-x.2.2.1.2.1).toNat) ?_ ?_) fun r hr=>zab hr
  . exact ⟨rfl,h5,by (try dsimp only);omega,0,h5,hm⟩
  . rintro ⟨_,_,⟨(l2:List Int),(a2:Int),_⟩,(b:As),_⟩ ⟨e1,e2,e3,n,e4,e5⟩;dsimp only at e1 e2 e3 e4 e5 ⊢
    subst e1;rw [zfE,qaa];dsimp only;refine zac (fun h7=>?_) fun h7=>zab ⟨n,e5⟩
    simp only [qar,qag]at h7;refine zad (zjY n (by omega) _ e5 l2 a2 e2 (by omega)) ?_
    rintro ⟨⟨(d':WdD),_⟩,⟨(l3:List Int),(a3:Int),_⟩,_⟩ ⟨g1,g2,g3,g4⟩;dsimp only at g1 g2 g3 g4 ⊢
    subst g2;refine zab ?_;simp only [qam];exact ⟨⟨by trivial,by omega,by omega,n+1,by omega,g1⟩,by omega⟩
 by_cases hl:(l.length:Int) > 300
 . have h3:=main (l.take 300) (by rw [qau];omega)
   rw [zdg]at h3;dsimp only at h3
   have hd:decide ((l.length:Int) > 300)=true:=qad hl
   have hd2:decide (((l.take 300).length:Int) > 300)=false:=qai (by rw [qau];omega)
   rw [hd2]at h3;rw [hd];simp only [qah,qaf]at h3 ⊢;refine zae (qad (by omega)) ?_
   exact h3
 . have h3:=main l (by omega)
   rw [zdg]at h3;exact h3
end Go.VI
