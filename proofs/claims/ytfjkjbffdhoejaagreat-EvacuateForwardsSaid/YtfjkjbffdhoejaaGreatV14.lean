import Derived.Test.YtfjkjbffdhoejaaGreatV10
import Derived.Test.YtfjkjbffdhoejaaGreatV11
import Derived.Test.YtfjkjbffdhoejaaGreatV13
set_option linter.unusedSimpArgs false
set_option linter.unusedVariables false
set_option maxRecDepth 100000
set_option maxHeartbeats 4000000
namespace Go.VI
open Go Go.Proofs
theorem zm1(h:HpD)(x p:Int)(hx:P.atE (toHp h) x=0)(h0:0<=x/\x<=100004096)(hp:0<=p/\p<=1000000000):F_audit_part_uses (mkp h x,p,())=some ((decide (x<=p/\p<x+P.zeg (toHp h) x),()),()):=by
 obtain ⟨-,a2,a3,a4,a5,a6⟩:=P.zjT hx;have v:=P.zax a2;rw [zim];unfold mkp ofHd;dsimp only;unfold P.zeg;rw [P.zcv a2];by_cases hxp:x<=p
 . rw [qad (show p >= x by omega),qah]
   by_cases e:(P.atH (toHp h) x).k=0
   . rw [if_pos e,show ((P.atH (toHp h) x).k != 0)=false by simpa using e,qaf,U_id (by omega),U_id (by omega)]
     have:(p-x<=0)=(x<=p/\p<x+1):=propext ⟨fun _=>by omega,fun _=>by omega⟩
     simp only [this]
   . rw [if_neg e,show ((P.atH (toHp h) x).k != 0)=true by simpa using e,qah,U_id (by omega),U_id (by omega)]
     have:(p-x<=(P.atH (toHp h) x).n)=(x<=p/\p<x+((P.atH (toHp h) x).n+1)):=propext ⟨fun _=>by omega,fun _=>by omega⟩
     simp only [this]
 . rw [qai (show ¬p >= x by omega),qaf,qai (fun c=>hxp c.1)]
theorem zm4(h:HpD)(hw:HpW h)(hok:P.okH (toHp h)=true)(k:Nat)(hk:k<h.2.2.1.length):Tot (fun r=>(r.1.1=Z3/\∀ p,P.InSp (toHp h) k p->P.UseP (toHp h) k p)\/∃ p,P.InSp (toHp h) k p/\¬P.UseP (toHp h) k p/\(∀ q,P.InSp (toHp h) k q->q<p->P.UseP (toHp h) k q)/\r.1.1=(4,P.ofI h.1.1 h.1.2.1 p,p,())) (F_audit_checkDirt (h,(k:Int),(P.zaQ (toHp h) k).map (mkp h),())):=by
 obtain ⟨p1,p2,p3,p4,p5,p6,p7⟩:=P.zan hok;have c:=P.zaj p1;have c1:16<=h.1.1/\h.1.1<=64:=⟨c.1,c.2.1⟩
 have c3:8<=h.1.2.1/\h.1.2.1<=64:=⟨c.2.2.2.1,c.2.2.2.2⟩
 have hc:confB h.1.1 h.1.2.1=true:=by rw [<-zaD];exact p1
 have hlm:(toHp h).pages.length=h.2.2.1.length:=qaj ..
 have hpn:(h.2.2.1.length:Int)=h.1.2.1:=by rw [<-hlm];exact p3
 have hwe:((h.2.1.length:Nat):Int)=h.1.2.1*h.1.1:=p2
 have hwl:=hw.wl;have hat:(toHp h).pages[k]?=some (toPg (h.2.2.1.getD k PG0)):=zaF hk
 obtain ⟨s1,s2,s3⟩:=P.zw3 hok hat;have s3:((k:Int)+P.zcU (toHp h) (toPg (h.2.2.1.getD k PG0)))*h.1.1<=h.1.2.1*h.1.1:=qaV (by omega) (by omega)
 rw [qbd]at s3;have hIn:∀ p,P.InSp (toHp h) k p↔(4096+(k:Int)*h.1.1<=p/\p<4096+(k:Int)*h.1.1+P.zcU (toHp h) (toPg (h.2.2.1.getD k PG0))*h.1.1):=fun p=>by unfold P.InSp;rw [P.zdR hat];exact Iff.rfl
 have hUse:∀ p,P.UseP (toHp h) k p↔((∃ x∈P.zaQ (toHp h) k,x<=p/\p<x+P.zeg (toHp h) x)\/P.zap (toHp h).words p=0):=fun p=>Iff.rfl
 have hll:=zjr (toHp h) (k:Int);have hax:∀ x∈P.zaQ (toHp h) k,P.atE (toHp h) x=0:=fun x hx=>P.zfe hx
 rw [zio];dsimp only
 try simp only [zas]
 rw [zss h hc hpn k hk (P.zcU (toHp h) (toPg (h.2.2.1.getD k PG0))) s1 s2 rfl,qaa];dsimp only;generalize P.InSp (toHp h) k=IN at *
 generalize P.UseP (toHp h) k=US at *
 generalize P.zcU (toHp h) (toPg (h.2.2.1.getD k PG0))=n at *
 generalize P.zaQ (toHp h) k=l at *
 have k0:0<=(k:Int)*h.1.1:=qbl (by omega) (by omega)
 have k1:0<=n*h.1.1:=qbl s1 (by omega)
 generalize (k:Int)*h.1.1=s at *
 generalize n*h.1.1=z at *
 have hll2:(l.map (mkp h)).length=l.length:=qaj ..
 refine zad (P:=fun r=>(r = .inr ((),(),Z3,())/\∀ p,IN p->US p)\/∃ p,IN p/\¬US p/\(∀ q,IN q->q<p->US q)/\r = .inl ((),(),(4,P.ofI h.1.1 h.1.2.1 p,p,()),())) (zai (fun x=>∃ a:Int,x=((a,()),(),Z3,())/\4096+s<=a/\a<=4096+s+z/\∀ q,IN q->q<a->US q) (fun x=>(4096+s+z-x.1.1).toNat) ⟨_,rfl,by omega,by omega,fun q q1 q2=>by have:=(hIn q).1 q1;omega⟩ ?_) ?_
 . rintro _ ⟨a,rfl,a1,a2,a3⟩;dsimp only;refine zac (fun h4=>?_) fun h4=>zab ?_
   rotate_left
   . simp only [qag]at h4;exact .inl ⟨rfl,fun p hp=>a3 p hp (by have:=(hIn p).1 hp;omega)⟩
   simp only [qab]at h4;have next:US a->∃ a',(((a+1,()),(),Z3,()):FX)=((a',()),(),Z3,())/\4096+s<=a'/\a'<=4096+s+z/\∀ q,IN q->q<a'->US q:=fun hu=>⟨a+1,rfl,by omega,by omega,fun q q1 q2=>by
    by_cases e:q=a
    . subst e;exact hu
    . exact a3 q q1 (by omega)⟩
   rw [zkH h a (by omega) (by omega) hwl,qaa,U_id (n:=a+1) (by omega)]
   dsimp only;refine zac (fun h5=>?_) fun h5=>?_
   . simp only [qaz]at h5;exact zab ⟨next ((hUse a).2 (.inr h5)),by dsimp only;omega⟩
   simp only [qaI,ne_eq]at h5;refine zad (P:=fun r=>(∃ y,r = .inl y/\US a)\/(∃ y,r = .inr y/\¬US a)) (zai (fun x=>∃ t:Nat,x.1.1=(t:Int)/\t<=l.length/\∀ u,u<t->¬(l.getD u 0<=a/\a<l.getD u 0+P.zeg (toHp h) (l.getD u 0))) (fun x=>((l.length:Int)-x.1.1).toNat) ⟨0,rfl,by omega,fun u hu=>by omega⟩ ?_) ?_
   . rintro ⟨⟨(t':Int),_⟩,_⟩ ⟨t,e1,e2,e3⟩;dsimp only at e1 ⊢
     subst e1;refine zac (fun h6=>?_) fun h6=>zab ?_
     rotate_left
     . simp only [qag]at h6;refine .inr ⟨_,rfl,fun hu=>?_⟩
       rcases (hUse a).1 hu with ⟨x,hx,x1⟩ | q
       . obtain ⟨u,hu2,eu⟩:=qb5.1 hx;have eu:l.getD u 0=x:=by rw [qax,qaq hu2];exact eu
         exact e3 u (by omega) (by rw [eu];exact x1)
       . exact h5 q
     simp only [qab]at h6;have ht:t<l.length:=by omega
     rw [qac,zrV ht,W_id (n:=(t:Int)+1) (by omega)]
     obtain ⟨-,-,-,-,-,-,b1,b2,-,-⟩:=ztY h hw (hax _ (zaJ (d:=0) ht))
     refine zae (zag.2 ⟨by omega,by omega⟩) (zad (P:=fun r=>r.1.1=decide (l.getD t 0<=a/\a<l.getD t 0+P.zeg (toHp h) (l.getD t 0))) ⟨_,zm1 h (l.getD t 0) a (hax _ (zaJ (d:=0) ht)) ⟨by omega,by omega⟩ ⟨by omega,by omega⟩,rfl⟩ ?_)
     rintro ⟨⟨(b:Bool),_⟩,_⟩ hb;have hb:b=decide (l.getD t 0<=a/\a<l.getD t 0+P.zeg (toHp h) (l.getD t 0)):=hb
     refine zac (fun c=>zab ?_) fun c=>zab ?_
     . have c:b=true:=c
       rw [hb]at c;exact .inl ⟨_,rfl,(hUse a).2 (.inl ⟨_,zaJ (d:=0) ht,qat c⟩)⟩
     . have c:b=false:=c
       rw [hb]at c;exact ⟨⟨t+1,by dsimp only;omega,by omega,fun u hu=>by
        by_cases e:u=t
        . subst e;exact qa4 c
        . exact e3 u (by omega)⟩,by dsimp only;omega⟩
   . rintro _ (⟨y,rfl,hu⟩ | ⟨y,rfl,hu⟩)
     . exact zab ⟨next hu,by dsimp only;omega⟩
     . simp only [qal];rw [zea];dsimp only;rw [ziX _ _ _ (by omega)]
       exact zab (.inr ⟨a,(hIn a).2 ⟨a1,h4⟩,hu,a3,rfl⟩)
 . rintro _ (⟨rfl,q⟩ | ⟨p,q1,q2,q3,rfl⟩)
   . exact zab (.inl ⟨rfl,q⟩)
   . exact zab (.inr ⟨p,q1,q2,q3,rfl⟩)
theorem zvs(f g:A7)(hf:¬f.1=0):Tot (fun r=>r.1.1=f) (F_cmp_Or_audit_Finding ([f,g],())):=by
 obtain ⟨f1,f2,f3,_⟩:=f;have hf:¬f1=0:=hf
 have hne:(f1 == 0)=false:=by simpa using hf
 rw [zbF];dsimp only
 refine zad (P:=fun r=>r = .inl ((),(),(f1,f2,f3,()),())) (zai (fun x=>x=((0,()),(),Z3,())) (fun _=>0) rfl ?_) ?_
 . rintro _ rfl;refine zac (fun _=>zae rfl (zac (fun _=>zab rfl) fun c=>?_)) fun c=>by simp at c
   exfalso
   have c:(!(f1 == 0&&(f2 == 0&&(f3 == 0&&true))))=false:=c
   rw [hne]at c;cases c
 . rintro _ rfl;exact zab rfl
theorem zj1(h:HpD)(hw:HpW h)(i:Int)(he:¬P.zbx (toHp h) i=0):Tot (fun r=>¬r.1.2.1=0) (F_audit_partsOf (h,i,())):=by
 rw [zfB];dsimp only
 try simp only [zas]
 rw [zmW h hw i,qaa];dsimp only;exact zac (fun _=>zab he) fun c=>absurd (by simpa using c) he
theorem zm3(h:HpD)(hw:HpW h)(hok:P.okH (toHp h)=true)(k:Nat)(hk:k<h.2.2.1.length):Tot (fun r=>(r.1.1=Z3/\P.zzu (toHp h) k)\/P.zzR (toHp h) k (toFd r.1.1)) (F_audit_checkPage (h,(k:Int),())):=by
 have hlm:(toHp h).pages.length=h.2.2.1.length:=qaj ..
 have hat:(toHp h).pages[k]?=some (toPg (h.2.2.1.getD k PG0)):=zaF hk
 have hpl:=hw.pl;have hll:=zjr (toHp h) (k:Int);have hax:∀ x∈P.zaQ (toHp h) k,P.atE (toHp h) x=0:=fun x hx=>P.zfe hx
 have hdirt:=zm4 h hw hok k hk;have hSp:P.SpOk (toHp h) k↔((h.2.2.1.getD k PG0).1=0\/(h.2.2.1.getD k PG0).2.1=h.2.2.2.1):=by unfold P.SpOk;rw [P.zdR hat];exact Iff.rfl
 rw [zin];dsimp only
 try simp only [zas]
 rw [qac];refine zae (zag.2 ⟨by omega,by omega⟩) (zac (fun c=>zab (.inr (.inl ⟨?_,rfl⟩))) fun c=>?_)
 . rw [hSp];intro q;cases h0:((h.2.2.1.getD k PG0).1 != 0) with
   | false=>rw [h0]at c;cases c
   | true=>
    rw [h0]at c;simp only [qah,qaC,ne_eq]at c h0;exact q.elim h0 c
 have hsp:P.SpOk (toHp h) k:=by
  rw [hSp];cases h0:((h.2.2.1.getD k PG0).1 != 0) with
  | false=>exact .inl (by simpa using h0)
  | true=>
   rw [h0]at c;simp only [qah,qaB]at c;exact .inr c
 clear c;by_cases hpe:P.zbx (toHp h) k=0
 . refine zad (zm2 h hw k hpe) ?_;rintro ⟨⟨(ps:List PtD),(e:Int),_⟩,_⟩ ⟨hps,he⟩;dsimp only at hps he ⊢
   subst he hps;refine zac (fun c=>by simp at c) fun _=>zad (ziR h hok k hk _ (by omega) (fun x hx=>by obtain ⟨-,-,a3,a4,-⟩:=P.zjT (hax x hx);exact ⟨a3,a4⟩) (fun x hx e=>by have:=P.zsg (hax x hx);omega) fun x hx=>?_) ?_
   . obtain ⟨j,g',b⟩:=P.zl5 hok (by omega) hx
     have hkd:=b.kd;have hgg:g'=toPg (h.2.2.1.getD k PG0):=by have:=b.pg;rw [hat]at this;injection this with this;exact this.symm
     subst hgg;exact hkd.elim (fun a=>.inl a.1) fun a=>.inr a.1
   rintro ⟨⟨f1,_⟩,_⟩ hf;have hf:toFd f1=if P.clsV (toHp h) k (P.zaQ (toHp h) k)=0 then P.Fd.none else ⟨5,k,P.clsV (toHp h) k (P.zaQ (toHp h) k)⟩:=hf
   refine zad hdirt ?_;rintro ⟨⟨f2,_⟩,_⟩ hf2;dsimp only at hf2 ⊢
   by_cases hcl:P.clsV (toHp h) k (P.zaQ (toHp h) k)=0
   . rw [if_pos hcl]at hf;have hz:f1=Z3:=by
      have a:=congrArg P.Fd.fault hf;have b:=congrArg P.Fd.page hf;have c:=congrArg P.Fd.addr hf;obtain ⟨x1,x2,x3,_⟩:=f1;have a:x1=0:=a
      have b:x2=0:=b
      have c:x3=0:=c
      rw [a,b,c]
     subst hz;rcases hf2 with ⟨rfl,q⟩ | ⟨p,q1,q2,q3,rfl⟩
     . refine zad zsv ?_;rintro ⟨⟨f3,_⟩,_⟩ hf3;have hf3:f3=Z3:=hf3
       subst hf3;exact zab (.inl ⟨rfl,hsp,hpe,hcl,q⟩)
     . refine zad (zvr _ (show ¬(4:Int)=0 by decide)) ?_
       rintro ⟨⟨f3,_⟩,_⟩ hf3;have hf3:f3=(4,P.ofI h.1.1 h.1.2.1 p,p,()):=hf3
       subst hf3;exact zab (.inr (.inr (.inr (.inr ⟨hsp,hpe,hcl,p,q1,q2,q3,rfl⟩))))
   . rw [if_neg hcl]at hf;have hn:¬f1.1=0:=by
      have a:=congrArg P.Fd.fault hf;exact fun q=>absurd (a.symm.trans q) (show ¬(5:Int)=0 by decide)
     refine zad (zvs _ _ hn) ?_;rintro ⟨⟨f3,_⟩,_⟩ hf3;have hf3:f3=f1:=hf3
     subst hf3;exact zab (.inr (.inr (.inr (.inl ⟨hsp,hpe,hcl,hf⟩))))
 . refine zad (zj1 h hw k hpe) ?_;rintro ⟨⟨(ps:List PtD),(e:Int),_⟩,_⟩ he;dsimp only at he ⊢
   exact zac (fun _=>zab (.inr (.inr (.inl ⟨hsp,hpe,rfl⟩)))) fun c=>absurd (by simpa using c) he
theorem zl3(h:P.Hp)(all:List Int):∀ l:List Int,P.zb4 h all l=P.Fd.none\/¬(P.zb4 h all l).fault=0
 | []=>.inl rfl
 | x::l=>by
  rw [P.zb4];cases P.za1 all (P.getH h x) 0 (P.zbG h x) with
  | some k=>exact .inr (show ¬(6:Int)=0 by decide)
  | none=>exact zl3 h all l
theorem fd_z(f:A7)(hf:toFd f=P.Fd.none):f=Z3:=by
 have a:=congrArg P.Fd.fault hf;have b:=congrArg P.Fd.page hf;have c:=congrArg P.Fd.addr hf;obtain ⟨x1,x2,x3,_⟩:=f;have a:x1=0:=a
 have b:x2=0:=b
 have c:x3=0:=c
 rw [a,b,c]
theorem zlb(h:HpD)(hw:HpW h):Tot (fun r=>toFd r.1.1=P.zeY (toHp h)) (F_audit_Check (h,())):=by
 have hpl:=hw.pl;have hlm:(toHp h).pages.length=h.2.2.1.length:=qaj ..
 rw [znQ];dsimp only
 try simp only [zas]
 refine zad (zcG h hw) ?_;rintro ⟨⟨(b:Bool),_⟩,_⟩ hb;have hb:b=P.okH (toHp h):=hb
 unfold P.zeY;cases hok:P.okH (toHp h) with
 | false=>
  rw [hok]at hb;subst hb;exact zac (fun _=>zab (by rw [if_neg (by decide)];rfl)) fun c=>by cases c
 | true=>
 rw [hok]at hb;subst hb;have hptr:=zhH h hw;have hcr:=zla h hpl (by rw [<-zaD];exact (P.zan hok).1)
 rw [if_pos rfl];refine zac (fun c=>by cases c) fun _=>zad (P:=fun r=>(∃ f,r = .inl ((),(),f,())/\toFd f=P.zaC (toHp h) 0 (toHp h).pages.length/\¬(P.zaC (toHp h) 0 (toHp h).pages.length).fault=0)\/(∃ f,r = .inr ((),(),f,())/\P.zaC (toHp h) 0 (toHp h).pages.length=P.Fd.none)) (zai (fun x=>∃ k:Nat,x=(((k:Int),()),(),Z3,())/\k<=h.2.2.1.length/\∀ j,j<k->P.zzu (toHp h) j) (fun x=>((h.2.2.1.length:Int)-x.1.1).toNat) ⟨0,rfl,by omega,fun j hj=>by omega⟩ ?_) ?_
 . rintro _ ⟨k,rfl,hk,hn⟩;dsimp only;refine zac (fun h4=>?_) fun h4=>zab ?_
   rotate_left
   . simp only [qag]at h4;refine .inr ⟨_,rfl,P.zha _ _ _ fun j _ hj=>P.zme hok (k:=k) (by omega) hn j (by omega)⟩
   simp only [qab]at h4;rw [W_id (n:=(k:Int)+1) (by omega)]
   refine zad (zm3 h hw hok k (by omega)) ?_
   rintro ⟨⟨f,_⟩,_⟩ hf;dsimp only at hf ⊢
   rcases hf with ⟨rfl,hpn⟩ | hf
   . exact zac (fun c=>by simp at c) fun _=>zab ⟨⟨k+1,rfl,by omega,fun j hj=>by
      by_cases e:j=k
      . subst e;exact hpn
      . exact hn j (by omega)⟩,by dsimp only;omega⟩
   . obtain ⟨g1,g2⟩:=P.ztN hok (by omega) hn hf
     obtain ⟨x1,x2,x3,_⟩:=f;have g2':¬x1=0:=g2
     have hne:(x1 == 0)=false:=by simpa using g2'
     refine zac (fun _=>zab (.inl ⟨_,rfl,g1.symm,by rw [g1];exact g2⟩)) fun c=>?_
     exfalso
     have c:(!(x1 == 0&&(x2 == 0&&(x3 == 0&&true))))=false:=c
     rw [hne]at c;cases c
 . rintro _ (⟨f,rfl,g1,g2⟩ | ⟨f,rfl,g1⟩)
   . exact zab (by rw [if_pos g2];exact g1)
   . simp only [qal];rw [g1,if_neg (by decide +kernel)]
     refine zad hptr ?_;rintro ⟨⟨f1,_⟩,_⟩ hf1;have hf1:toFd f1=P.zbw (toHp h):=hf1
     refine zad hcr ?_;rintro ⟨⟨f2,_⟩,_⟩ hf2;have hf2:toFd f2=if h.1.2.1 / 4<(P.zaZ (toHp h).pages:Int) then ⟨7,0,0⟩ else P.Fd.none:=hf2
     dsimp only;rcases zl3 (toHp h) (P.zaf (toHp h)) (P.zaf (toHp h)) with hz | hz
     . have hz:P.zbw (toHp h)=P.Fd.none:=hz
       have e1:=fd_z f1 (hf1.trans hz);subst e1;rw [hz,if_neg (by decide +kernel)]
       have enp:(toHp h).np=h.1.2.1:=rfl
       rw [enp];by_cases hcw:h.1.2.1 / 4<(P.zaZ (toHp h).pages:Int)
       . rw [if_pos hcw]at hf2 ⊢
         refine zad (zvr f2 (fun q=>absurd ((congrArg P.Fd.fault hf2).symm.trans q) (show ¬(7:Int)=0 by decide))) ?_
         rintro ⟨⟨f3,_⟩,_⟩ hf3;have hf3:f3=f2:=hf3
         subst hf3;exact zab hf2
       . rw [if_neg hcw]at hf2 ⊢
         have e2:=fd_z f2 hf2;subst e2;refine zad zsv ?_;rintro ⟨⟨f3,_⟩,_⟩ hf3;have hf3:f3=Z3:=hf3
         subst hf3;exact zab rfl
     . have hz:¬(P.zbw (toHp h)).fault=0:=hz
       rw [if_pos hz];refine zad (zvs f1 f2 (by rw [<-hf1]at hz;exact hz)) ?_
       rintro ⟨⟨f3,_⟩,_⟩ hf3;have hf3:f3=f1:=hf3
       subst hf3;exact zab hf1
end Go.VI
namespace Go.VI
open Go Go.Proofs
theorem zm6(h:HpD)(hw:HpW h):Tot (fun r=>r.1.1=P.zg1 (toHp h)) (F_audit_Good (h,())):=by
 rw [zpK];dsimp only
 try simp only [zas]
 refine zad (zlb h hw) ?_;rintro ⟨⟨f,_⟩,_⟩ hf;have hf:toFd f=P.zeY (toHp h):=hf
 refine zab ?_;unfold P.zg1;by_cases e:(P.zeY (toHp h)).fault=0
 . rw [qad e];have:=fd_z f (hf.trans (P.zoT e))
   subst this
   rfl
 . rw [qai e];obtain ⟨x1,x2,x3,_⟩:=f;have hne:¬x1=0:=fun q=>e (by rw [<-hf];exact q)
   show (x1 == 0&&(x2 == 0&&(x3 == 0&&true)))=false
   rw [show (x1 == 0)=false by simpa using hne];rfl
end Go.VI
namespace Go.VI
open Go
theorem zfF(h:HpD)(hw:HpW h):Tot (fun r=>r.1.2.1=(if P.okH (toHp h) then (if P.zg1 (toHp h) then 0 else 19) else 1)/\(r.1.2.1=0->toWk r.1.1=P.zbB (toHp h))/\(r.1.2.1≠0->r.1.1=WK0)) (F_evacuate_Begin (h,())):=by
 rw [zjE];dsimp only
 try rw [zas]
 refine zad (zcG h hw) fun r hr=>?_
 obtain ⟨⟨(b:Bool),_⟩,_⟩:=r;have hb:b=P.okH (toHp h):=hr
 subst hb;dsimp only;refine zac (fun h1=>zab ?_) fun h1=>zad (zm6 h hw) ?_
 . simp only [qar]at h1;rw [h1];exact ⟨rfl,fun c=>(by cases c),fun _=>rfl⟩
 simp only [qaw]at h1;rintro ⟨⟨(g:Bool),_⟩,_⟩ hg;dsimp only at hg ⊢
 rw [<-hg,if_pos h1];refine zac (fun h2=>zab ?_) fun h2=>?_
 . simp only [qar]at h2;rw [h2];exact ⟨rfl,fun c=>(by cases c),fun _=>rfl⟩
 simp only [qaw]at h2;rw [h2,zhe h hw,qaa];have hpl:=hw.pl;have hob:(P.zaf (toHp h)).length<=4096:=(P.zgp h1).qlen.2
 have hsp:0<=h.2.2.2.1/\h.2.2.2.1<=1:=P.zd7.1 (P.zaN (zf9 h1)).2.2.2.1
 dsimp only;rw [zcg (h,P.zaf (toHp h),[],[],0,(0,0,0,0,0,0,()),()) ⟨hw.wl,hw.pl,by dsimp only;omega,by simp,by simp⟩,qaa]
 dsimp only;refine (zad (P:=fun r=>r.2.2.1.map toPg=(P.zbB (toHp h)).h.pages) (zai (fun x=>∃ k:Nat,x.1.1=(k:Int)/\k<=h.2.2.1.length/\x.2.2.1.map toPg=P.bgPs (toHp h) k) (fun x=>((h.2.2.1.length:Int)-x.1.1).toNat) ⟨0,rfl,by omega,rfl⟩ ?_) fun r hr=>zab ⟨rfl,fun _=>?_,fun c=>absurd rfl c⟩)
 . rintro ⟨⟨(k':Int),_⟩,_,(ps:List PgD),_⟩ ⟨k,e1,e2,e3⟩;dsimp only at e1 e3 ⊢
   subst e1;have hlp:ps.length=h.2.2.1.length:=by
    have:=congrArg List.length e3
    rw [P.ziJ,qaj]at this;exact this.trans (qaj ..)
   refine zac (fun h4=>?_) fun h4=>zab ?_
   . simp only [qab]at h4;have hk:k<h.2.2.1.length:=by omega
     have w:W ((k:Int)+1)=((k+1:Nat):Int):=by rw [W_id (by omega)];omega
     have hin:inB (k:Int) ps.length=true:=zag.2 ⟨by omega,by omega⟩
     have hat:(toHp h).pages[k]?=some (toPg (h.2.2.1.getD k PG0)):=zaF hk
     have h5:=P.zqi (toHp h) k k _ hat;rw [if_neg (by omega),<-e3,zaF (by omega)]at h5
     have h5:toPg (ps.getD k PG0)=toPg (h.2.2.1.getD k PG0):=Option.some.inj h5
     have hD:(toHp h).pages.getD k P.Pg.zero=toPg (ps.getD k PG0):=by rw [P.zam hat,h5]
     have hB:P.bgB (toHp h) k=((ps.getD k PG0).1 == 1&&decide (0<(ps.getD k PG0).2.2.2.1)):=by
      unfold P.bgB;rw [hD,qa8,qae,qae,qab,qab,qab,qaz];exact Iff.rfl
     have hbg:P.bgPs (toHp h) (k+1)=if P.bgB (toHp h) k then (P.bgPs (toHp h) k).set k ⟨((toHp h).pages.getD k P.Pg.zero).kind,1-(toHp h).space,((toHp h).pages.getD k P.Pg.zero).used,((toHp h).pages.getD k P.Pg.zero).pins⟩ else P.bgPs (toHp h) k:=rfl
     rw [hD,hB]at hbg;rw [w,qac,zbk h hsp,qaa];simp only [cand];refine zae hin (zac (fun h6=>zae hin (zab ?_)) fun h6=>zab ?_)
     . rw [if_pos h6]at hbg;simp only [qam];refine ⟨⟨k+1,rfl,by omega,?_⟩,by omega⟩
       rw [hbg,qba,e3];rfl
     . rw [if_neg (fun c=>Bool.noConfusion (c.symm.trans h6))]at hbg
       simp only [qam];exact ⟨⟨k+1,rfl,by omega,by rw [hbg,e3]⟩,by omega⟩
   . simp only [qag]at h4;simp only [qal];rw [e3,<-P.zvo];have:(toHp h).pages.length=h.2.2.1.length:=qaj ..
     rw [this,show k=h.2.2.1.length by omega]
 . unfold toWk;dsimp only;have e:toHp (h.1,h.2.1,r.2.2.1,h.2.2.2)={ toHp h with pages:=(P.zbB (toHp h)).h.pages }:=by
    unfold toHp;dsimp only;rw [hr];rfl
   rw [e]
   rfl
end Go.VI
namespace Go.VI
open Go
theorem zwm:Tot (fun (r:(WdD×Unit)×Unit)=>Mk 0 (r.1.1.1,[],[],())/\toHp r.1.1.1=P.zpP 32 8) (F_made_Make ([],())):=by
 rw [zdg];dsimp only
 have h1:F_made_Tape_Next (([],0,()),4,())=some ((3,()),([],1,()),()):=by rw [zcW];rfl
 have h2:F_made_Tape_Next (([],1,()),5,())=some ((0,()),([],2,()),()):=by rw [zcW];rfl
 have h3:F_made_Tape_Conf (([],0,()),())=some (((32,8,()),()),([],2,()),()):=by
  rw [zeN];dsimp only
  rw [h1,qaa];dsimp only;rw [h2];rfl
 have h4:Tot (fun (r:(WdD×Unit)×A4×Unit)=>toHp r.1.1.1=P.zpP 32 8/\r.2.1=([],2,())) (F_made_Tape_Empty (([],0,()),())):=by
  rw [zd9];dsimp only
  rw [h3,qaa];refine zad (zsq 32 8 (by decide)) fun r hr=>zab ⟨hr.1,rfl⟩
 refine zae rfl (zad (zlM (zeZ [] 0 (by omega) (by omega)) h4) ?_)
 rintro ⟨⟨⟨(h:HpD),(st:List Int),(wk:List Int),_⟩,_⟩,(tp:A4),_⟩ ⟨⟨hm,-⟩,hh,ht⟩;have ht:tp=([],2,()):=ht
 subst ht;dsimp only at hm hh ⊢
 refine zad (P:=fun r=>(((r.2.2.2.1.1,r.2.2.2.1.2.1,()),r.2.2.2.1.2.2.1,r.2.2.2.1.2.2.2.1,r.2.2.2.1.2.2.2.2.1,r.2.2.2.1.2.2.2.2.2.1,()):HpD)=h) (zai (fun x=>(((x.2.2.2.1.1,x.2.2.2.1.2.1,()),x.2.2.2.1.2.2.1,x.2.2.2.1.2.2.2.1,x.2.2.2.1.2.2.2.2.1,x.2.2.2.1.2.2.2.2.2.1,()):HpD)=h/\x.2.2.1=([],2,())) (fun _=>0) ⟨rfl,rfl⟩ ?_) ?_
 . rintro ⟨_,_,(tp:A4),b⟩ ⟨e1,e2⟩;have e2:tp=([],2,()):=e2
   subst e2;dsimp only at e1 ⊢
   rw [zfE,qaa];exact zac (fun c=>by simp at c) fun _=>zab e1
 . rintro ⟨_,_,_,(b:As),_⟩ e1;dsimp only at e1 ⊢
   refine zab ⟨?_,?_⟩
   . dsimp only;rw [e1];have e:Mk 0 (h,st,wk,()):=hm;have L:=e.lens;have l1:st.length<=0:=L.stn
     have l2:wk.length<=0:=L.wkn
     rw [qbT (Nat.le_zero.1 l1),qbT (Nat.le_zero.1 l2)]at e;exact e
   . dsimp only;rw [e1];exact hh
theorem Coll.start{w:WkD}{h:P.Hp}(G:P.Good h)(hwb:P.WB h.words)(e:toWk w=P.zbB h):Coll w h [] (fun _ _=>False):=by
 refine ⟨by rw [e];exact P.CI.begin G hwb,by rw [e];rfl,?_⟩
 have:P.WB (toWk w).h.words:=by rw [e];exact hwb
 exact this
theorem zhM(w:WkD)(hL:WkL w)(hwb:WBo w.1.2.1)(a:Int)(ha:0<=a/\a<18446744073709551616)(h0:¬a=0)(hq:¬a∈w.2.2.2.1)(ho:a∈w.2.1)(hle:P.zg0 w.1.2.1 a=0)(ht:P.okT (P.zap w.1.2.1 a).toNat=true):
 F_evacuate_Forward (w,a,())=some ((w,P.tgtV (P.zap w.1.2.1 a).toNat,0,()),()):=by
 rw [zbE];dsimp only
 rw [zcg w hL,zbz _ a hL.q,zbz _ a hL.o];simp only [qaa];rw [show (a == 0)=false from qaI.2 h0,qaf,qai hq,qaf,qad ho]
 simp only [qbA,qaf];rw [ze1 w.1 a hL.w hwb ha hle,qaa];dsimp only;rw [ht];rfl
def AwH:P.Hp:=⟨32,8,List.replicate 256 0,List.replicate 8 P.Pg.zero,0,-1⟩
def AwX:P.Wk:=P.zbB (P.zdr AwH 3 1 0)
theorem zzq:P.zcQ AwH 3 1 0=0/\P.ziL AwH 3 1 0=4096/\P.evE AwX 4096=0/\P.evA AwX 4096=4128/\P.zg1 (P.zdr AwH 3 1 0)=true/\(P.zdr AwH 3 1 0).words.all (fun x=>decide (0<=x/\x<18446744073709551616))=true:=by
 refine ⟨?_,?_,?_,?_,?_,?_⟩ <;> decide +kernel
theorem aw_then:(P.evW AwX 4096).h.words.length=256/\(P.evW AwX 4096).h.pages.length=8/\(P.evW AwX 4096).old=[4096]/\(P.evW AwX 4096).taken=[1]/\(P.evW AwX 4096).queue=[4128]/\(P.evW AwX 4096).r0=1/\P.zg0 (P.evW AwX 4096).h.words 4096=0/\P.zap (P.evW AwX 4096).h.words 4096=16514/\(P.evW AwX 4096).h.words.all (fun x=>decide (0<=x/\x<18446744073709551616))=true:=by
 refine ⟨?_,?_,?_,?_,?_,?_,?_,?_,?_⟩ <;> decide +kernel
theorem zug:F_l10_awake ()=some ((true,()),()):=by
 refine zxO ?_;rw [zry];dsimp only
 refine zad zwm ?_;rintro ⟨⟨⟨(h:HpD),(st0:List Int),(wk0:List Int),_⟩,_⟩,_⟩ ⟨hm,hh⟩;dsimp only at hm hh ⊢
 have hn:P.zpP 32 8=AwH:=(P.ztx (pw:=32) (np:=8) (by decide)).1.trans rfl
 rw [hn]at hh;obtain ⟨f1,f2,f3,f4,f5,f6⟩:=zzq;have hput:Tot (fun (r:(WdD×Unit)×Unit)=>toHp r.1.1.1=P.zdr AwH 3 1 0/\r.1.1.2.1=[4096]) (F_made_World_Put ((h,[],[],()),(3,1,0,()),())):=by
  rw [zeM];dsimp only
  refine zad (zsm h hm.hw 3 1 0 (by omega)) ?_
  rintro ⟨⟨(g':HpD),(a:Int),(e:Int),_⟩,_⟩ ⟨h1,h2,h3⟩;dsimp only at h1 h2 h3 ⊢
  rw [hh]at h1 h2 h3;rw [f1]at h1;rw [f2]at h3;subst h1 h3;exact zae rfl (zae rfl (zab ⟨h2,rfl⟩))
 refine zad (zlM (zfD 0 (by omega) _ hm 3 1 0 (by omega)) hput) ?_
 rintro ⟨⟨⟨(g:HpD),(st:List Int),(wk:List Int),_⟩,_⟩,_⟩ ⟨hm1,hg,hst⟩;have hst:st=[4096]:=hst
 subst hst;dsimp only at hm1 hg ⊢
 have G:P.Good (P.zdr AwH 3 1 0):=(P.zu8 _).1 f5;refine zad (zfF g hm1.hw) ?_;rintro ⟨⟨(w:WkD),(e:Int),_⟩,_⟩ ⟨b1,b2,-⟩;dsimp only at b1 b2 ⊢
 rw [hg,if_pos G.ok,if_pos f5]at b1;subst b1;have b2:=b2 rfl;rw [hg]at b2;have b2:toWk w=AwX:=b2
 have hwb:P.WB (P.zdr AwH 3 1 0).words:=fun x hx=>qat (qaN.1 f6 x hx)
 have K:Coll w (P.zdr AwH 3 1 0) [] (fun _ _=>False):=Coll.start G hwb b2
 refine zac (fun c=>by simp at c) fun _=>zae rfl ?_
 refine zad (zee K 4096 (by omega)) ?_
 rintro ⟨⟨(w1:WkD),(a1:Int),(e1:Int),_⟩,_⟩ ⟨q1,q2,q3⟩;dsimp only at q1 q2 q3 ⊢
 rw [b2]at q1 q2 q3;rw [f3]at q1;rw [f4]at q2;subst q1 q2;obtain ⟨t1,t2,t3,t4,t5,t6,t7,t8,t9⟩:=aw_then;rw [<-q3]at t1 t2 t3 t4 t5 t6 t7 t8 t9;have t1:w1.1.2.1.length=256:=t1
 have t2:(w1.1.2.2.1.map toPg).length=8:=t2
 have t3:w1.2.1=[4096]:=t3
 have t4:w1.2.2.1=[1]:=t4
 have t5:w1.2.2.2.1=[4128]:=t5
 have t6:w1.2.2.2.2.2.1.1=1:=t6
 have t7:P.zg0 w1.1.2.1 4096=0:=t7
 have t8:P.zap w1.1.2.1 4096=16514:=t8
 rw [qaj]at t2;have hwb1:WBo w1.1.2.1:=fun x hx=>qat (qaN.1 t9 x hx)
 refine zae rfl ?_;rw [show ([4096]:List Int).getD (Int.toNat 0) 0=4096 from rfl,zhM w1 ⟨by omega,by omega,by rw [t3];decide,by rw [t4];decide,by rw [t5];decide⟩ hwb1 4096 (by omega) (by omega) (by rw [t5];decide) (by rw [t3];decide) t7 (by rw [t8];decide),qaa,t8]
 dsimp only;rw [t6];exact zab (by decide)
end Go.VI
namespace Go.VI
open Go
theorem Coll.step{w w':WkD}{h:P.Hp}{os:List Int}{D:Nat->Int->Prop}(K:Coll w h os D){a:Int}(hv:a=0\/a∈P.zaf h)(he:P.evE (toWk w) a=0)(e:toWk w'=P.evW (toWk w) a):
 ∃ os',Coll w' h os' D/\(∃ l,os'=os++l)/\(∃ l,(toWk w').queue=(toWk w).queue++l)/\P.Fw os' (toWk w').queue a (P.evA (toWk w) a):=by
 obtain ⟨os',C,p1,p2,p3⟩:=K.C.forward hv he;rw [<-e]at C p2 p3;refine ⟨os',⟨C,?_,?_⟩,p1,p2,p3⟩
 . rw [e,P.zzh he,K.bu]
 . have:P.WB (toWk w').h.words:=by rw [e];exact zx3 K.C.inv.plok K.wb a
   exact this
end Go.VI
namespace Go.VI
open Go Go.Proofs
theorem zlp{x y:WkD}(h:toWk x=toWk y):x=y:=by
 obtain ⟨h1,o,t,q,s,⟨r0,r1,r2,r3,r4,r5,_⟩,_⟩:=x;obtain ⟨h1',o',t',q',s',⟨r0',r1',r2',r3',r4',r5',_⟩,_⟩:=y;simp only [toWk,P.Wk.mk.injEq]at h;obtain ⟨a,rfl,rfl,rfl,rfl,rfl,rfl,rfl,rfl,rfl,rfl⟩:=h;rw [zyw a]
theorem zo0(w:WkD)(h:WkL w):Tot (fun r=>r.1.1=true) (F_l10_same (w,w,())):=by
 rw [ztw];dsimp only
 have hI:F_r10_SameInts=F_r01_Same:=by rw [zmg,zml]
 have go:∀ l:List Int,l.length<=100000000->Tot (fun r=>r.1.1=true) (F_r01_Same (l,l,())):=zwp
 rw [hI];refine zad (zwo w.1 h.w h.p) ?_;rintro ⟨⟨(b:Bool),_⟩,_⟩ hb;have hb:b=true:=hb
 subst hb;refine zac (fun _=>zad (go w.2.1 h.o) ?_) fun c=>by cases c
 rintro ⟨⟨(b:Bool),_⟩,_⟩ hb;have hb:b=true:=hb
 subst hb;refine zac (fun _=>zad (go w.2.2.1 h.t) ?_) fun c=>by cases c
 rintro ⟨⟨(b:Bool),_⟩,_⟩ hb;have hb:b=true:=hb
 subst hb;refine zac (fun _=>zad (go w.2.2.2.1 h.q) ?_) fun c=>by cases c
 rintro ⟨⟨(b:Bool),_⟩,_⟩ hb;have hb:b=true:=hb
 subst hb;refine zab ?_;simp
theorem zsl(h:HpD)(hw:HpW h):Tot (fun r=>(r.1.2.1=(if P.okH (toHp h) then (if P.zg1 (toHp h) then 0 else 19) else 1)/\(r.1.2.1=0->toWk r.1.1=P.zbB (toHp h)))/\(r.1.2.1≠0->r.1.1=WK0)) (F_r10_Begin (h,())):=by
 have main:=zmX h hw;refine zlM main ?_;cases h1:P.okH (toHp h)
 . rw [zgb];dsimp only
   try rw [zas]
   refine zad (za3 _ hw) fun r hr=>?_
   obtain ⟨⟨(b:Bool),_⟩,_⟩:=r;have hb:b=P.okH (toHp h):=hr
   rw [h1]at hb;subst hb;exact zac (fun _=>zab fun _=>rfl) fun c=>by cases c
 cases h2:P.zg1 (toHp h)
 . rw [zgb];dsimp only
   try rw [zas]
   refine zad (za3 _ hw) fun r hr=>?_
   obtain ⟨⟨(b:Bool),_⟩,_⟩:=r;have hb:b=P.okH (toHp h):=hr
   rw [h1]at hb;subst hb;refine zac (fun c=>by cases c) fun _=>zad (zjV h hw) ?_
   rintro ⟨⟨(g:Bool),_⟩,_⟩ hg;have hg:g=P.zg1 (toHp h):=hg
   rw [h2]at hg;subst hg;exact zac (fun _=>zab fun _=>rfl) fun c=>by cases c
 . refine main.mono fun r hr c=>absurd hr.1 ?_
   rw [h1,h2];exact c
end Go.VI
namespace Go.VI
open Go Go.Proofs
theorem Coll.step2{w w':WkD}{h:P.Hp}{os:List Int}{D:Nat->Int->Prop}(K:Coll w h os D){a:Int}(he:P.evE (toWk w) a=0)(e:toWk w'=P.evW (toWk w) a):∃ os',Coll w' h os' D:=by
 by_cases hv:a=0\/a∈P.zaf h
 . obtain ⟨os',K',-⟩:=K.step hv he e;exact ⟨os',K'⟩
 . have hq:P.evC (toWk w) a=0:=by
    unfold P.evE P.evC at he;unfold P.evC;by_cases c0:a=0\/a∈(toWk w).queue
    . rw [if_pos c0]
    . rw [if_neg c0,if_pos (show ¬a∈(toWk w).old by rw [K.C.inv.old];exact fun c=>hv (.inr c))]at he
      exact absurd he (by decide)
   unfold P.evW at e;rw [hq]at e;have:=zlp e
   subst this;exact ⟨os,K⟩
theorem evW_err{x:P.Wk}{a:Int}(he:¬P.evE x a=0):P.evW x a=P.Wk.zero:=by
 unfold P.evE at he;unfold P.evW;have hc:P.evC x a=0\/P.evC x a=1\/P.evC x a=2\/P.evC x a=3\/P.evC x a=4\/P.evC x a=5\/P.evC x a=6\/P.evC x a=7:=by
  unfold P.evC;repeat' split
  all_goals omega
 rcases hc with c | c | c | c | c | c | c | c <;> rw [c]at he ⊢ <;> first | rfl | exact absurd rfl he
theorem pick_in(p:Int)(n:Nat)(hn:1<=n)(hn2:n<=1000000):inB ((W (p.tmod n+n)).tmod n) n=true/\(!((n:Int) == 0))=true:=by
 obtain ⟨a,b,c,d⟩:=P.zwY (v:=p) (n:=n) (by omega)
 rw [W_id (by omega)]
 exact ⟨zag.2 ⟨a,b⟩,by rw [qaI.2 (by omega)];rfl⟩
def StW(H:P.Hp)(w:WkD):Prop:=(∃ os,Coll w H os (fun _ _=>False))\/w=WK0
theorem zwO:WkL WK0:=⟨by decide,by decide,by decide,by decide,by decide⟩
theorem StW.wkl{H:P.Hp}{w:WkD}(S:StW H w):WkL w:=by
 rcases S with ⟨os,K⟩ | rfl
 . exact K.wkl
 . exact zwO
theorem StW.sp{H:P.Hp}{w:WkD}(S:StW H w):SpOK w.1:=by
 rcases S with ⟨os,K⟩ | rfl
 . exact K.sp
 . exact ⟨by decide,fun k hk=>by cases hk⟩
theorem zse{H:P.Hp}{w:WkD}(S:StW H w)(a:Int)(ha:0<=a/\a<18446744073709551616):
 ∃ (w1:WkD) (b x:Int),F_evacuate_Forward (w,a,())=some ((w1,b,x,()),())/\F_r10_Forward (w,a,())=some ((w1,b,x,()),())/\WkL w1/\(x=0->StW H w1):=by
 rcases S with ⟨os,K⟩ | rfl
 . obtain ⟨⟨⟨(w1:WkD),(b1:Int),(x1:Int),_⟩,_⟩,q,p1,p2,p3⟩:=zee K a ha;obtain ⟨⟨⟨(w2:WkD),(b2:Int),(x2:Int),_⟩,_⟩,q',r1,r2,r3⟩:=zfm _ K.C.inv.fwok K.wb K.wkl.o a ha;dsimp only at p1 p2 p3 r1 r2 r3
   have f1:x1=x2:=p1.trans r1.symm
   have f2:b1=b2:=p2.trans r2.symm
   have f3:w1=w2:=zlp (p3.trans r3.symm)
   subst f1 f2 f3;refine ⟨w1,b1,x1,q,q',?_,fun hx=>?_⟩
   . by_cases hx:x1=0
     . obtain ⟨os',K'⟩:=K.step2 (p1.symm.trans hx) p3;exact K'.wkl
     . rw [evW_err (by rw [<-p1];exact hx)]at p3
       have:=zlp (p3.trans zez.symm)
       subst this;exact zwO
   . obtain ⟨os',K'⟩:=K.step2 (p1.symm.trans hx) p3;exact .inl ⟨os',K'⟩
 . have hh:F_r06_Has ([],a,())=some ((false,()),()):=by
    obtain ⟨⟨⟨(b:Bool),_⟩,_⟩,h1,h2⟩:=zdW [] a (by decide)
    rw [h1];have h2:b=decide (a∈([]:List Int)):=h2
    rw [h2,qai (by simp)]
   by_cases h0:a=0
   . subst h0;refine ⟨WK0,0,0,?_,?_,zwO,fun _=>.inr rfl⟩
     . rw [zbE];dsimp only
       rw [zcg WK0 zwO];rfl
     . rw [zem];rfl
   . refine ⟨WK0,0,19,?_,?_,zwO,fun c=>by cases c⟩
     . rw [zbE];dsimp only
       rw [zbz [] a (by decide),show (a == 0)=false from qaI.2 h0,qai (show ¬a∈([]:List Int) by simp)];rfl
     . rw [zem];dsimp only
       rw [hh,show (a == 0)=false from qaI.2 h0];rfl
theorem zjg(tape odd picks:List Int)(hodd:∀ x∈odd,0<=x/\x<18446744073709551616):F_l10_EvacuateForwards (tape,odd,picks,())=some ((true,()),()):=by
 refine zxO ?_;rw [zfg];dsimp only
 refine zac (fun _=>zab rfl) fun h0=>?_
 have hl:odd.length<=20/\picks.length<=60:=by
  by_cases h1:(odd.length:Int) > 20
  . rw [qad h1]at h0;cases h0
  . rw [qai h1]at h0;have:=qa4 h0
    omega
 refine zad (zue tape) ?_;rintro ⟨⟨(d:WdD),_⟩,_⟩ ⟨n,hm⟩;have hm:Mk n d:=hm;have hw:=hm.hw;obtain ⟨(h:HpD),st,wk,_⟩:=d;have hw:HpW h:=hw;clear hm;dsimp only;try simp only [zas]
 refine zad (zfF h hw) ?_;rintro ⟨⟨(w:WkD),(e:Int),_⟩,_⟩ ⟨b1,b2,b3⟩;refine zad (zsl h hw) ?_;rintro ⟨⟨(w':WkD),(e':Int),_⟩,_⟩ ⟨⟨c1,c2⟩,c3⟩;dsimp only at b1 b2 b3 c1 c2 c3 ⊢
 have ee:e=e':=b1.trans c1.symm
 subst ee;obtain ⟨ww,S⟩:w=w'/\StW (toHp h) w:=by
  by_cases he:e=0
  . have g1:=b2 he;have g2:=c2 he;refine ⟨zlp (g1.trans g2.symm),?_⟩;have hok:P.okH (toHp h)=true:=by
     cases h1:P.okH (toHp h)
     . rw [h1,he]at b1;exact absurd b1 (by simp)
     . rfl
    have hgd:P.zg1 (toHp h)=true:=by
     cases h1:P.zg1 (toHp h)
     . rw [hok,h1,he]at b1;exact absurd b1 (by simp)
     . rfl
    exact .inl ⟨[],Coll.start ((P.zu8 _).1 hgd) hw.wb g1⟩
  . exact ⟨(b3 he).trans (c3 he).symm,.inr (b3 he)⟩
 subst ww;refine zac (fun c=>by simp at c) fun _=>zad (zo0 w S.wkl) ?_
 rintro ⟨⟨(b:Bool),_⟩,_⟩ hb;have hb:b=true:=hb
 subst hb;refine zac (fun c=>by cases c) fun _=>zad (zdz h hw) ?_
 rintro ⟨⟨(all:List Int),_,_⟩,_⟩ ⟨hall,-⟩;have hall:all=P.zaf (toHp h):=hall
 dsimp only;have hal:all.length<=4096:=by
  rw [hall];unfold P.zaf P.zca;exact qaA (qbH _ _) (P.zcj _)
 have hbd:∀ x∈all++[0]++odd,0<=x/\x<18446744073709551616:=by
  intro x hx;simp only [qaR,qaM,qaS,qak,qas]at hx;rcases hx with c | c | c
  . rw [hall]at c;have:=P.zsg (P.zbU c).1
    omega
  . omega
  . exact hodd x c
 have hln:1<=(all++[0]++odd).length/\(all++[0]++odd).length<=5000:=by simp;omega
 refine zae (zak.2 (by simp;omega)) (zae (zak.2 (by simp;omega)) ?_)
 generalize all++[0]++odd=cs at *
 have hpl:=hw.pl;refine zad (P:=fun r=>∃ y,r = .inr y) (zai (fun x=>∃ k:Nat,x.1.2.1=(k:Int)/\k<=picks.length /\
  ((((x.2.2.1.1,x.2.2.1.2.1,()),x.2.1.1,x.2.1.2.1,x.2.2.1.2.2.2.2.1,x.2.2.1.2.2.2.2.2.1,()),x.2.1.2.2.1,x.2.1.2.2.2.1,x.2.1.2.2.2.2.1,x.2.2.1.2.2.2.2.2.2.2.2.2.1,x.2.2.1.2.2.2.2.2.2.2.2.2.2,()):WkD)=((((x.2.2.2.1.1,x.2.2.2.1.2.1,()),x.2.2.2.1.2.2.1,x.2.2.2.1.2.2.2.1,x.2.2.2.1.2.2.2.2.1,x.2.2.2.1.2.2.2.2.2.1,()),x.2.2.2.1.2.2.2.2.2.2.1,x.2.2.2.1.2.2.2.2.2.2.2.1,x.2.2.2.1.2.2.2.2.2.2.2.2.1,x.2.2.2.1.2.2.2.2.2.2.2.2.2.1,x.2.2.2.1.2.2.2.2.2.2.2.2.2.2,()):WkD) /\
  StW (toHp h) ((((x.2.2.1.1,x.2.2.1.2.1,()),x.2.1.1,x.2.1.2.1,x.2.2.1.2.2.2.2.1,x.2.2.1.2.2.2.2.2.1,()),x.2.1.2.2.1,x.2.1.2.2.2.1,x.2.1.2.2.2.2.1,x.2.2.1.2.2.2.2.2.2.2.2.2.1,x.2.2.1.2.2.2.2.2.2.2.2.2.2,()):WkD)) (fun x=>((picks.length:Int)-x.1.2.1).toNat) ⟨0,rfl,by omega,rfl,S⟩ ?_) ?_
 . rintro ⟨⟨(q:Bool),(i:Int),(u1:WkD),(u2:WkD),_⟩,(A:Ak),(B:Ae),(C:A0),_⟩ ⟨k,e1,e2,e3,S⟩;dsimp only at e1 e3 S ⊢
   subst e1;rw [<-e3];refine zac (fun h4=>?_) fun h4=>zab ⟨_,rfl⟩
   simp only [qab]at h4;obtain ⟨t1,t2⟩:=pick_in (picks.getD (k:Int).toNat 0) cs.length (by omega) (by omega)
   refine zae (zag.2 ⟨by omega,h4⟩) (zae t2 (zae t2 (zae t1 ?_)))
   have t3:=zag.1 t1;have ha:=hbd _ (zaJ (d:=0) (l:=cs) (i:=((W ((picks.getD (k:Int).toNat 0).tmod (cs.length:Int)+(cs.length:Int))).tmod (cs.length:Int)).toNat) (by omega))
   generalize cs.getD _ 0=a at ha ⊢
   have hk1:W ((k:Int)+1)=((k+1:Nat):Int):=by rw [W_id (by omega)];omega
   obtain ⟨w1,b1,x1,p1,p2,hL,hS⟩:=zse S a ha;rw [p1,qaa,p2,qaa];dsimp only;refine zac (fun c=>by simp at c) fun _=>zac (fun c=>by simp at c) fun _=>zad (zo0 w1 hL) ?_
   rintro ⟨⟨(b:Bool),_⟩,_⟩ hb;have hb:b=true:=hb
   subst hb;refine zac (fun c=>by cases c) fun _=>zac (fun h5=>zab ?_) fun h5=>?_
   . simp only [qam];exact ⟨⟨k+1,hk1,by omega,e3,S⟩,by rw [hk1];omega⟩
   . simp only [qaB]at h5;have S':=hS h5;refine zad (P:=fun r=>∃ y,r = .inr y) (zai (fun x=>0<=x.1.2.1) (fun x=>((h.2.2.1.length:Int)-x.1.2.1).toNat) (by dsimp only;omega) ?_) ?_
     . rintro ⟨⟨(q':Bool),(i:Int),_⟩,_⟩ hi;dsimp only at hi ⊢
       refine zac (fun h6=>?_) fun h6=>zab ⟨_,rfl⟩
       simp only [qab]at h6;rw [zdY w1 i S'.sp hL.t hL.p,qaa];refine zad (zer w1 i hL.t hL.p) ?_;rintro ⟨⟨(b:Bool),_⟩,_⟩ hb;have hb:b=P.zdv (toWk w1) i:=hb
       subst hb;refine zac (fun c=>by simp at c) fun _=>zab ?_
       rw [W_id (by omega)]
       exact ⟨by dsimp only;omega,by dsimp only;omega⟩
     . rintro _ ⟨y,rfl⟩;refine zab ?_;simp only [qam];exact ⟨⟨k+1,hk1,by omega,by trivial,S'⟩,by rw [hk1];omega⟩
 . rintro _ ⟨y,rfl⟩;simp only [qal];rw [zug];exact zab rfl
theorem L_EvacuateForwardsu(d)(h:wfP E_l10_EvacuateForwards.ps d):F_l10_EvacuateForwards d=some ((true,()),()):=by
 obtain ⟨tape,odd,picks,_⟩:=d;obtain ⟨-,h2,-⟩:=h;exact zjg tape odd picks fun x hx=>wf_u (h2.2 x hx)
end Go.VI
