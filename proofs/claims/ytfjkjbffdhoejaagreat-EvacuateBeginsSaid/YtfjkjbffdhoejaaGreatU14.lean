import Derived.Test.YtfjkjbffdhoejaaGreatU10
import Derived.Test.YtfjkjbffdhoejaaGreatU11
import Derived.Test.YtfjkjbffdhoejaaGreatU13
set_option linter.unusedSimpArgs false
set_option linter.unusedVariables false
set_option maxRecDepth 100000
set_option maxHeartbeats 4000000
namespace Go.VI
open Go Go.Proofs
theorem zm1(h:HpD)(x p:Int)(hx:P.atE (toHp h) x=0)(h0:0<=x/\x<=100004096)(hp:0<=p/\p<=1000000000):F_audit_part_uses (mkp h x,p,())=some ((decide (x<=p/\p<x+P.zd9 (toHp h) x),()),()):=by
 obtain ⟨-,a2,a3,a4,a5,a6⟩:=P.zjU hx;have v:=P.zay a2;rw [zig];unfold mkp ofHd;dsimp only;unfold P.zd9;rw [P.zcq a2];by_cases hxp:x<=p
 . rw [qad (show p >= x by omega),qah]
   by_cases e:(P.atH (toHp h) x).k=0
   . rw [if_pos e,show ((P.atH (toHp h) x).k != 0)=false by simpa using e,qaf,U_id (by omega),U_id (by omega)]
     have:(p-x<=0)=(x<=p/\p<x+1):=propext ⟨fun _=>by omega,fun _=>by omega⟩
     simp only [this]
   . rw [if_neg e,show ((P.atH (toHp h) x).k != 0)=true by simpa using e,qah,U_id (by omega),U_id (by omega)]
     have:(p-x<=(P.atH (toHp h) x).n)=(x<=p/\p<x+((P.atH (toHp h) x).n+1)):=propext ⟨fun _=>by omega,fun _=>by omega⟩
     simp only [this]
 . rw [qaj (show ¬p >= x by omega),qaf,qaj (fun c=>hxp c.1)]
theorem zm4(h:HpD)(hw:HpW h)(hok:P.okH (toHp h)=true)(k:Nat)(hk:k<h.2.2.1.length):Tot (fun r=>(r.1.1=Z3/\∀ p,P.InSp (toHp h) k p->P.UseP (toHp h) k p)\/∃ p,P.InSp (toHp h) k p/\¬P.UseP (toHp h) k p/\(∀ q,P.InSp (toHp h) k q->q<p->P.UseP (toHp h) k q)/\r.1.1=(4,P.ofI h.1.1 h.1.2.1 p,p,())) (F_audit_checkDirt (h,(k:Int),(P.zaK (toHp h) k).map (mkp h),())):=by
 obtain ⟨p1,p2,p3,p4,p5,p6,p7⟩:=P.zam hok;have c:=P.zaj p1;have c1:16<=h.1.1/\h.1.1<=64:=⟨c.1,c.2.1⟩
 have c3:8<=h.1.2.1/\h.1.2.1<=64:=⟨c.2.2.2.1,c.2.2.2.2⟩
 have hc:confB h.1.1 h.1.2.1=true:=by rw [<-zaF];exact p1
 have hlm:(toHp h).pages.length=h.2.2.1.length:=qai ..
 have hpn:(h.2.2.1.length:Int)=h.1.2.1:=by rw [<-hlm];exact p3
 have hwe:((h.2.1.length:Nat):Int)=h.1.2.1*h.1.1:=p2
 have hwl:=hw.wl;have hat:(toHp h).pages[k]?=some (toPg (h.2.2.1.getD k PG0)):=zaH hk
 obtain ⟨s1,s2,s3⟩:=P.zwZ hok hat;have s3:((k:Int)+P.zcR (toHp h) (toPg (h.2.2.1.getD k PG0)))*h.1.1<=h.1.2.1*h.1.1:=qaV (by omega) (by omega)
 rw [qbg]at s3;have hIn:∀ p,P.InSp (toHp h) k p↔(4096+(k:Int)*h.1.1<=p/\p<4096+(k:Int)*h.1.1+P.zcR (toHp h) (toPg (h.2.2.1.getD k PG0))*h.1.1):=fun p=>by unfold P.InSp;rw [P.zdM hat];exact Iff.rfl
 have hUse:∀ p,P.UseP (toHp h) k p↔((∃ x∈P.zaK (toHp h) k,x<=p/\p<x+P.zd9 (toHp h) x)\/P.zaq (toHp h).words p=0):=fun p=>Iff.rfl
 have hll:=zjr (toHp h) (k:Int);have hax:∀ x∈P.zaK (toHp h) k,P.atE (toHp h) x=0:=fun x hx=>P.ze9 hx
 rw [zii];dsimp only
 try simp only [zar]
 rw [zsj h hc hpn k hk (P.zcR (toHp h) (toPg (h.2.2.1.getD k PG0))) s1 s2 rfl,qaa];dsimp only;generalize P.InSp (toHp h) k=IN at *
 generalize P.UseP (toHp h) k=US at *
 generalize P.zcR (toHp h) (toPg (h.2.2.1.getD k PG0))=n at *
 generalize P.zaK (toHp h) k=l at *
 have k0:0<=(k:Int)*h.1.1:=qbj (by omega) (by omega)
 have k1:0<=n*h.1.1:=qbj s1 (by omega)
 generalize (k:Int)*h.1.1=s at *
 generalize n*h.1.1=z at *
 have hll2:(l.map (mkp h)).length=l.length:=qai ..
 refine zad (P:=fun r=>(r = .inr ((),(),Z3,())/\∀ p,IN p->US p)\/∃ p,IN p/\¬US p/\(∀ q,IN q->q<p->US q)/\r = .inl ((),(),(4,P.ofI h.1.1 h.1.2.1 p,p,()),())) (zai (fun x=>∃ a:Int,x=((a,()),(),Z3,())/\4096+s<=a/\a<=4096+s+z/\∀ q,IN q->q<a->US q) (fun x=>(4096+s+z-x.1.1).toNat) ⟨_,rfl,by omega,by omega,fun q q1 q2=>by have:=(hIn q).1 q1;omega⟩ ?_) ?_
 . rintro _ ⟨a,rfl,a1,a2,a3⟩;dsimp only;refine zac (fun h4=>?_) fun h4=>zab ?_
   rotate_left
   . simp only [qag]at h4;exact .inl ⟨rfl,fun p hp=>a3 p hp (by have:=(hIn p).1 hp;omega)⟩
   simp only [qab]at h4;have next:US a->∃ a',(((a+1,()),(),Z3,()):FX)=((a',()),(),Z3,())/\4096+s<=a'/\a'<=4096+s+z/\∀ q,IN q->q<a'->US q:=fun hu=>⟨a+1,rfl,by omega,by omega,fun q q1 q2=>by
    by_cases e:q=a
    . subst e;exact hu
    . exact a3 q q1 (by omega)⟩
   rw [zkH h a (by omega) (by omega) hwl,qaa,U_id (n:=a+1) (by omega)]
   dsimp only;refine zac (fun h5=>?_) fun h5=>?_
   . simp only [qax]at h5;exact zab ⟨next ((hUse a).2 (.inr h5)),by dsimp only;omega⟩
   simp only [qaO,ne_eq]at h5;refine zad (P:=fun r=>(∃ y,r = .inl y/\US a)\/(∃ y,r = .inr y/\¬US a)) (zai (fun x=>∃ t:Nat,x.1.1=(t:Int)/\t<=l.length/\∀ u,u<t->¬(l.getD u 0<=a/\a<l.getD u 0+P.zd9 (toHp h) (l.getD u 0))) (fun x=>((l.length:Int)-x.1.1).toNat) ⟨0,rfl,by omega,fun u hu=>by omega⟩ ?_) ?_
   . rintro ⟨⟨(t':Int),_⟩,_⟩ ⟨t,e1,e2,e3⟩;dsimp only at e1 ⊢
     subst e1;refine zac (fun h6=>?_) fun h6=>zab ?_
     rotate_left
     . simp only [qag]at h6;refine .inr ⟨_,rfl,fun hu=>?_⟩
       rcases (hUse a).1 hu with ⟨x,hx,x1⟩ | q
       . obtain ⟨u,hu2,eu⟩:=qcv.1 hx;have eu:l.getD u 0=x:=by rw [qay,qas hu2];exact eu
         exact e3 u (by omega) (by rw [eu];exact x1)
       . exact h5 q
     simp only [qab]at h6;have ht:t<l.length:=by omega
     rw [qac,zrO ht,W_id (n:=(t:Int)+1) (by omega)]
     obtain ⟨-,-,-,-,-,-,b1,b2,-,-⟩:=ztS h hw (hax _ (zaE (d:=0) ht))
     refine zae (zaf.2 ⟨by omega,by omega⟩) (zad (P:=fun r=>r.1.1=decide (l.getD t 0<=a/\a<l.getD t 0+P.zd9 (toHp h) (l.getD t 0))) ⟨_,zm1 h (l.getD t 0) a (hax _ (zaE (d:=0) ht)) ⟨by omega,by omega⟩ ⟨by omega,by omega⟩,rfl⟩ ?_)
     rintro ⟨⟨(b:Bool),_⟩,_⟩ hb;have hb:b=decide (l.getD t 0<=a/\a<l.getD t 0+P.zd9 (toHp h) (l.getD t 0)):=hb
     refine zac (fun c=>zab ?_) fun c=>zab ?_
     . have c:b=true:=c
       rw [hb]at c;exact .inl ⟨_,rfl,(hUse a).2 (.inl ⟨_,zaE (d:=0) ht,qat c⟩)⟩
     . have c:b=false:=c
       rw [hb]at c;exact ⟨⟨t+1,by dsimp only;omega,by omega,fun u hu=>by
        by_cases e:u=t
        . subst e;exact qa3 c
        . exact e3 u (by omega)⟩,by dsimp only;omega⟩
   . rintro _ (⟨y,rfl,hu⟩ | ⟨y,rfl,hu⟩)
     . exact zab ⟨next hu,by dsimp only;omega⟩
     . simp only [qak];rw [zd4];dsimp only;rw [ziT _ _ _ (by omega)]
       exact zab (.inr ⟨a,(hIn a).2 ⟨a1,h4⟩,hu,a3,rfl⟩)
 . rintro _ (⟨rfl,q⟩ | ⟨p,q1,q2,q3,rfl⟩)
   . exact zab (.inl ⟨rfl,q⟩)
   . exact zab (.inr ⟨p,q1,q2,q3,rfl⟩)
theorem zvq(f g:A7)(hf:¬f.1=0):Tot (fun r=>r.1.1=f) (F_cmp_Or_audit_Finding ([f,g],())):=by
 obtain ⟨f1,f2,f3,_⟩:=f;have hf:¬f1=0:=hf
 have hne:(f1 == 0)=false:=by simpa using hf
 rw [zbA];dsimp only
 refine zad (P:=fun r=>r = .inl ((),(),(f1,f2,f3,()),())) (zai (fun x=>x=((0,()),(),Z3,())) (fun _=>0) rfl ?_) ?_
 . rintro _ rfl;refine zac (fun _=>zae rfl (zac (fun _=>zab rfl) fun c=>?_)) fun c=>by simp at c
   exfalso
   have c:(!(f1 == 0&&(f2 == 0&&(f3 == 0&&true))))=false:=c
   rw [hne]at c;cases c
 . rintro _ rfl;exact zab rfl
theorem zj2(h:HpD)(hw:HpW h)(i:Int)(he:¬P.zbp (toHp h) i=0):Tot (fun r=>¬r.1.2.1=0) (F_audit_partsOf (h,i,())):=by
 rw [zfu];dsimp only
 try simp only [zar]
 rw [zmW h hw i,qaa];dsimp only;exact zac (fun _=>zab he) fun c=>absurd (by simpa using c) he
theorem zm3(h:HpD)(hw:HpW h)(hok:P.okH (toHp h)=true)(k:Nat)(hk:k<h.2.2.1.length):Tot (fun r=>(r.1.1=Z3/\P.zzo (toHp h) k)\/P.zzI (toHp h) k (toFd r.1.1)) (F_audit_checkPage (h,(k:Int),())):=by
 have hlm:(toHp h).pages.length=h.2.2.1.length:=qai ..
 have hat:(toHp h).pages[k]?=some (toPg (h.2.2.1.getD k PG0)):=zaH hk
 have hpl:=hw.pl;have hll:=zjr (toHp h) (k:Int);have hax:∀ x∈P.zaK (toHp h) k,P.atE (toHp h) x=0:=fun x hx=>P.ze9 hx
 have hdirt:=zm4 h hw hok k hk;have hSp:P.SpOk (toHp h) k↔((h.2.2.1.getD k PG0).1=0\/(h.2.2.1.getD k PG0).2.1=h.2.2.2.1):=by unfold P.SpOk;rw [P.zdM hat];exact Iff.rfl
 rw [zih];dsimp only
 try simp only [zar]
 rw [qac];refine zae (zaf.2 ⟨by omega,by omega⟩) (zac (fun c=>zab (.inr (.inl ⟨?_,rfl⟩))) fun c=>?_)
 . rw [hSp];intro q;cases h0:((h.2.2.1.getD k PG0).1 != 0) with
   | false=>rw [h0]at c;cases c
   | true=>
    rw [h0]at c;simp only [qah,qaC,ne_eq]at c h0;exact q.elim h0 c
 have hsp:P.SpOk (toHp h) k:=by
  rw [hSp];cases h0:((h.2.2.1.getD k PG0).1 != 0) with
  | false=>exact .inl (by simpa using h0)
  | true=>
   rw [h0]at c;simp only [qah,qaA]at c;exact .inr c
 clear c;by_cases hpe:P.zbp (toHp h) k=0
 . refine zad (zm2 h hw k hpe) ?_;rintro ⟨⟨(ps:List PtD),(e:Int),_⟩,_⟩ ⟨hps,he⟩;dsimp only at hps he ⊢
   subst he hps;refine zac (fun c=>by simp at c) fun _=>zad (ziN h hok k hk _ (by omega) (fun x hx=>by obtain ⟨-,-,a3,a4,-⟩:=P.zjU (hax x hx);exact ⟨a3,a4⟩) (fun x hx e=>by have:=P.ztT (hax x hx);omega) fun x hx=>?_) ?_
   . obtain ⟨j,g',b⟩:=P.zdN hok (by omega) hx
     have hkd:=b.kd;have hgg:g'=toPg (h.2.2.1.getD k PG0):=by have:=b.pg;rw [hat]at this;injection this with this;exact this.symm
     subst hgg;exact hkd.elim (fun a=>.inl a.1) fun a=>.inr a.1
   rintro ⟨⟨f1,_⟩,_⟩ hf;have hf:toFd f1=if P.clsV (toHp h) k (P.zaK (toHp h) k)=0 then P.Fd.none else ⟨5,k,P.clsV (toHp h) k (P.zaK (toHp h) k)⟩:=hf
   refine zad hdirt ?_;rintro ⟨⟨f2,_⟩,_⟩ hf2;dsimp only at hf2 ⊢
   by_cases hcl:P.clsV (toHp h) k (P.zaK (toHp h) k)=0
   . rw [if_pos hcl]at hf;have hz:f1=Z3:=by
      have a:=congrArg P.Fd.fault hf;have b:=congrArg P.Fd.page hf;have c:=congrArg P.Fd.addr hf;obtain ⟨x1,x2,x3,_⟩:=f1;have a:x1=0:=a
      have b:x2=0:=b
      have c:x3=0:=c
      rw [a,b,c]
     subst hz;rcases hf2 with ⟨rfl,q⟩ | ⟨p,q1,q2,q3,rfl⟩
     . refine zad zsm ?_;rintro ⟨⟨f3,_⟩,_⟩ hf3;have hf3:f3=Z3:=hf3
       subst hf3;exact zab (.inl ⟨rfl,hsp,hpe,hcl,q⟩)
     . refine zad (zvp _ (show ¬(4:Int)=0 by decide)) ?_
       rintro ⟨⟨f3,_⟩,_⟩ hf3;have hf3:f3=(4,P.ofI h.1.1 h.1.2.1 p,p,()):=hf3
       subst hf3;exact zab (.inr (.inr (.inr (.inr ⟨hsp,hpe,hcl,p,q1,q2,q3,rfl⟩))))
   . rw [if_neg hcl]at hf;have hn:¬f1.1=0:=by
      have a:=congrArg P.Fd.fault hf;exact fun q=>absurd (a.symm.trans q) (show ¬(5:Int)=0 by decide)
     refine zad (zvq _ _ hn) ?_;rintro ⟨⟨f3,_⟩,_⟩ hf3;have hf3:f3=f1:=hf3
     subst hf3;exact zab (.inr (.inr (.inr (.inl ⟨hsp,hpe,hcl,hf⟩))))
 . refine zad (zj2 h hw k hpe) ?_;rintro ⟨⟨(ps:List PtD),(e:Int),_⟩,_⟩ he;dsimp only at he ⊢
   exact zac (fun _=>zab (.inr (.inr (.inl ⟨hsp,hpe,rfl⟩)))) fun c=>absurd (by simpa using c) he
theorem zl0(h:P.Hp)(all:List Int):∀ l:List Int,P.zbZ h all l=P.Fd.none\/¬(P.zbZ h all l).fault=0
 | []=>.inl rfl
 | x::l=>by
  rw [P.zbZ];cases P.za0 all (P.getH h x) 0 (P.zbB h x) with
  | some k=>exact .inr (show ¬(6:Int)=0 by decide)
  | none=>exact zl0 h all l
theorem fd_z(f:A7)(hf:toFd f=P.Fd.none):f=Z3:=by
 have a:=congrArg P.Fd.fault hf;have b:=congrArg P.Fd.page hf;have c:=congrArg P.Fd.addr hf;obtain ⟨x1,x2,x3,_⟩:=f;have a:x1=0:=a
 have b:x2=0:=b
 have c:x3=0:=c
 rw [a,b,c]
theorem zlb(h:HpD)(hw:HpW h):Tot (fun r=>toFd r.1.1=P.zeT (toHp h)) (F_audit_Check (h,())):=by
 have hpl:=hw.pl;have hlm:(toHp h).pages.length=h.2.2.1.length:=qai ..
 rw [znS];dsimp only
 try simp only [zar]
 refine zad (zcB h hw) ?_;rintro ⟨⟨(b:Bool),_⟩,_⟩ hb;have hb:b=P.okH (toHp h):=hb
 unfold P.zeT;cases hok:P.okH (toHp h) with
 | false=>
  rw [hok]at hb;subst hb;exact zac (fun _=>zab (by rw [if_neg (by decide)];rfl)) fun c=>by cases c
 | true=>
 rw [hok]at hb;subst hb;have hptr:=zhC h hw;have hcr:=zla h hpl (by rw [<-zaF];exact (P.zam hok).1)
 rw [if_pos rfl];refine zac (fun c=>by cases c) fun _=>zad (P:=fun r=>(∃ f,r = .inl ((),(),f,())/\toFd f=P.zaD (toHp h) 0 (toHp h).pages.length/\¬(P.zaD (toHp h) 0 (toHp h).pages.length).fault=0)\/(∃ f,r = .inr ((),(),f,())/\P.zaD (toHp h) 0 (toHp h).pages.length=P.Fd.none)) (zai (fun x=>∃ k:Nat,x=(((k:Int),()),(),Z3,())/\k<=h.2.2.1.length/\∀ j,j<k->P.zzo (toHp h) j) (fun x=>((h.2.2.1.length:Int)-x.1.1).toNat) ⟨0,rfl,by omega,fun j hj=>by omega⟩ ?_) ?_
 . rintro _ ⟨k,rfl,hk,hn⟩;dsimp only;refine zac (fun h4=>?_) fun h4=>zab ?_
   rotate_left
   . simp only [qag]at h4;refine .inr ⟨_,rfl,P.zg2 _ _ _ fun j _ hj=>P.zmb hok (k:=k) (by omega) hn j (by omega)⟩
   simp only [qab]at h4;rw [W_id (n:=(k:Int)+1) (by omega)]
   refine zad (zm3 h hw hok k (by omega)) ?_
   rintro ⟨⟨f,_⟩,_⟩ hf;dsimp only at hf ⊢
   rcases hf with ⟨rfl,hpn⟩ | hf
   . exact zac (fun c=>by simp at c) fun _=>zab ⟨⟨k+1,rfl,by omega,fun j hj=>by
      by_cases e:j=k
      . subst e;exact hpn
      . exact hn j (by omega)⟩,by dsimp only;omega⟩
   . obtain ⟨g1,g2⟩:=P.ztH hok (by omega) hn hf
     obtain ⟨x1,x2,x3,_⟩:=f;have g2':¬x1=0:=g2
     have hne:(x1 == 0)=false:=by simpa using g2'
     refine zac (fun _=>zab (.inl ⟨_,rfl,g1.symm,by rw [g1];exact g2⟩)) fun c=>?_
     exfalso
     have c:(!(x1 == 0&&(x2 == 0&&(x3 == 0&&true))))=false:=c
     rw [hne]at c;cases c
 . rintro _ (⟨f,rfl,g1,g2⟩ | ⟨f,rfl,g1⟩)
   . exact zab (by rw [if_pos g2];exact g1)
   . simp only [qak];rw [g1,if_neg (by decide +kernel)]
     refine zad hptr ?_;rintro ⟨⟨f1,_⟩,_⟩ hf1;have hf1:toFd f1=P.zbu (toHp h):=hf1
     refine zad hcr ?_;rintro ⟨⟨f2,_⟩,_⟩ hf2;have hf2:toFd f2=if h.1.2.1 / 4<(P.zaZ (toHp h).pages:Int) then ⟨7,0,0⟩ else P.Fd.none:=hf2
     dsimp only;rcases zl0 (toHp h) (P.zag (toHp h)) (P.zag (toHp h)) with hz | hz
     . have hz:P.zbu (toHp h)=P.Fd.none:=hz
       have e1:=fd_z f1 (hf1.trans hz);subst e1;rw [hz,if_neg (by decide +kernel)]
       have enp:(toHp h).np=h.1.2.1:=rfl
       rw [enp];by_cases hcw:h.1.2.1 / 4<(P.zaZ (toHp h).pages:Int)
       . rw [if_pos hcw]at hf2 ⊢
         refine zad (zvp f2 (fun q=>absurd ((congrArg P.Fd.fault hf2).symm.trans q) (show ¬(7:Int)=0 by decide))) ?_
         rintro ⟨⟨f3,_⟩,_⟩ hf3;have hf3:f3=f2:=hf3
         subst hf3;exact zab hf2
       . rw [if_neg hcw]at hf2 ⊢
         have e2:=fd_z f2 hf2;subst e2;refine zad zsm ?_;rintro ⟨⟨f3,_⟩,_⟩ hf3;have hf3:f3=Z3:=hf3
         subst hf3;exact zab rfl
     . have hz:¬(P.zbu (toHp h)).fault=0:=hz
       rw [if_pos hz];refine zad (zvq f1 f2 (by rw [<-hf1]at hz;exact hz)) ?_
       rintro ⟨⟨f3,_⟩,_⟩ hf3;have hf3:f3=f1:=hf3
       subst hf3;exact zab hf1
end Go.VI
namespace Go.VI
open Go Go.Proofs
theorem zm6(h:HpD)(hw:HpW h):Tot (fun r=>r.1.1=P.zgT (toHp h)) (F_audit_Good (h,())):=by
 rw [zpG];dsimp only
 try simp only [zar]
 refine zad (zlb h hw) ?_;rintro ⟨⟨f,_⟩,_⟩ hf;have hf:toFd f=P.zeT (toHp h):=hf
 refine zab ?_;unfold P.zgT;by_cases e:(P.zeT (toHp h)).fault=0
 . rw [qad e];have:=fd_z f (hf.trans (P.zoQ e))
   subst this
   rfl
 . rw [qaj e];obtain ⟨x1,x2,x3,_⟩:=f;have hne:¬x1=0:=fun q=>e (by rw [<-hf];exact q)
   show (x1 == 0&&(x2 == 0&&(x3 == 0&&true)))=false
   rw [show (x1 == 0)=false by simpa using hne];rfl
end Go.VI
namespace Go.VI
open Go
theorem zfy(h:HpD)(hw:HpW h):Tot (fun r=>r.1.2.1=(if P.okH (toHp h) then (if P.zgT (toHp h) then 0 else 19) else 1)/\(r.1.2.1=0->toWk r.1.1=P.zbx (toHp h))/\(r.1.2.1≠0->r.1.1=WK0)) (F_evacuate_Begin (h,())):=by
 rw [zjE];dsimp only
 try rw [zar]
 refine zad (zcB h hw) fun r hr=>?_
 obtain ⟨⟨(b:Bool),_⟩,_⟩:=r;have hb:b=P.okH (toHp h):=hr
 subst hb;dsimp only;refine zac (fun h1=>zab ?_) fun h1=>zad (zm6 h hw) ?_
 . simp only [qao]at h1;rw [h1];exact ⟨rfl,fun c=>(by cases c),fun _=>rfl⟩
 simp only [qaw]at h1;rintro ⟨⟨(g:Bool),_⟩,_⟩ hg;dsimp only at hg ⊢
 rw [<-hg,if_pos h1];refine zac (fun h2=>zab ?_) fun h2=>?_
 . simp only [qao]at h2;rw [h2];exact ⟨rfl,fun c=>(by cases c),fun _=>rfl⟩
 simp only [qaw]at h2;rw [h2,zg7 h hw,qaa];have hpl:=hw.pl;have hob:(P.zag (toHp h)).length<=4096:=(P.zgk h1).qlen.2
 have hsp:0<=h.2.2.2.1/\h.2.2.2.1<=1:=P.zd1.1 (P.zaN (zf2 h1)).2.2.2.1
 dsimp only;rw [zdk (h,P.zag (toHp h),[],[],0,(0,0,0,0,0,0,()),()) ⟨hw.wl,hw.pl,by dsimp only;omega,by simp,by simp⟩,qaa]
 dsimp only;refine (zad (P:=fun r=>r.2.2.1.map toPg=(P.zbx (toHp h)).h.pages) (zai (fun x=>∃ k:Nat,x.1.1=(k:Int)/\k<=h.2.2.1.length/\x.2.2.1.map toPg=P.bgPs (toHp h) k) (fun x=>((h.2.2.1.length:Int)-x.1.1).toNat) ⟨0,rfl,by omega,rfl⟩ ?_) fun r hr=>zab ⟨rfl,fun _=>?_,fun c=>absurd rfl c⟩)
 . rintro ⟨⟨(k':Int),_⟩,_,(ps:List PgD),_⟩ ⟨k,e1,e2,e3⟩;dsimp only at e1 e3 ⊢
   subst e1;have hlp:ps.length=h.2.2.1.length:=by
    have:=congrArg List.length e3
    rw [P.ziE,qai]at this;exact this.trans (qai ..)
   refine zac (fun h4=>?_) fun h4=>zab ?_
   . simp only [qab]at h4;have hk:k<h.2.2.1.length:=by omega
     have w:W ((k:Int)+1)=((k+1:Nat):Int):=by rw [W_id (by omega)];omega
     have hin:inB (k:Int) ps.length=true:=zaf.2 ⟨by omega,by omega⟩
     have hat:(toHp h).pages[k]?=some (toPg (h.2.2.1.getD k PG0)):=zaH hk
     have h5:=P.zqe (toHp h) k k _ hat;rw [if_neg (by omega),<-e3,zaH (by omega)]at h5
     have h5:toPg (ps.getD k PG0)=toPg (h.2.2.1.getD k PG0):=Option.some.inj h5
     have hD:(toHp h).pages.getD k P.Pg.zero=toPg (ps.getD k PG0):=by rw [P.zao hat,h5]
     have hB:P.bgB (toHp h) k=((ps.getD k PG0).1 == 1&&decide (0<(ps.getD k PG0).2.2.2.1)):=by
      unfold P.bgB;rw [hD,qa9,qae,qae,qab,qab,qab,qax];exact Iff.rfl
     have hbg:P.bgPs (toHp h) (k+1)=if P.bgB (toHp h) k then (P.bgPs (toHp h) k).set k ⟨((toHp h).pages.getD k P.Pg.zero).kind,1-(toHp h).space,((toHp h).pages.getD k P.Pg.zero).used,((toHp h).pages.getD k P.Pg.zero).pins⟩ else P.bgPs (toHp h) k:=rfl
     rw [hD,hB]at hbg;rw [w,qac,zbh h hsp,qaa];simp only [cand];refine zae hin (zac (fun h6=>zae hin (zab ?_)) fun h6=>zab ?_)
     . rw [if_pos h6]at hbg;simp only [qal];refine ⟨⟨k+1,rfl,by omega,?_⟩,by omega⟩
       rw [hbg,qa6,e3];rfl
     . rw [if_neg (fun c=>Bool.noConfusion (c.symm.trans h6))]at hbg
       simp only [qal];exact ⟨⟨k+1,rfl,by omega,by rw [hbg,e3]⟩,by omega⟩
   . simp only [qag]at h4;simp only [qak];rw [e3,<-P.zvm];have:(toHp h).pages.length=h.2.2.1.length:=qai ..
     rw [this,show k=h.2.2.1.length by omega]
 . unfold toWk;dsimp only;have e:toHp (h.1,h.2.1,r.2.2.1,h.2.2.2)={ toHp h with pages:=(P.zbx (toHp h)).h.pages }:=by
    unfold toHp;dsimp only;rw [hr];rfl
   rw [e]
   rfl
end Go.VI
namespace Go.VI
open Go
theorem zwk:Tot (fun (r:(WdD×Unit)×Unit)=>Mk 0 (r.1.1.1,[],[],())/\toHp r.1.1.1=P.zpL 32 8) (F_made_Make ([],())):=by
 rw [zdd];dsimp only
 have h1:F_made_Tape_Next (([],0,()),4,())=some ((3,()),([],1,()),()):=by rw [zcT];rfl
 have h2:F_made_Tape_Next (([],1,()),5,())=some ((0,()),([],2,()),()):=by rw [zcT];rfl
 have h3:F_made_Tape_Conf (([],0,()),())=some (((32,8,()),()),([],2,()),()):=by
  rw [zeJ];dsimp only
  rw [h1,qaa];dsimp only;rw [h2];rfl
 have h4:Tot (fun (r:(WdD×Unit)×A4×Unit)=>toHp r.1.1.1=P.zpL 32 8/\r.2.1=([],2,())) (F_made_Tape_Empty (([],0,()),())):=by
  rw [zd3];dsimp only
  rw [h3,qaa];refine zad (zsh 32 8 (by decide)) fun r hr=>zab ⟨hr.1,rfl⟩
 refine zae rfl (zad (zlK (zeV [] 0 (by omega) (by omega)) h4) ?_)
 rintro ⟨⟨⟨(h:HpD),(st:List Int),(wk:List Int),_⟩,_⟩,(tp:A4),_⟩ ⟨⟨hm,-⟩,hh,ht⟩;have ht:tp=([],2,()):=ht
 subst ht;dsimp only at hm hh ⊢
 refine zad (P:=fun r=>(((r.2.2.2.1.1,r.2.2.2.1.2.1,()),r.2.2.2.1.2.2.1,r.2.2.2.1.2.2.2.1,r.2.2.2.1.2.2.2.2.1,r.2.2.2.1.2.2.2.2.2.1,()):HpD)=h) (zai (fun x=>(((x.2.2.2.1.1,x.2.2.2.1.2.1,()),x.2.2.2.1.2.2.1,x.2.2.2.1.2.2.2.1,x.2.2.2.1.2.2.2.2.1,x.2.2.2.1.2.2.2.2.2.1,()):HpD)=h/\x.2.2.1=([],2,())) (fun _=>0) ⟨rfl,rfl⟩ ?_) ?_
 . rintro ⟨_,_,(tp:A4),b⟩ ⟨e1,e2⟩;have e2:tp=([],2,()):=e2
   subst e2;dsimp only at e1 ⊢
   rw [zfx,qaa];exact zac (fun c=>by simp at c) fun _=>zab e1
 . rintro ⟨_,_,_,(b:An),_⟩ e1;dsimp only at e1 ⊢
   refine zab ⟨?_,?_⟩
   . dsimp only;rw [e1];have e:Mk 0 (h,st,wk,()):=hm;have L:=e.lens;have l1:st.length<=0:=L.stn
     have l2:wk.length<=0:=L.wkn
     rw [qbR (Nat.le_zero.1 l1),qbR (Nat.le_zero.1 l2)]at e;exact e
   . dsimp only;rw [e1];exact hh
theorem Coll.start{w:WkD}{h:P.Hp}(G:P.Good h)(hwb:P.WB h.words)(e:toWk w=P.zbx h):Coll w h [] (fun _ _=>False):=by
 refine ⟨by rw [e];exact P.CI.begin G hwb,by rw [e];rfl,?_⟩
 have:P.WB (toWk w).h.words:=by rw [e];exact hwb
 exact this
theorem zhH(w:WkD)(hL:WkL w)(hwb:WBo w.1.2.1)(a:Int)(ha:0<=a/\a<18446744073709551616)(h0:¬a=0)(hq:¬a∈w.2.2.2.1)(ho:a∈w.2.1)(hle:P.zgS w.1.2.1 a=0)(ht:P.okT (P.zaq w.1.2.1 a).toNat=true):
 F_evacuate_Forward (w,a,())=some ((w,P.tgtV (P.zaq w.1.2.1 a).toNat,0,()),()):=by
 rw [zdO];dsimp only
 rw [zdk w hL,zbX _ a hL.q,zbX _ a hL.o];simp only [qaa];rw [show (a == 0)=false from qaO.2 h0,qaf,qaj hq,qaf,qad ho]
 simp only [qbz,qaf];rw [zeX w.1 a hL.w hwb ha hle,qaa];dsimp only;rw [ht];rfl
def AwH:P.Hp:=⟨32,8,List.replicate 256 0,List.replicate 8 P.Pg.zero,0,-1⟩
def AwX:P.Wk:=P.zbx (P.zdq AwH 3 1 0)
theorem zzk:P.zcL AwH 3 1 0=0/\P.ziG AwH 3 1 0=4096/\P.evE AwX 4096=0/\P.evA AwX 4096=4128/\P.zgT (P.zdq AwH 3 1 0)=true/\(P.zdq AwH 3 1 0).words.all (fun x=>decide (0<=x/\x<18446744073709551616))=true:=by
 refine ⟨?_,?_,?_,?_,?_,?_⟩ <;> decide +kernel
theorem aw_then:(P.evW AwX 4096).h.words.length=256/\(P.evW AwX 4096).h.pages.length=8/\(P.evW AwX 4096).old=[4096]/\(P.evW AwX 4096).taken=[1]/\(P.evW AwX 4096).queue=[4128]/\(P.evW AwX 4096).r0=1/\P.zgS (P.evW AwX 4096).h.words 4096=0/\P.zaq (P.evW AwX 4096).h.words 4096=16514/\(P.evW AwX 4096).h.words.all (fun x=>decide (0<=x/\x<18446744073709551616))=true:=by
 refine ⟨?_,?_,?_,?_,?_,?_,?_,?_,?_⟩ <;> decide +kernel
theorem znc:F_l10_awake ()=some ((true,()),()):=by
 refine zxK ?_;rw [zrt];dsimp only
 refine zad zwk ?_;rintro ⟨⟨⟨(h:HpD),(st0:List Int),(wk0:List Int),_⟩,_⟩,_⟩ ⟨hm,hh⟩;dsimp only at hm hh ⊢
 have hn:P.zpL 32 8=AwH:=(P.zts (pw:=32) (np:=8) (by decide)).1.trans rfl
 rw [hn]at hh;obtain ⟨f1,f2,f3,f4,f5,f6⟩:=zzk;have hput:Tot (fun (r:(WdD×Unit)×Unit)=>toHp r.1.1.1=P.zdq AwH 3 1 0/\r.1.1.2.1=[4096]) (F_made_World_Put ((h,[],[],()),(3,1,0,()),())):=by
  rw [zeI];dsimp only
  refine zad (zsd h hm.hw 3 1 0 (by omega)) ?_
  rintro ⟨⟨(g':HpD),(a:Int),(e:Int),_⟩,_⟩ ⟨h1,h2,h3⟩;dsimp only at h1 h2 h3 ⊢
  rw [hh]at h1 h2 h3;rw [f1]at h1;rw [f2]at h3;subst h1 h3;exact zae rfl (zae rfl (zab ⟨h2,rfl⟩))
 refine zad (zlK (zfw 0 (by omega) _ hm 3 1 0 (by omega)) hput) ?_
 rintro ⟨⟨⟨(g:HpD),(st:List Int),(wk:List Int),_⟩,_⟩,_⟩ ⟨hm1,hg,hst⟩;have hst:st=[4096]:=hst
 subst hst;dsimp only at hm1 hg ⊢
 have G:P.Good (P.zdq AwH 3 1 0):=(P.zu5 _).1 f5;refine zad (zfy g hm1.hw) ?_;rintro ⟨⟨(w:WkD),(e:Int),_⟩,_⟩ ⟨b1,b2,-⟩;dsimp only at b1 b2 ⊢
 rw [hg,if_pos G.ok,if_pos f5]at b1;subst b1;have b2:=b2 rfl;rw [hg]at b2;have b2:toWk w=AwX:=b2
 have hwb:P.WB (P.zdq AwH 3 1 0).words:=fun x hx=>qat (qaN.1 f6 x hx)
 have K:Coll w (P.zdq AwH 3 1 0) [] (fun _ _=>False):=Coll.start G hwb b2
 refine zac (fun c=>by simp at c) fun _=>zae rfl ?_
 refine zad (ziU K 4096 (by omega)) ?_
 rintro ⟨⟨(w1:WkD),(a1:Int),(e1:Int),_⟩,_⟩ ⟨q1,q2,q3⟩;dsimp only at q1 q2 q3 ⊢
 rw [b2]at q1 q2 q3;rw [f3]at q1;rw [f4]at q2;subst q1 q2;obtain ⟨t1,t2,t3,t4,t5,t6,t7,t8,t9⟩:=aw_then;rw [<-q3]at t1 t2 t3 t4 t5 t6 t7 t8 t9;have t1:w1.1.2.1.length=256:=t1
 have t2:(w1.1.2.2.1.map toPg).length=8:=t2
 have t3:w1.2.1=[4096]:=t3
 have t4:w1.2.2.1=[1]:=t4
 have t5:w1.2.2.2.1=[4128]:=t5
 have t6:w1.2.2.2.2.2.1.1=1:=t6
 have t7:P.zgS w1.1.2.1 4096=0:=t7
 have t8:P.zaq w1.1.2.1 4096=16514:=t8
 rw [qai]at t2;have hwb1:WBo w1.1.2.1:=fun x hx=>qat (qaN.1 t9 x hx)
 refine zae rfl ?_;rw [show ([4096]:List Int).getD (Int.toNat 0) 0=4096 from rfl,zhH w1 ⟨by omega,by omega,by rw [t3];decide,by rw [t4];decide,by rw [t5];decide⟩ hwb1 4096 (by omega) (by omega) (by rw [t5];decide) (by rw [t3];decide) t7 (by rw [t8];decide),qaa,t8]
 dsimp only;rw [t6];exact zab (by decide)
end Go.VI
namespace Go.VI
open Go Go.Proofs
theorem zua(d:WdD)(l:List Int)(a:Int)(h0:0<=a)(h1:a<=1000000)(hwl:1<=d.1.2.1.length/\d.1.2.1.length<=10000000)(hpl:1<=d.1.2.2.1.length/\d.1.2.2.1.length<=1000000)(hwb:WBo d.1.2.1):
 Tot (fun (r:(WdD×Unit)×A4×Unit)=>WBo r.1.1.1.2.1/\r.1.1.1.2.1.length=d.1.2.1.length/\r.1.1.1.2.2.1.length<=d.1.2.2.1.length/\d.1.2.2.1.length<=r.1.1.1.2.2.1.length+1/\0<=r.2.1.2.1/\r.2.1.2.1<=a+4) (F_made_World_Spoil (d,(l,a,()),())):=by
 obtain ⟨⟨⟨pw,np,_⟩,ws,ps,sp,bu,_⟩,st,wk,_⟩:=d;dsimp only at hwl hpl hwb
 have fin:∀ (cf:CfD) (ws':List Int) (ps':List PgD) (s b:Int) (tp:A4),ws'.length=ws.length->(ps'.length<=ps.length/\ps.length<=ps'.length+1)->WBo ws'->(0<=tp.2.1/\tp.2.1<=a+4)->Tot (fun (r:(WdD×Unit)×A4×Unit)=>WBo r.1.1.1.2.1/\r.1.1.1.2.1.length=ws.length/\r.1.1.1.2.2.1.length<=ps.length/\ps.length<=r.1.1.1.2.2.1.length+1/\0<=r.2.1.2.1/\r.2.1.2.1<=a+4) (some ((((cf,ws',ps',s,b,()),st,wk,()),()),tp,())):=fun cf ws' ps' s b tp q1 q2 q3 q4=>zab ⟨q3,q1,q2.1,q2.2,q4.1,q4.2⟩
 have setW:∀ (i:Nat) (v:Int),0<=v/\v<18446744073709551616->(ws.set i v).length=ws.length/\WBo (ws.set i v):=fun i v hv=>⟨by rw [List.length_set],hwb.set hv⟩
 have setP:∀ (i:Nat) (v:PgD),(ps.set i v).length<=ps.length/\ps.length<=(ps.set i v).length+1:=fun i v=>by rw [List.length_set];omega
 rw [zhk];dsimp only
 refine zae (zak.2 (by omega)) (zae (zak.2 (by omega)) (zad (zal l a (ws.length:Int) h0 (by omega) (by omega)) ?_))
 rintro ⟨⟨(wi:Int),_⟩,⟨(l1:List Int),(a1:Int),_⟩,_⟩ g1;have q1:=g1.lo;have q2:=g1.hi (by omega);have q4:=g1.a0;have q5:=g1.a1
 dsimp only at q1 q2 q4 q5 ⊢
 refine zad (zal l1 a1 (ps.length:Int) (by omega) (by omega) (by omega)) ?_
 rintro ⟨⟨(pi:Int),_⟩,⟨(l2:List Int),(a2:Int),_⟩,_⟩ g2;have r1:=g2.lo;have r2:=g2.hi (by omega);have r4:=g2.a0;have r5:=g2.a1
 dsimp only at r1 r2 r4 r5 ⊢
 refine zad (zal l2 a2 12 (by omega) (by omega) (by omega)) ?_
 rintro ⟨⟨(v:Int),_⟩,⟨(l3:List Int),(a3:Int),_⟩,_⟩ g3;have s4:=g3.a0;have s5:=g3.a1
 dsimp only at s4 s5 ⊢
 have hiw:inB wi ws.length=true:=zaf.2 ⟨q1,q2⟩
 have hip:inB pi ps.length=true:=zaf.2 ⟨r1,r2⟩
 have next:∀ m:Int,1<=m->m<=10000000->Tot (fun r=>0<=(r.1.1:Int)/\(r.1.1:Int)<m/\0<=(r.2.1.2.1:Int)/\(r.2.1.2.1:Int)<=a+4) (F_made_Tape_Next ((l3,a3,()),m,())):=fun m m0 m1=>(zal l3 a3 m (by omega) (by omega) (by omega)).mono fun r hr=>⟨hr.lo,hr.hi m0,by have:=hr.a0;omega,by have:=hr.a1;omega⟩
 refine zac (fun _=>?_) fun _=>zae (zax fun _=>hiw) (zac (fun _=>?_) fun _=>zac (fun _=>?_) fun _=>zac (fun _=>?_) fun _=>zae (zax fun _=>hip) (zac (fun _=>?_) fun _=>zac (fun _=>?_) fun _=>zac (fun _=>?_) fun _=>zac (fun _=>?_) fun _=>zae ?_ (zac (fun _=>?_) fun _=>zac (fun _=>?_) fun _=>zac (fun _=>?_) fun _=>?_)))
 . refine zad (next 10 (by omega) (by omega)) ?_
   rintro ⟨⟨(u:Int),_⟩,tp,_⟩ ⟨u0,u1,u2,u3⟩;dsimp only at u0 u1 u2 u3 ⊢
   have hv:∀ x∈[(0:Int),1,5,21,4096,4097,4112,16386,1099511627776,61],0<=x/\x<18446744073709551616:=by
    intro x hx;simp only [qap,qb8,or_false]at hx;omega
   have hs:=setW wi.toNat _ (hv _ (zaE (d:=0) (i:=u.toNat) (by simp only [qaF,qby];omega)))
   exact zae (zaf.2 ⟨u0,by simp only [qaF,qby];omega⟩) (zae hiw (fin _ _ _ _ _ _ hs.1 (by omega) hs.2 ⟨u2,u3⟩))
 . refine zad (next 64 (by omega) (by omega)) ?_
   rintro ⟨⟨(u:Int),_⟩,tp,_⟩ ⟨u0,u1,u2,u3⟩;dsimp only at u0 u1 u2 u3 ⊢
   have hbx:∀ x y:Int,0<=zcg IntKind.u64 (fun (x1 x2:BitVec IntKind.u64.bits)=>x1 ^^^ x2) x y/\zcg IntKind.u64 (fun (x1 x2:BitVec IntKind.u64.bits)=>x1 ^^^ x2) x y<18446744073709551616:=fun x y=>zyc _
   have hs:=setW wi.toNat _ (hbx (ws.getD wi.toNat 0) (U (1*2 ^ min (U u).toNat IntKind.u64.bits)));refine zae ?_ (zae hiw (fin _ _ _ _ _ _ hs.1 (by omega) hs.2 ⟨u2,u3⟩))
   have:=zyc u
   simp only [qao,qag];omega
 . refine zad (next 5 (by omega) (by omega)) fun r hr=>zae hip (fin _ _ _ _ _ _ (by omega) (setP _ _) hwb hr.2.2)
 . refine zad (next 3 (by omega) (by omega)) fun r hr=>zae hip (fin _ _ _ _ _ _ (by omega) (setP _ _) hwb hr.2.2)
 . refine zad (next 9 (by omega) (by omega)) fun r hr=>zae hip (fin _ _ _ _ _ _ (by omega) (setP _ _) hwb hr.2.2)
 . refine zad (next 3 (by omega) (by omega)) fun r hr=>zae hip (fin _ _ _ _ _ _ (by omega) (setP _ _) hwb hr.2.2)
 . refine zad (next 3 (by omega) (by omega)) fun r hr=>fin _ _ _ _ _ _ (by omega) (by omega) hwb hr.2.2
 . have w:W ((ps.length:Int)+2)=ps.length+2:=W_id (by omega)
   rw [w];refine zad (next ((ps.length:Int)+2) (by omega) (by omega)) fun r hr=>fin _ _ _ _ _ _ (by omega) (by omega) hwb hr.2.2
 . cases (v == 9) <;> cases (v == 10) <;> first | rfl | exact qad (by omega)
 . exact fin _ _ _ _ _ _ (by omega) (by omega) hwb ⟨by dsimp only;omega,by dsimp only;omega⟩
 . exact fin _ _ _ _ _ _ (by omega) (by rw [qau,qaI];omega) hwb ⟨by dsimp only;omega,by dsimp only;omega⟩
 . refine zad (P:=fun r=>r.2.2.1.length=ps.length) (zai (fun x=>0<=x.1.1/\x.1.1<=(ps.length:Int)/\x.2.2.1.length=ps.length) (fun x=>((ps.length:Int)-x.1.1).toNat) ?_ ?_) ?_
   . exact ⟨by dsimp only;omega,by dsimp only;omega,rfl⟩
   . rintro ⟨⟨(i:Int),_⟩,_,(qs:List PgD),_⟩ ⟨i0,i1,i2⟩;dsimp only at i0 i1 i2 ⊢
     refine zac (fun h=>?_) fun _=>zab i2
     simp only [qab]at h;have hi:inB i qs.length=true:=zaf.2 ⟨i0,h⟩
     have w:W (i+1)=i+1:=W_id (by omega)
     rw [w];refine zae hi (zae (zax fun _=>hi) (zac (fun _=>zab ?_) fun _=>zab ?_))
     . simp only [qal];exact ⟨⟨by omega,by omega,by rw [List.length_set];exact i2⟩,by omega⟩
     . simp only [qal];exact ⟨⟨by omega,by omega,i2⟩,by omega⟩
   . rintro ⟨_,_,(qs:List PgD),_⟩ hq;dsimp only at hq ⊢
     exact fin _ _ _ _ _ _ (by omega) (by omega) hwb ⟨by dsimp only;omega,by dsimp only;omega⟩
 . exact fin _ _ _ _ _ _ (by omega) (by omega) hwb ⟨by dsimp only;omega,by dsimp only;omega⟩
end Go.VI
namespace Go.VI
open Go Go.Proofs
theorem zyq{x y:WkD}(h:toWk x=toWk y):x=y:=by
 obtain ⟨h1,o,t,q,s,⟨r0,r1,r2,r3,r4,r5,_⟩,_⟩:=x;obtain ⟨h1',o',t',q',s',⟨r0',r1',r2',r3',r4',r5',_⟩,_⟩:=y;simp only [toWk,P.Wk.mk.injEq]at h;obtain ⟨a,rfl,rfl,rfl,rfl,rfl,rfl,rfl,rfl,rfl,rfl⟩:=h;rw [zys a]
theorem zwo(w:WkD)(h:WkL w):Tot (fun r=>r.1.1=true) (F_l10_same (w,w,())):=by
 rw [ztr];dsimp only
 have hI:F_r10_SameInts=F_r01_Same:=by rw [zmd,zmi]
 have go:∀ l:List Int,l.length<=100000000->Tot (fun r=>r.1.1=true) (F_r01_Same (l,l,())):=zwn
 rw [hI];refine zad (zwm w.1 h.w h.p) ?_;rintro ⟨⟨(b:Bool),_⟩,_⟩ hb;have hb:b=true:=hb
 subst hb;refine zac (fun _=>zad (go w.2.1 h.o) ?_) fun c=>by cases c
 rintro ⟨⟨(b:Bool),_⟩,_⟩ hb;have hb:b=true:=hb
 subst hb;refine zac (fun _=>zad (go w.2.2.1 h.t) ?_) fun c=>by cases c
 rintro ⟨⟨(b:Bool),_⟩,_⟩ hb;have hb:b=true:=hb
 subst hb;refine zac (fun _=>zad (go w.2.2.2.1 h.q) ?_) fun c=>by cases c
 rintro ⟨⟨(b:Bool),_⟩,_⟩ hb;have hb:b=true:=hb
 subst hb;refine zab ?_;simp
theorem zsc(h:HpD)(hw:HpW h):Tot (fun r=>(r.1.2.1=(if P.okH (toHp h) then (if P.zgT (toHp h) then 0 else 19) else 1)/\(r.1.2.1=0->toWk r.1.1=P.zbx (toHp h)))/\(r.1.2.1≠0->r.1.1=WK0)) (F_r10_Begin (h,())):=by
 have main:=zmX h hw;refine zlK main ?_;cases h1:P.okH (toHp h)
 . rw [zf4];dsimp only
   try rw [zar]
   refine zad (za3 _ hw) fun r hr=>?_
   obtain ⟨⟨(b:Bool),_⟩,_⟩:=r;have hb:b=P.okH (toHp h):=hr
   rw [h1]at hb;subst hb;exact zac (fun _=>zab fun _=>rfl) fun c=>by cases c
 cases h2:P.zgT (toHp h)
 . rw [zf4];dsimp only
   try rw [zar]
   refine zad (za3 _ hw) fun r hr=>?_
   obtain ⟨⟨(b:Bool),_⟩,_⟩:=r;have hb:b=P.okH (toHp h):=hr
   rw [h1]at hb;subst hb;refine zac (fun c=>by cases c) fun _=>zad (zjW h hw) ?_
   rintro ⟨⟨(g:Bool),_⟩,_⟩ hg;have hg:g=P.zgT (toHp h):=hg
   rw [h2]at hg;subst hg;exact zac (fun _=>zab fun _=>rfl) fun c=>by cases c
 . refine main.mono fun r hr c=>absurd hr.1 ?_
   rw [h1,h2];exact c
theorem zmR(v:HpD)(hv:HpW v)(q:Bool)(k:Int):Tot (fun r=>∃ q',r=(.inl ((q',k,()),(),()):LX⊕LY)) ((F_evacuate_Begin (v,())).bind fun (r_3:(WkD×Int×Unit)×Unit)=>(F_r10_Begin (v,())).bind fun (r_4:(WkD×Int×Unit)×Unit)=>
 bif r_3.1.2.1 != r_4.1.2.1 then some (Sum.inr (Sum.inl ((false,()),(),())))
 else (F_l10_same (r_3.1.1,r_4.1.1,())).bind fun (r_5:A5)=>
 bif !r_5.1.1 then some (Sum.inr (Sum.inl ((false,()),(),())))
 else (rl LX LY (fun (x_1:LX)=>
  bif decide (x_1.1.2.1<=(v.2.2.1.length:Int)) then (F_evacuate_Promoted (r_3.1.1,x_1.1.2)).bind
   fun (r:A5)=>(F_r10_Promoted (r_4.1.1,x_1.1.2)).bind
   fun (r_6:A5)=>
   bif !r.1.1 == r_6.1.1 then some (Sum.inr (Sum.inl ((false,()),(),())))
   else some (Sum.inl ((x_1.1.1,W (x_1.1.2.1+1),()),(),()))
  else some (Sum.inr (Sum.inr ((x_1.1.1,()),(),())))) ((q,-1,()),(),())).bind
 fun (r:LY)=>Sum.elim (fun (x:Af)=>some (Sum.inr (Sum.inl (x.1,(),())))) (fun (y:Af)=>some (Sum.inl ((y.1.1,k,()),(),()))) r):=by
 refine zad (zfy v hv) ?_;rintro ⟨⟨(w:WkD),(e:Int),_⟩,_⟩ ⟨b1,b2,b3⟩;refine zad (zsc v hv) ?_;rintro ⟨⟨(w':WkD),(e':Int),_⟩,_⟩ ⟨⟨c1,c2⟩,c3⟩;dsimp only at b1 b2 b3 c1 c2 c3 ⊢
 have ee:e=e':=b1.trans c1.symm
 subst ee;have hpl:=hv.pl;obtain ⟨hww,hL,hsp,hlen⟩:w=w'/\WkL w/\SpOK w.1/\w.1.2.2.1.length<=100000000:=by
  by_cases he:e=0
  . have g1:=b2 he;have g2:=c2 he;refine ⟨zyq (g1.trans g2.symm),?_⟩;have hok:P.okH (toHp v)=true:=by
     cases h1:P.okH (toHp v)
     . rw [h1,he]at b1;exact absurd b1 (by simp)
     . rfl
    have hgd:P.zgT (toHp v)=true:=by
     cases h1:P.zgT (toHp v)
     . rw [hok,h1,he]at b1;exact absurd b1 (by simp)
     . rfl
    have K:=Coll.start ((P.zu5 _).1 hgd) hv.wb g1;exact ⟨K.wkl,K.sp,K.wkl.p⟩
  . have g1:=b3 he;have g2:=c3 he;subst g1;exact ⟨g2.symm,⟨by decide,by decide,by decide,by decide,by decide⟩,⟨by decide,fun k hk=>by cases hk⟩,by decide⟩
 subst hww;refine zac (fun c=>by simp at c) fun _=>zad (zwo w hL) ?_
 rintro ⟨⟨(b:Bool),_⟩,_⟩ hb;have hb:b=true:=hb
 subst hb;refine zac (fun c=>by cases c) fun _=>zad (P:=fun r=>∃ y,r = .inr y) (zai (fun x=>-1<=x.1.2.1) (fun x=>((v.2.2.1.length:Int)+1-x.1.2.1).toNat) (by dsimp only;omega) ?_) ?_
 . rintro ⟨⟨(q':Bool),(i:Int),_⟩,_⟩ hi;dsimp only at hi ⊢
   refine zac (fun h4=>?_) fun h4=>zab ⟨_,rfl⟩
   simp only [qab]at h4;rw [zdU w i hsp hL.t hlen,qaa];refine zad (zek w i hL.t hlen) ?_;rintro ⟨⟨(b:Bool),_⟩,_⟩ hb;have hb:b=P.zeC (toWk w) i:=hb
   subst hb;refine zac (fun c=>by simp at c) fun _=>zab ?_
   rw [W_id (by omega)]
   exact ⟨by dsimp only;omega,by dsimp only;omega⟩
 . rintro _ ⟨y,rfl⟩;exact zab ⟨_,rfl⟩
end Go.VI
namespace Go.VI
open Go Go.Proofs
theorem zll(raw:HpD)(hr:WBo raw.2.1)(tape odd:List Int):F_l10_EvacuateBegins (raw,tape,odd,())=some ((true,()),()):=by
 refine zxK ?_;rw [zf7];dsimp only
 refine zad (zt9 tape) ?_;rintro ⟨⟨(d:WdD),_⟩,_⟩ ⟨n,hm⟩;have hm:Mk n d:=hm;have hw:=hm.hw;have L:=hm.lens;have c:=P.zaj L.conf;have cp:=P.conf_prod L.conf;have l1:(d.1.2.1.length:Int)=(toWd d).h.np*(toWd d).h.pw:=L.words
 have l2:(d.1.2.2.1.length:Int)=(toWd d).h.np:=by rw [<-L.pages];show ((d.1.2.2.1.length:Nat):Int)=((d.1.2.2.1.map toPg).length:Nat);rw [qai]
 have l3:1<=d.1.2.1.length/\d.1.2.1.length<=10000000:=by
  have:1*1<=(toWd d).h.np*(toWd d).h.pw:=qb4 (by omega) (by omega) (by omega) (by omega)
  have:(toWd d).h.np*(toWd d).h.pw<=64*64:=qb4 (by omega) (by omega) (by omega) (by omega)
  omega
 have l4:8<=d.1.2.2.1.length/\d.1.2.2.1.length<=64:=by omega
 have hwb:=hm.wb;clear hm L cp l1 l2 c;have hsp1:=zua d odd 0 (by omega) (by omega) l3 ⟨by omega,by omega⟩ hwb
 refine zad hsp1 ?_;rintro ⟨⟨(d1:WdD),_⟩,⟨(t1:List Int),(a1:Int),_⟩,_⟩ ⟨s1,s2,s3,s4,s5,s6⟩;dsimp only at s1 s2 s3 s4 s5 s6 ⊢
 have hw1:HpW d1.1:=⟨by omega,by omega,s1⟩
 try simp only [zar]
 rw [zso,qaa];dsimp only;refine zae (zax fun _=>zak.2 (by simp)) (zac (fun h1=>?_) fun h1=>?_)
 . simp only [qab]at h1;have hall:∀ v∈[d.1,d1.1]++[raw],HpW v:=by
    intro v hv;simp only [qaK,qaQ,qap,qb8,or_false]at hv;rcases hv with e | e | e
    . rw [e];exact hw
    . rw [e];exact hw1
    . rw [e];exact ⟨by omega,by omega,hr⟩
   have hlen:([d.1,d1.1]++[raw]).length<=1000:=by simp
   generalize [d.1,d1.1]++[raw]=hs at *
   refine zad (P:=fun r=>∃ y,r = .inr y) (zuB (n:=hs.length) (by omega) fun q k hk=>?_) ?_
   . rw [qac,W_id (n:=(k:Int)+1) (by omega)]
     exact zmR _ (hall _ (zaE hk)) q _
   . rintro _ ⟨y,rfl⟩;simp only [qak];rw [znc];exact zab rfl
 . have hall:∀ v∈[d.1,d1.1],HpW v:=by
    intro v hv;simp only [qap,qb8,or_false]at hv;rcases hv with e | e
    . rw [e];exact hw
    . rw [e];exact hw1
   have hlen:[d.1,d1.1].length<=1000:=by simp
   generalize [d.1,d1.1]=hs at *
   refine zad (P:=fun r=>∃ y,r = .inr y) (zuB (n:=hs.length) (by omega) fun q k hk=>?_) ?_
   . rw [qac,W_id (n:=(k:Int)+1) (by omega)]
     exact zmR _ (hall _ (zaE hk)) q _
   . rintro _ ⟨y,rfl⟩;simp only [qak];rw [znc];exact zab rfl
theorem L_EvacuateBeginsu(d)(h:wfP E_l10_EvacuateBegins.ps d):F_l10_EvacuateBegins d=some ((true,()),()):=by
 obtain ⟨raw,tape,odd,_⟩:=d;obtain ⟨hr,-⟩:=h;exact zll raw (fun x hx=>wf_u (hr.2.1.2 x hx)) tape odd
end Go.VI
