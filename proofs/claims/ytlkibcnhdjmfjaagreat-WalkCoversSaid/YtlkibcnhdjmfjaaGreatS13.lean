import Derived.Test.YtlkibcnhdjmfjaaGreatS08
import Derived.Test.YtlkibcnhdjmfjaaGreatS09
import Derived.Test.YtlkibcnhdjmfjaaGreatS10
import Derived.Test.YtlkibcnhdjmfjaaGreatS11
import Derived.Test.YtlkibcnhdjmfjaaGreatS12
set_option linter.unusedSimpArgs false
set_option linter.unusedVariables false
set_option maxRecDepth 100000
set_option maxHeartbeats 4000000
noncomputable section
namespace Go.VI.P
open Go
open Go.RowKit
theorem zj8 {h:Hp} {x:Wk} {os:List Int} {D:Nat->Int->Prop} (G:Good h) (C:CI h x os D) {k:Nat} {g0:Pg} (hg:h.pages[k]?=some g0) (h1:g0.kind=1) (hp:0<g0.pins) {c:Int} (hc:c∈zaE h k) :
 okD (zan (endH x) c)=true/\(dN (zan (endH x) c):Int)+1=osz h c/\(c∈zaf h->¬c∈x.queue->dK (zan (endH x) c)=0/\∀ j,1<=j->j<osz h c->zar (endH x).words (c+j)=0)/\((¬c∈zaf h\/c∈x.queue)->zan (endH x) c=zan h c):=by
 have I:=C.inv;have hcf:=I.conf;have hkl:=(qag.1 hg).1;have E:=za2 G C hg;obtain ⟨f1,f2⟩:=zil C;obtain ⟨t1,t2,t3,t4⟩:=zcw G.ok hg h1 (G.pg k hkl);obtain ⟨m1,m2,m3⟩:=zdt t3 c hc;obtain ⟨d1,d2⟩:=t4 c hc;have hcs:c∈zas h:=(zaB G.ok G.pg).2 ⟨k,hkl,hc⟩;have hbk:bs h k=4096+(k:Int)*h.pw:=rfl
 have hld:∀ p,c<=p->p<c+osz h c->zar (endH x).words p=zar (zaG x).h.words p:=fun p z1 z2=>by
  rw [zhi C hkl (by omega) (by omega),(E.k1 h1 hp).1];rfl
 have h4:4096<=c:=(znM (zaF hcs)).1
 by_cases ho:c∈zaf h
 · obtain ⟨i,j,g,b⟩:=zai ho;have hik:i=k:=zc8 (h:=h) (by omega) (ze5 b).1 (ze5 b).2 (by omega) (by omega)
   subst hik;have hgg:g=g0:=by have:=b.pg;rw [hg]at this;injection this with this;exact this.symm
   subst hgg;by_cases hq:c∈x.queue
   · have hw:zan (endH x) c=zan h c:=by
      have:=zeH G C hq (j:=0) (by omega) (by rw [(zd0 ho (I.kept ho hq)).2.1];omega)
      rw [qbU]at this;rw [zaI h4,zaI h4,this];have:=I.kept ho hq
      unfold evWd at this;rw [this]
     exact ⟨by rw [hw];exact d1,by rw [hw];exact d2.symm,fun _ c2=>absurd hq c2,fun _=>hw⟩
   · have hb:=(zsd C b).2 ⟨h1,hp,hq⟩;obtain ⟨w1,w2⟩:=f2 c ho hb;have hv:zaA 0 (atH h c).n 0=true:=zgk (.inl rfl) (zez (zaF hcs)).2.2.2.2.1 (zez (zaF hcs)).2.2.2.2.2 rfl
     have hwb:=zjO hv (by omega)
     have hwd:zan (endH x) c=(zcG 0 (atH h c).n 0).toNat:=by rw [zaI h4,hld c (by omega) (by omega),w1,(zpo hv).1]
     obtain ⟨e1,e2,e3,e4⟩:=zjx hv (by omega) (x:=(zcG 0 (atH h c).n 0).toNat) (by omega)
     rw [<-hwd]at e1 e2 e3;refine ⟨e1,by rw [e3];rfl,fun _ _=>⟨by omega,fun j j0 j1=>?_⟩,fun c2=>?_⟩
     · rw [hld (c+j) (by omega) (by omega)];exact w2 j j0 j1
     · rcases c2 with c2 | c2
       · exact absurd ho c2
       · exact absurd c2 hq
 · have hout:∀ a∈zaf h,c<a\/a+osz h a<=c:=fun a ha=>by
    have hne:c≠a:=fun e=>ho (e ▸ ha)
    have:=zdg G hcs (zaS.1 ha).1 hne
    omega
   have hw:zan (endH x) c=zan h c:=by
    rw [zaI h4,zaI h4,hld c (by omega) (by omega),f1 c (fun a ha _=>hout a ha),C.ot c hout fun k2 y hy hk2=>?_]
    refine qa9 fun z=>?_
    have:=zc8 (h:=h) (p:=c) (by omega) (k:=k2) (k':=k) (by omega) (by omega) (by omega) (by omega)
    subst this;rw [hg]at hy;injection hy with hy;subst hy;omega
   exact ⟨by rw [hw];exact d1,by rw [hw];exact d2.symm,fun c2=>absurd c2 ho,fun _=>hw⟩
theorem zs7 {h:Hp} {x:Wk} {os:List Int} {D:Nat->Int->Prop} (G:Good h) (C:CI h x os D) :
 (∀ k:Nat,k<h.pages.length->zbe (endH x) k=0/\∀ c∈zaE (endH x) k,(c∈x.queue/\bs h k<=c/\c<bs h k+h.pw)\/∃ g0,h.pages[k]?=some g0/\g0.kind=1/\0<g0.pins/\c∈zaE h k/\¬c∈x.queue) /\
 (∀ (k:Nat) (g0:Pg),h.pages[k]?=some g0->g0.kind=1->0<g0.pins->zaE (endH x) k=zaE h k) /\
 (∀ q∈x.queue,∃ k:Nat,k<h.pages.length/\q∈zaE (endH x) k):=by
 have I:=C.inv;have hcf:=I.conf;have ok:=zw2 G C;obtain ⟨s1,s2,s3,s4,s5,s6⟩:=znB I;have p7:=(zap I.ok).2.2.2.2.2.2;have hq0:∀ q∈x.queue,4096<=q/\zan (endH x) q=(evWd x q).toNat:=fun q hq=>by
  have hb:=I.queue_bd hq;refine ⟨hb.1,?_⟩;obtain ⟨t,ht,e⟩:=qbX.1 hq;have hlen:=C.len;have hqq:x.queue[t]?=some q:=by rw [qaj ht,e]
  obtain ⟨z1,-,-,-⟩:=C.size (qaj (show t<os.length by omega)) hqq
  have hos:=C.oin _ (qbT (show t<os.length by omega))
  obtain ⟨i,j,g,b⟩:=zai hos;have:=zeH G C hq (j:=0) (by omega) (by rw [z1];have:=b.pos;omega)
  rw [qbU]at this;rw [zaI hb.1,this];rfl
 have hqd:∀ q∈x.queue,okD (zan (endH x) q)=true/\(dN (zan (endH x) q):Int)+1=evN x q:=fun q hq=>by
  obtain ⟨t,ht,e⟩:=qbX.1 hq;have hlen:=C.len;have hqq:x.queue[t]?=some q:=by rw [qaj ht,e]
  obtain ⟨-,-,z3,-⟩:=C.size (qaj (show t<os.length by omega)) hqq
  rw [(hq0 q hq).2];exact ⟨z3,by rw [(zhg z3).1]⟩
 have hbk:∀ k:Nat,4096+(k:Int)*(endH x).pw=bs h k:=fun k=>by rw [s1];rfl
 have htaken:∀ (k:Nat),(k:Int)∈x.taken->∃ l,zbe (endH x) k=0/\zaE (endH x) k=l/\∀ q,q∈l↔q∈x.queue/\bs h k<=q/\q<bs h k+h.pw:=fun k ht=>by
  obtain ⟨k2,g1,g,e0,e1,-⟩:=I.tk _ ht;obtain rfl:k=k2:=by omega
  obtain ⟨-,-,u,e,e',u0,u1⟩:=(za2 G C e1).tk ht;obtain ⟨u',l,t1,t2,t3⟩:=C.tile k ht;rw [e']at t1;injection t1 with t1;injection t1 with _ _ t1 _
  subst t1;obtain ⟨r1,r2⟩:=zdC ok e rfl u0 (by rw [s1];exact u1) (sz:=evN x) (l:=l) (by rw [hbk];exact t2) fun q hq=>by
   obtain ⟨z1,z2⟩:=hqd q ((t3 q).1 hq).1;exact ⟨z1,by omega⟩
  exact ⟨l,r1,r2,t3⟩
 have hpinned:∀ (k:Nat) (g0:Pg),h.pages[k]?=some g0->g0.kind=1->0<g0.pins->zbe (endH x) k=0/\zaE (endH x) k=zaE h k:=fun k g0 hg h1 hp=>by
  have hkl:=(qag.1 hg).1;obtain ⟨t1,t2,t3,t4⟩:=zcw G.ok hg h1 (G.pg k hkl);refine zdC ok ((za2 G C hg).k1 h1 hp).2 rfl t1 (by rw [s1];exact t2) (sz:=osz h) (by rw [hbk];exact t3) fun c hc=>?_
  obtain ⟨w1,w2,-⟩:=zj8 G C hg h1 hp hc;exact ⟨w1,w2.symm⟩
 have hlarge:∀ (k:Nat) (g0:Pg),h.pages[k]?=some g0->g0.kind=2->bs h k∈x.queue->zbe (endH x) k=0/\zaE (endH x) k=[bs h k]:=fun k g0 hg h2 hq=>by
  have hkl:=(qag.1 hg).1;obtain ⟨t1,t2,t3,t4⟩:=zfA G.ok hg h2 (G.pg k hkl);have hob:bs h k∈zaf h:=by
   rcases I.qs _ hq with c | c
   · exact c
   · exfalso
     obtain ⟨k3,g3,d1,d2,d3,d4,d5,d6,d7⟩:=I.copy c;have:=zc8 (h:=h) (p:=bs h k) (by omega) (k:=k) (k':=k3) (by omega) (by omega) (by have e3:bs h k3=4096+(k3:Int)*h.pw:=rfl;omega) (by have e3:bs h k3=4096+(k3:Int)*h.pw:=rfl;omega)
     subst this;rw [hg]at d1;injection d1 with d1;subst d1;omega
  have hw:zan (endH x) (bs h k)=zan h (bs h k):=by
   rw [(hq0 _ hq).2,I.kept hob hq,zaI (hq0 _ hq).1]
  obtain ⟨r1,r2,-⟩:=zfV ok ((za2 G C hg).k2 h2 hq).2 rfl (by rw [hbk,hw];exact t2) (by rw [hbk,hw];exact t3)
  exact ⟨r1,by rw [r2,hbk]⟩
 refine ⟨fun k hk=>?_,fun k g0 hg h1 hp=>(hpinned k g0 hg h1 hp).2,fun q hq=>?_⟩
 · have hg:h.pages[k]?=some h.pages[k]:=qaj hk
   generalize h.pages[k]=g0 at hg
   have E:=za2 G C hg;rcases (zaM _ _ _ _ p7 g0 (qav hg)).2.2.2.2.2.2.2.2 with c | c | c | c
   · by_cases ht:(k:Int)∈x.taken
     · obtain ⟨l,r1,r2,r3⟩:=htaken k ht;exact ⟨r1,fun q hq=>.inl ((r3 q).1 (by rw [<-r2];exact hq))⟩
     · obtain ⟨r1,r2⟩:=zaW ok (E.k0 ht c).2 (.inl c);exact ⟨r1,fun q hq=>by rw [r2]at hq;cases hq⟩
   · by_cases hp:0<g0.pins
     · obtain ⟨r1,r2⟩:=hpinned k g0 hg c hp;refine ⟨r1,fun q hq=>?_⟩
       rw [r2]at hq;by_cases hqq:q∈x.queue
       · left
         obtain ⟨t1,t2,t3,t4⟩:=zcw G.ok hg c (G.pg k hk);have:=zdt t3 q hq
         refine ⟨hqq,?_⟩;unfold bs;omega
       · exact .inr ⟨g0,hg,c,hp,hq,hqq⟩
     · obtain ⟨r1,r2⟩:=zaW ok (E.k1' c hp).2 (.inl rfl);exact ⟨r1,fun q hq=>by rw [r2]at hq;cases hq⟩
   · by_cases hq:bs h k∈x.queue
     · obtain ⟨r1,r2⟩:=hlarge k g0 hg c hq;refine ⟨r1,fun q hq2=>?_⟩
       rw [r2]at hq2;rw [qau.1 hq2];exact .inl ⟨hq,by omega,by omega⟩
     · obtain ⟨r1,r2⟩:=zaW ok (E.k2' c hq).2 (.inl rfl);exact ⟨r1,fun q hq=>by rw [r2]at hq;cases hq⟩
   · by_cases hq:bs h (zaZ h.pages k)∈x.queue
     · obtain ⟨r1,r2⟩:=zaW ok (E.k3 c hq).2 (.inr rfl);exact ⟨r1,fun q hq=>by rw [r2]at hq;cases hq⟩
     · obtain ⟨r1,r2⟩:=zaW ok (E.k3' c hq).2 (.inl rfl);exact ⟨r1,fun q hq=>by rw [r2]at hq;cases hq⟩
 · rcases I.qs q hq with c | c
   · obtain ⟨i,j,g,b⟩:=zai c;rcases C.kp q hq c i j g b with k2 | ⟨k1,kp⟩
     · have hqb:q=bs h i:=by
        rcases b.kd with ⟨z,-⟩ | ⟨-,z,-⟩
        · omega
        · have:=b.ad;unfold bs;omega
       refine ⟨i,b.il,?_⟩;rw [(hlarge i g b.pg k2 (by rw [<-hqb];exact hq)).2]
       exact qau.2 hqb
     · obtain ⟨k',hk',hx⟩:=(zaB G.ok G.pg).1 (zaS.1 c).1;obtain ⟨j',g',b'⟩:=zbA G.ok hk' hx;have:k'=i:=by have h1:=b.oi;have h2:=b'.oi;omega
       subst this;exact ⟨k',hk',by rw [(hpinned k' g b.pg k1 kp).2];exact hx⟩
   · obtain ⟨k,g,d1,d2,d3,d4,d5⟩:=c;obtain ⟨k3,y0,y3,l0,l1,l2,l3,l4,l5,l6⟩:=I.tk _ d1;obtain rfl:k=k3:=by omega
     rw [d2]at l3;injection l3 with l3;subst l3
     rw [I.pw]at d3 d5;obtain ⟨l,r1,r2,r3⟩:=htaken k d1;have:=(zhg d4).1
     refine ⟨k,(qag.1 l1).1,?_⟩;rw [r2];exact (r3 q).2 ⟨hq,by unfold bs;omega,by unfold bs;omega⟩
theorem zwt {h:Hp} {x:Wk} {os:List Int} (G:Good h) (C:CI h x os (fun t _=>t<os.length)) :
 Good (endH x)/\(∀ c,c∈zaf (endH x)↔c∈x.queue)/\(∀ (i:Nat) (o q:Int),os[i]?=some o->x.queue[i]?=some q->atH (endH x) q=atH h o/\∀ j,0<=j->j<(atH h o).n->zar (endH x).words (q+1+j)=zar x.h.words (q+1+j)):=by
 have I:=C.inv;have hcf:=I.conf;have ok:=zw2 G C;obtain ⟨s1,s2,s3,s4,s5,s6⟩:=znB I;have p7:=(zap I.ok).2.2.2.2.2.2;have hc:=(zap I.ok).1;obtain ⟨l1,l2,l3⟩:=zs7 G C;have hlen:=C.len;have hidx:∀ q∈x.queue,∃ (i:Nat) (o:Int),os[i]?=some o/\x.queue[i]?=some q:=fun q hq=>by
  obtain ⟨t,ht,e⟩:=qbX.1 hq;exact ⟨t,os[t],qaj (by omega),by rw [qaj ht,e]⟩
 have hpe:∀ k:Nat,k<(endH x).pages.length->zbe (endH x) k=0:=fun k hk=>(l1 k (by omega)).1
 have hst:∀ c,c∈zas (endH x)↔∃ k:Nat,k<h.pages.length/\c∈zaE (endH x) k:=fun c=>by rw [zaB ok hpe,s4]
 have hat:∀ (i:Nat) (o q:Int),os[i]?=some o->x.queue[i]?=some q->atH (endH x) q=atH h o:=fun i o q h1 h2=>by
  have hqm:=qav h2;have hob:=C.oin o (qav h1);obtain ⟨z1,z2,z3,z4⟩:=C.size h1 h2;have e1:=zaF ((hst q).2 (l3 q hqm));obtain ⟨i5,j5,g5,b5⟩:=zcc e1;obtain ⟨i6,j6,g6,b6⟩:=zai hob;have hb:=I.queue_bd hqm;have hw:=zeH G C hqm (j:=0) (by omega) (by rw [z1];have:=b6.pos;omega)
  rw [qbU]at hw;have:zan (endH x) q=zan h o:=by rw [zaI hb.1,hw];exact z4
  rw [b5.hd,b6.hd,this]
 have hpin:∀ (k:Nat) (g0:Pg),h.pages[k]?=some g0->g0.kind=1->0<g0.pins->∀ c∈zaE h k,(c∈zaf h->¬c∈x.queue->(atH (endH x) c).k=0/\(atH (endH x) c).n=(atH h c).n/\∀ j,1<=j->j<osz h c->zar (endH x).words (c+j)=0)/\((¬c∈zaf h\/c∈x.queue)->atH (endH x) c=atH h c):=fun k g0 hg h1 hp c hcm=>by
  have hkl:=(qag.1 hg).1;obtain ⟨w1,w2,w3,w4⟩:=zj8 G C hg h1 hp hcm;have e1:atE (endH x) c=0:=zcn (h:=endH x) (i:=(k:Int)) (by rw [l2 k g0 hg h1 hp];exact hcm)
  obtain ⟨i5,j5,g5,b5⟩:=zcc e1;obtain ⟨i6,j6,g6,b6⟩:=zcc (zcn hcm);refine ⟨fun c1 c2=>?_,fun c1=>by rw [b5.hd,b6.hd,w4 c1]⟩
  obtain ⟨v1,v2⟩:=w3 c1 c2;refine ⟨?_,?_,v2⟩
  · rw [b5.hd];show (dK (zan (endH x) c):Int)=0;omega
  · rw [b5.hd];show (dN (zan (endH x) c):Int)=(atH h c).n
    unfold osz at w2;omega
 have hob:∀ c,c∈zaf (endH x)↔c∈x.queue:=fun c=>by
  rw [zaS,hst];constructor
  · rintro ⟨⟨k,hk,hcm⟩,hk0⟩;rcases (l1 k hk).2 c hcm with q | ⟨g0,hg,h1,hp,hcv,hnq⟩
    · exact q.1
    · exfalso
      obtain ⟨v1,v2⟩:=hpin k g0 hg h1 hp c hcv;by_cases ho:c∈zaf h
      · exact hk0 (v1 ho hnq).1
      · rw [v2 (.inl ho)]at hk0;exact ho (zaS.2 ⟨(zaB G.ok G.pg).2 ⟨k,hk,hcv⟩,hk0⟩)
  · intro hq;obtain ⟨i,o,h1,h2⟩:=hidx c hq;refine ⟨l3 c hq,?_⟩;rw [hat i o c h1 h2];exact (zc3 (C.oin o (qav h1))).2
 have hfw:∀ (i:Nat) (o q:Int),os[i]?=some o->x.queue[i]?=some q->∀ j,0<=j->j<(atH h o).n->zar (endH x).words (q+1+j)=zar x.h.words (q+1+j):=fun i o q h1 h2 j j0 j1=>by
  obtain ⟨z1,-,-,-⟩:=C.size h1 h2;have:=zeH G C (qav h2) (j:=j+1) (by omega) (by rw [z1];unfold osz;omega)
  rwa [show q+(j+1)=q+1+j from by omega]at this
 have hback:∀ (k:Nat) (y:Pg),(endH x).pages[k]?=some y->∃ g0,h.pages[k]?=some g0:=fun k y hy=>by
  have:=(qag.1 hy).1
  exact ⟨h.pages[k],qaj (by omega)⟩
 refine ⟨⟨ok,fun k y hy=>?_,hpe,fun k y hy c hcm=>?_,fun p p0 p1=>?_,fun a ha i hi=>?_,?_⟩,hob,fun i o q h1 h2=>⟨hat i o q h1 h2,hfw i o q h1 h2⟩⟩
 ·
  obtain ⟨g0,hg⟩:=hback k y hy;have E:=za2 G C hg;rw [s3];rcases (zaM _ _ _ _ p7 g0 (qav hg)).2.2.2.2.2.2.2.2 with c | c | c | c
  · by_cases ht:(k:Int)∈x.taken
    · obtain ⟨-,-,u,e,-⟩:=E.tk ht;rw [e]at hy;injection hy with hy;subst hy;exact .inr rfl
    · rw [(E.k0 ht c).2]at hy;injection hy with hy;subst hy;exact .inl c
  · by_cases hp:0<g0.pins
    · rw [(E.k1 c hp).2]at hy;injection hy with hy;subst hy;exact .inr rfl
    · rw [(E.k1' c hp).2]at hy;injection hy with hy;subst hy;exact .inl rfl
  · by_cases hq:bs h k∈x.queue
    · rw [(E.k2 c hq).2]at hy;injection hy with hy;subst hy;exact .inr rfl
    · rw [(E.k2' c hq).2]at hy;injection hy with hy;subst hy;exact .inl rfl
  · by_cases hq:bs h (zaZ h.pages k)∈x.queue
    · rw [(E.k3 c hq).2]at hy;injection hy with hy;subst hy;exact .inr rfl
    · rw [(E.k3' c hq).2]at hy;injection hy with hy;subst hy;exact .inl rfl
 ·
  obtain ⟨g0,hg⟩:=hback k y hy;have hk:=(qag.1 hg).1;have E:=za2 G C hg;have hce:atE (endH x) c=0:=zcn hcm
  rw [s1,s2];rcases (l1 k hk).2 c hcm with ⟨hq,hr1,hr2⟩ | ⟨g1,hg1,h1,hp,hcv,hnq⟩
  · obtain ⟨i,o,i1,i2⟩:=hidx c hq;have hoo:=C.oin o (qav i1);obtain ⟨i6,j6,g6,b6⟩:=zai hoo;have hocl:∀ (kk:Nat) (gg:Pg),h.pages[kk]?=some gg->o∈zaE h kk->(gg.kind=1->zaV (atH h o).k (atH h o).n (atH h o).m<=zga h.pw h.np):=fun kk gg hgg hom=>(G.cls kk gg hgg o hom).1
    rw [hat i o c i1 i2];refine ⟨fun hy1=>?_,fun _=>(zc3 hoo).2⟩
    obtain ⟨k',hk',hom⟩:=(zaB G.ok G.pg).1 (zaS.1 hoo).1;obtain ⟨j',g',b'⟩:=zbA G.ok hk' hom;refine hocl k' g' b'.pg hom ?_;rcases C.plc i o c i1 i2 with e | ⟨-,-,-,e⟩
    · subst e;have:k'=k:=zc8 (h:=h) (by omega) (ze5 b').1 (ze5 b').2 hr1 hr2
      subst this;have hgg:g'=g0:=by have:=b'.pg;rw [hg]at this;injection this with this;exact this.symm
      subst hgg;rcases b'.kd with ⟨z,-⟩ | ⟨z,-⟩
      · exact z
      · exfalso
        by_cases hqq:bs h k'∈x.queue
        · rw [(E.k2 z hqq).2]at hy;injection hy with hy;subst hy;cases hy1
        · rw [(E.k2' z hqq).2]at hy;injection hy with hy;subst hy;cases hy1
    · exact e _ _ _ b'
  · rw [hg]at hg1;injection hg1 with hg1;subst hg1
    obtain ⟨v1,v2⟩:=hpin k g0 hg h1 hp c hcv;have hcl:=(G.cls k g0 hg c hcv).1 h1;refine ⟨fun _=>?_,fun hy2=>?_⟩
    · by_cases ho:c∈zaf h
      · obtain ⟨w1,w2,-⟩:=v1 ho hnq;have hvv:=(zez hce).2.1;rw [zbj hvv,w2];rw [zbj (zez (zcn hcv)).2.1]at hcl;exact hcl
      · rw [v2 (.inl ho)];exact hcl
    · rw [(E.k1 h1 hp).2]at hy;injection hy with hy;subst hy;cases hy2
 ·
  rw [s1,s2]at p1;obtain ⟨k,t,e,hk,ht⟩:=zmd hc p0 p1;have hkl:k<h.pages.length:=by omega
  have hb1:bs h k<=p:=by unfold bs;omega
  have hb2:p<bs h k+h.pw:=by unfold bs;omega
  have hg:h.pages[k]?=some h.pages[k]:=qaj hkl
  generalize h.pages[k]=g0 at hg
  have E:=za2 G C hg;have hW:=zhi C hkl hb1 hb2;obtain ⟨f1,f2⟩:=zil C;have gen:frB (zaG x) k=false->¬g0.kind=0->(∀ c∈zaf h,c<=p->p<c+osz h c->¬c∈x.queue->∃ (kc:Nat) (gc:Pg),h.pages[kc]?=some gc/\gc.kind=1/\0<gc.pins/\c∈zaE h kc)->(∀ c∈zaE h k,¬c∈zaf h->g0.kind=1/\0<g0.pins) ->
   (∃ c∈zas (endH x),c<=p/\p<c+zds (endH x) c)\/zar (endH x).words p=0:=fun hnf hk0 hgo hfil=>by
   by_cases hobj:∃ c∈zaf h,c<=p/\p<c+osz h c
   · obtain ⟨c,hco,c1,c2⟩:=hobj;by_cases hq:c∈x.queue
     · left
       refine ⟨c,(hst c).2 (l3 c hq),c1,?_⟩;obtain ⟨i,o,i1,i2⟩:=hidx c hq;have ha:=hat i o c i1 i2;have hok1:=(zaS.1 ((hob c).2 hq)).2;have hv:=(zez (zaF ((hst c).2 (l3 c hq)))).2.1;have hn:(atH (endH x) c).n+1=osz h c:=by
        obtain ⟨z1,-,-,-⟩:=C.size i1 i2;rw [(zd0 hco (I.kept hco hq)).2.1]at z1;rw [ha,z1];rfl
       unfold zds;rw [if_neg hok1,zbj hv,hn];exact c2
     · obtain ⟨kc,gc,hgc,g1,g2,hcv⟩:=hgo c hco c1 c2 hq;obtain ⟨v1,v2,v3⟩:=(hpin kc gc hgc g1 g2 c hcv).1 hco hq;by_cases ep:p=c
       · left
         refine ⟨c,(hst c).2 ⟨kc,(qag.1 hgc).1,by rw [l2 kc gc hgc g1 g2];exact hcv⟩,c1,?_⟩
         unfold zds;rw [if_pos v1];omega
       · right
         have:=v3 (p-c) (by omega) (by omega)
         rwa [show c+(p-c)=p from by omega]at this
   · have hno:∀ a∈zaf h,p<a\/a+osz h a<=p:=fun a ha=>by
      refine qa9 fun z=>hobj ⟨a,ha,by omega,by omega⟩
     have hx:zar (endH x).words p=zar h.words p:=by
      rw [hW,hnf];show zar (zaG x).h.words p=_
      rw [f1 p (fun a ha _=>hno a ha),C.ot p hno fun k2 y hy hk2=>?_]
      refine qa9 fun z=>?_
      have:=zc8 (h:=h) (p:=p) (by omega) (k:=k2) (k':=k) (by omega) (by omega) hb1 hb2
      subst this;rw [hg]at hy;injection hy with hy;subst hy;exact hk0 hk2
     rcases G.zero p p0 (by omega) with ⟨c,hcs,c1,c2⟩ | e0
     · left
       have hcn:¬c∈zaf h:=fun ho=>by
        have hz:=zod (zaF hcs);have:=hno c ho
        omega
       have hck:(atH h c).k=0:=qa9 fun z=>hcn (zaS.2 ⟨hcs,z⟩)
       have hpc:p=c:=by unfold zds at c2;rw [if_pos hck]at c2;omega
       obtain ⟨k',hk',hcv⟩:=(zaB G.ok G.pg).1 hcs;obtain ⟨j',g',b'⟩:=zbA G.ok hk' hcv;have:k'=k:=zc8 (h:=h) (by omega) (ze5 b').1 (ze5 b').2 (by omega) (by omega)
       subst this;obtain ⟨g1,g2⟩:=hfil c hcv hcn;refine ⟨c,(hst c).2 ⟨k',hk',by rw [l2 k' g0 hg g1 g2];exact hcv⟩,c1,?_⟩
       unfold zds;rw [(hpin k' g0 hg g1 g2 c hcv).2 (.inl hcn),if_pos hck];omega
     · right;rw [hx];exact e0
  rcases (zaM _ _ _ _ p7 g0 (qav hg)).2.2.2.2.2.2.2.2 with c | c | c | c
  · have hxz:(¬(k:Int)∈x.taken\/∃ g,x.h.pages[k]?=some g/\bs h k+g.used<=p)->zar (endH x).words p=0:=fun hz=>by
     rw [hW];split
     · rfl
     · rw [f1 p fun a ha _=>?_]
       · exact C.fr k g0 p hg c hb1 hb2 hz
       · obtain ⟨i3,j3,g3,b3⟩:=zai ha;have:=zaH b3 hg c
         unfold bs at hb1 hb2;omega
    by_cases ht:(k:Int)∈x.taken
    · obtain ⟨u,l,t1,t2,t3⟩:=C.tile k ht;by_cases hu:bs h k+u<=p
      · exact .inr (hxz (.inr ⟨_,t1,hu⟩))
      · left
        obtain ⟨q,hq,q1,q2⟩:=zl3 t2 hb1 (by omega)
        have hqq:=((t3 q).1 hq).1;refine ⟨q,(hst q).2 (l3 q hqq),q1,?_⟩;obtain ⟨i,o,i1,i2⟩:=hidx q hqq;have hv:=(zez (zaF ((hst q).2 (l3 q hqq)))).2.1;unfold zds;rw [if_neg (zaS.1 ((hob q).2 hqq)).2,zbj hv,hat i o q i1 i2];obtain ⟨z1,-,-,-⟩:=C.size i1 i2;rw [z1]at q2;exact q2
    · exact .inr (hxz (.inl ht))
  · by_cases hp:0<g0.pins
    · refine gen (E.k1 c hp).1 (by omega) (fun a ha a1 a2 _=>?_) fun a _ _=>⟨c,hp⟩
      obtain ⟨k',hk',hav⟩:=(zaB G.ok G.pg).1 (zaS.1 ha).1;obtain ⟨j',g',b'⟩:=zbA G.ok hk' hav;have hon:=ze5 b';obtain ⟨u1,u2,u3,u4⟩:=b'.upto;have hkk:k'=k:=by
       have hlo:¬k<k':=fun z=>by have:=zlN (h:=h) (by omega) z;omega
       refine qa9 fun z=>?_
       have hlt:k'<k:=by omega
       have hhi:(k:Int)<k'+zd7 h g':=by
        refine qa9 fun z2=>?_
        have:((k':Int)+zd7 h g')*h.pw<=(k:Int)*h.pw:=qaR (by omega) (by omega)
        unfold bs at hb1;omega
       obtain ⟨y,y1,y2⟩:=u4 k hlt hhi;rw [hg]at y1;injection y1 with y1;subst y1;omega
      subst hkk;exact ⟨k',g0,hg,c,hp,hav⟩
    · right;rw [hW,(E.k1' c hp).1];rfl
  · by_cases hq:bs h k∈x.queue
    · refine gen (E.k2 c hq).1 (by omega) (fun a ha a1 a2 hnq=>?_) fun a hav hno=>?_
      · exfalso
        obtain ⟨t1,t2,t3,t4⟩:=zfA G.ok hg c (G.pg k hkl);obtain ⟨k',hk',hav⟩:=(zaB G.ok G.pg).1 (zaS.1 ha).1;obtain ⟨j',g',b'⟩:=zbA G.ok hk' hav;have hon:=ze5 b';obtain ⟨u1,u2,u3,u4⟩:=b'.upto;have hkk:k'=k:=by
         have hlo:¬k<k':=fun z=>by have:=zlN (h:=h) (by omega) z;omega
         refine qa9 fun z=>?_
         have hlt:k'<k:=by omega
         have hhi:(k:Int)<k'+zd7 h g':=by
          refine qa9 fun z2=>?_
          have:((k':Int)+zd7 h g')*h.pw<=(k:Int)*h.pw:=qaR (by omega) (by omega)
          unfold bs at hb1;omega
         obtain ⟨y,y1,y2⟩:=u4 k hlt hhi;rw [hg]at y1;injection y1 with y1;subst y1;omega
        subst hkk;rw [t1]at hav;rw [qau.1 hav]at hnq;exact hnq hq
      · exfalso
        exact hno (zaS.2 ⟨(zaB G.ok G.pg).2 ⟨k,hkl,hav⟩,(G.cls k g0 hg a hav).2 c⟩)
    · right;rw [hW,(E.k2' c hq).1];rfl
  · by_cases hq:bs h (zaZ h.pages k)∈x.queue
    · obtain ⟨r1,r2⟩:=zaW G.ok hg (.inr c);refine gen (E.k3 c hq).1 (by omega) (fun a ha a1 a2 hnq=>?_) fun a hav hno=>by rw [r2]at hav;cases hav
      exfalso
      obtain ⟨l,yl,l1',l2',l3',l4'⟩:=zjT I.ok hg c;rw [l2']at hq;obtain ⟨k',hk',hav⟩:=(zaB G.ok G.pg).1 (zaS.1 ha).1;obtain ⟨j',g',b'⟩:=zbA G.ok hk' hav;have hon:=ze5 b';obtain ⟨u1,u2,u3,u4⟩:=b'.upto;have hkd:g'.kind=1\/g'.kind=2:=by rcases b'.kd with ⟨z,-⟩ | ⟨z,-⟩ <;> omega
      have hne:k'≠k:=fun z=>by subst z;have:=b'.pg;rw [hg]at this;injection this with this;subst this;omega
      have hlo:¬k<k':=fun z=>by have:=zlN (h:=h) (by omega) z;omega
      have hlt:k'<k:=by omega
      have hhi:(k:Int)<k'+zd7 h g':=by
       refine qa9 fun z2=>?_
       have:((k':Int)+zd7 h g')*h.pw<=(k:Int)*h.pw:=qaR (by omega) (by omega)
       unfold bs at hb1;omega
      have hhd:zaZ h.pages k=k':=by
       obtain ⟨d,rfl⟩:∃ d,k=k'+d:=⟨k-k',by omega⟩
       refine zdN (by rw [zaq b'.pg];omega) d fun t2 w1 w2=>?_
       obtain ⟨y',y1',y2'⟩:=u4 t2 w1 (by omega)
       rw [zaq y1'];exact y2'
      rw [hhd]at l2'
      subst l2'
      have hgg:g'=yl:=by have:=b'.pg;rw [l3']at this;injection this with this;exact this.symm
      subst hgg;have hab:a=bs h k':=by
       rcases b'.kd with ⟨z,-⟩ | ⟨-,z,-⟩
       · omega
       · have:=b'.ad;unfold bs;omega
      rw [<-hab]at hq;exact hnq hq
    · right;rw [hW,(E.k3' c hq).1];rfl
 ·
  have hq:=(hob a).1 ha;obtain ⟨t,o,i1,i2⟩:=hidx a hq;rw [hat t o a i1 i2]at hi;obtain ⟨-,z0,z1⟩:=zl9 hi;rw [hfw t o a i1 i2 i z0 z1,hob];rcases (C.fl t o a i1 i2 i z0 z1).1 (qag.1 i1).1 hi with ⟨-,e⟩ | ⟨t2,-,e⟩
  · exact .inl e
  · exact .inr (qav e)
 ·
  rw [s2];have:=zjK h.pages (endH x).pages s4.symm fun k a b ha hb hbk=>by
   have E:=za2 G C ha;rcases (zaM _ _ _ _ p7 a (qav ha)).2.2.2.2.2.2.2.2 with c | c | c | c
   · by_cases ht:(k:Int)∈x.taken
     · obtain ⟨-,-,u,e,-⟩:=E.tk ht;rw [e]at hb;injection hb with hb;subst hb;exact absurd hbk.2 (by show ¬(0:Int)<0;decide)
     · rw [(E.k0 ht c).2]at hb;injection hb with hb;subst hb;omega
   · by_cases hp:0<a.pins
     · exact ⟨c,hp⟩
     · rw [(E.k1' c hp).2]at hb;injection hb with hb;subst hb;exact absurd hbk.1 (by decide)
   · by_cases hq:bs h k∈x.queue
     · rw [(E.k2 c hq).2]at hb;injection hb with hb;subst hb;exact absurd hbk.1 (by show ¬(2:Int)=1;decide)
     · rw [(E.k2' c hq).2]at hb;injection hb with hb;subst hb;exact absurd hbk.1 (by decide)
   · by_cases hq:bs h (zaZ h.pages k)∈x.queue
     · rw [(E.k3 c hq).2]at hb;injection hb with hb;subst hb;exact absurd hbk.1 (by show ¬(3:Int)=1;decide)
     · rw [(E.k3' c hq).2]at hb;injection hb with hb;subst hb;exact absurd hbk.1 (by decide)
  have:=G.crowd
  omega
theorem zta {h:Hp} {st wk:List Int} (G:Good h) (hwb:WB h.words) (hst:∀ a∈st,a=0\/a∈zaf h) (hE:zex h st wk=0):∃ os,CI h (zbN h st wk) os (fun t _=>t<os.length)/\zis h st wk=endH (zbN h st wk) /\
 (zkV h st).length=st.length/\(∀ (i:Nat) (r w:Int),st[i]?=some r->(zkV h st)[i]?=some w->Fw os (zbN h st wk).queue r w):=by
 obtain ⟨e1,e2⟩:(zir h st).2.2=0/\(zhm h st).2=0:=by
  unfold zex at hE;rw [if_pos G.ok]at hE;split at hE
  · by_cases c:(zir h st).2.2=0
    · rw [if_pos c]at hE;exact ⟨c,hE⟩
    · rw [if_neg c]at hE;exact absurd hE c
  · exact absurd hE (by decide)
 obtain ⟨os1,out,C1,r1,r2,r3,⟨m1,r4⟩,⟨m2,r5⟩,r6⟩:=zsp st (zbV h) [] [] (fun _ _=>False) (CI.begin G hwb) hst e1
 have C2:CI h (zir h st).1 os1 (fun t _=>t<0):=C1.congr (fun i j d=>by omega) (fun i o _ j _=>⟨fun d=>d.elim,fun d=>by omega⟩)
 obtain ⟨os,C3,⟨m3,q1⟩,⟨m4,q2⟩⟩:=zw7 G ((zaf h).length+1) (zir h st).1 0 os1 C2 (by show (zaJ (zbV h) [] st).1.sc=_;rw [r6];rfl) (by omega) (by omega) e2
 refine ⟨os,⟨C3.inv.reports _ _ _ _ _ _ _,C3.len,C3.dl,C3.oin,C3.qnd,C3.seen,C3.plc,C3.hd,C3.fl,C3.un,C3.ot,C3.fr,C3.tile,C3.ppg,C3.kp,C3.wb⟩,rfl,?_,fun i r w h1 h2=>?_⟩
 · show (zaJ (zbV h) [] st).2.1.length=_
   rw [r1];simpa using r2
 · have h2:(zaJ (zbV h) [] st).2.1[i]?=some w:=h2
   rw [r1,qaX]at h2;exact (r3 i r w h1 h2).more ⟨_,q1⟩ ⟨_,q2⟩
theorem zvj:zso:=by
 intro x G hE;obtain ⟨os,C,eH,eL,eF⟩:=zta G.good G.wb G.st hE;obtain ⟨g1,g2,-⟩:=zwt G.good C;have hq:∀ r w,Fw os (zbN x.h x.st x.wk).queue r w->w=0\/w∈zaf (zis x.h x.st x.wk):=fun r w hf=>by
  rw [eH,g2];rcases hf with ⟨-,e⟩ | ⟨t,-,e⟩
  · exact .inl e
  · exact .inr (qav e)
 refine ⟨by show Good (zis x.h x.st x.wk);rw [eH];exact g1,?_,fun a ha=>?_,fun a ha=>?_⟩
 · show WB (zis x.h x.st x.wk).words
   exact zu6 _ (zu9 _ _ C.wb) _
 · have ha:a∈zkV x.h x.st:=ha;obtain ⟨i,hi,e⟩:=qbX.1 ha;exact hq _ a (eF i x.st[i] a (qaj (by omega)) (by rw [qaj hi,e]))
 · have ha:a∈x.wk.map (zf4 (zhm x.h x.st).1):=ha;obtain ⟨r,hr,e⟩:=qaz.1 ha;rw [<-e];show zf4 (zhm x.h x.st).1 r=0\/zf4 (zhm x.h x.st).1 r∈zaf (zis x.h x.st x.wk)
   unfold zf4;by_cases c:r=0
   · rw [if_pos c];exact .inl rfl
   rw [if_neg c];have hro:=(G.wk r hr).resolve_left c;rw [eH,g2];show zhq (zbN x.h x.st x.wk) r=0\/zhq (zbN x.h x.st x.wk) r∈_
   unfold zhq;by_cases c1:r∈(zbN x.h x.st x.wk).queue
   · rw [if_pos c1];exact .inr c1
   rw [if_neg c1];by_cases c2:okT (evWd (zbN x.h x.st x.wk) r).toNat=true
   · have hin:=(C.seen r hro).2 (.inr c2);obtain ⟨t,ht,e2⟩:=qbX.1 hin;have hlen:=C.len;have hos:os[t]?=some r:=by rw [qaj ht,e2]
     have hqq:(zbN x.h x.st x.wk).queue[t]?=some (zbN x.h x.st x.wk).queue[t]:=qaj (by omega)
     rcases C.plc t r _ hos hqq with q | ⟨-,q,-⟩
     · exact absurd (by rw [<-q];exact qbT _) c1
     · right;rw [q];exact qbT _
   · left;exact zwQ (by simpa using c2)
theorem zuL (n:Nat) (x:Wd) (hm:Made n x) (hn:n<=400):GW x:=zuM zvj n x hm hn
end Go.VI.P
namespace Go.VI
open Go
namespace P
end P
theorem zpJ (ps:List PgD) (hl:ps.length<=100000000):Tot (fun r=>r.1.1=(P.zbr (ps.map toPg):Int)) (F_page_InUse (ps,())):=by
 rw [znh];dsimp only
 refine zad (P:=fun r=>r.1.1=(P.zbr (ps.map toPg):Int)) (zat (fun x=>∃ k:Nat,x.1.2.1=(k:Int)/\k<=ps.length/\x.1.1=(P.zbr ((ps.map toPg).take k):Int)) (fun x=>((ps.length:Int)-x.1.2.1).toNat) ⟨0,rfl,by omega,by simp [P.zbr]⟩ ?_) fun r hr=>zab hr
 rintro ⟨⟨(n:Int),(i:Int),_⟩,_⟩ ⟨k,e,hk,e2⟩;dsimp only at e e2 ⊢
 subst e e2;have hle:=P.zg9 ((ps.map toPg).take k);rw [qax]at hle;refine zac (fun h=>?_) fun h=>zab ?_
 · simp only [qab]at h;have hk:k<ps.length:=by omega
   have w2:W ((k:Int)+1)=k+1:=W_id (by omega)
   have w1:W ((P.zbr ((ps.map toPg).take k):Int)+1)=P.zbr ((ps.map toPg).take k)+1:=W_id (by omega)
   refine zae (zam.2 ⟨by omega,h⟩) (zab ?_)
   rw [w1,w2,qad];simp only [qat];refine ⟨⟨k+1,by omega,by omega,?_⟩,by omega⟩
   rw [P.zmq (zbG hk)];have:(toPg (ps.getD k PG0)).kind=(ps.getD k PG0).1:=rfl
   rw [this];cases hc:((ps.getD k PG0).1 != 0)
   · simp only [qaA]at hc;rw [if_pos hc];simp
   · simp only [qaB,ne_eq]at hc;rw [if_neg hc];simp
 · simp only [qaf]at h;simp only [qas];rw [qba (by rw [qai];omega)]
end Go.VI
namespace Go.VI
open Go
abbrev FiD:=Int×Int×Unit
def toFi (f:Int×Nat):FiD:=(f.1,(f.2:Int),())
theorem bits_or (a b:Nat) (ha:a<18446744073709551616) (hb:b<18446744073709551616):zdi IntKind.u64 (fun (x1 x2:BitVec IntKind.u64.bits)=>x1 ||| x2) (a:Int) (b:Int)=((a ||| b:Nat):Int):=by
 have hx:a ||| b<2 ^ 64:=Nat.or_lt_two_pow (by omega) (by omega)
 show IntKind.u64.wrap ((BitVec.ofInt 64 (a:Int) ||| BitVec.ofInt 64 (b:Int)).toNat:Int)=_
 have e:∀ c:Nat,c<18446744073709551616->(BitVec.ofInt 64 (c:Int)).toNat=c:=fun c hc=>by
  rw [BitVec.toNat_ofInt];omega
 rw [BitVec.toNat_or,e a ha,e b hb,IntKind.wrap_u64];omega
theorem fi_at (fs:List (Int×Nat)) {k:Nat} (hk:k<fs.length):∃ x,fs[k]?=some x/\(fs.map toFi).getD k (0,0,())=toFi x:=by
 refine ⟨fs[k],qaj hk,?_⟩;rw [qaD,qbi,qaj hk];rfl
theorem zdn (fs:List (Int×Nat)) (k:Nat) (x:Int×Nat) (hx:fs[k]?=some x):F_bits_Pack_S1_c ((k:Int),fs.map toFi,())=some ((x.1,()),fs.map toFi,()):=by
 obtain ⟨hk,-⟩:=qag.1 hx;obtain ⟨y,hy,e⟩:=fi_at fs hk;obtain rfl:x=y:=by rw [hx]at hy;exact Option.some.inj hy
 rw [zie];dsimp only
 rw [zam.2 ⟨by omega,by rw [qai];omega⟩,qad,e];rfl
theorem zlc (fs:List (Int×Nat)) (hl:fs.length<=100000000):Tot (fun r=>r.1.1=P.fitL 64 (fs.map (·.1))/\r.2.1=fs.map toFi) (F_bits_fit_c_bits_Pack_S1 (((fs.map toFi).length:Int),fs.map toFi,())):=by
 rw [zdT];dsimp only
 rw [qai];have hlm:(fs.map (·.1)).length=fs.length:=qai ..
 refine zad (P:=fun r=>match r with
  | .inl x=>(x.1.1=false/\P.fitL 64 (fs.map (·.1))=false)/\x.2.2.1.1=fs.map toFi
  | .inr x=>P.fitL 64 (fs.map (·.1))=true/\x.2.2.1.1=fs.map toFi) (zat (fun x=>∃ k:Nat,x.1.2.2.1=(k:Int)/\k<=fs.length/\x.2.2.1.1=fs.map toFi/\0<=x.1.2.1/\x.1.2.1<=64/\P.fitL x.1.2.1 ((fs.map (·.1)).drop k)=P.fitL 64 (fs.map (·.1))) (fun x=>((fs.length:Int)-x.1.2.2.1).toNat) ⟨0,rfl,by omega,rfl,by dsimp only;omega,by dsimp only;omega,rfl⟩ ?_) fun r hr=>za7 (fun x hx=>?_) fun x hx=>?_
 · rintro ⟨⟨(q:Bool),(lf:Int),(i:Int),_⟩,_,⟨(l:List FiD),_⟩,_⟩ ⟨k,e,hk,el,h0,h64,hp⟩;dsimp only at e el h0 h64 hp ⊢
   rw [e,el];refine zac (fun h1=>?_) fun h1=>zab ?_
   · simp only [qab]at h1;have hk':k<fs.length:=by omega
     obtain ⟨x,hx,-⟩:=fi_at fs hk';have hx':(fs.map (·.1))[k]?=some x.1:=by rw [qbi,hx];rfl
     rw [zdn fs k x hx,qaa];dsimp only;refine zac (fun h2=>zab ⟨⟨rfl,?_⟩,rfl⟩) fun h2=>?_
     · rw [<-hp];exact P.znx hx' (.inl (by simpa using h2))
     simp only [qaf]at h2;rw [zdn fs k x hx,qaa];dsimp only;refine zac (fun h3=>zab ⟨⟨rfl,?_⟩,rfl⟩) fun h3=>?_
     · rw [<-hp];exact P.znx hx' (.inr (by simpa using h3))
     simp only [qaf]at h3;rw [zdn fs k x hx,qaa];dsimp only;rw [W_id (n:=lf-x.1) (by omega),W_id (n:=(k:Int)+1) (by omega)]
     refine zab ⟨⟨k+1,by dsimp only;omega,by omega,rfl,by dsimp only;omega,by dsimp only;omega,?_⟩,by dsimp only;omega⟩
     rw [<-hp];exact (P.zsa hx' h2 (by omega)).symm
   · simp only [qaf]at h1;refine ⟨?_,rfl⟩;rw [<-hp];exact P.zsc (by omega)
 · subst hx;exact zab ⟨hr.1.1.trans hr.1.2.symm,hr.2⟩
 · subst hx;exact zab ⟨hr.1.symm,hr.2⟩
theorem zre (fs:List (Int×Nat)) (hl:fs.length<=1000) (hv:∀ f∈fs,f.2<18446744073709551616):Tot (fun r=>r.1.1=(P.zm3 fs).1/\r.1.2.1=(P.zm3 fs).2) (F_bits_Pack (fs.map toFi,())):=by
 rw [zo0];dsimp only
 refine zad (zlc fs (by omega)) ?_
 rintro ⟨⟨(b:Bool),_⟩,(l:List FiD),_⟩ ⟨hb,el⟩;dsimp only at hb el ⊢
 rw [hb,el,qai];refine zac (fun h1=>zab ?_) fun h1=>?_
 · simp only [qap]at h1;rw [P.zv4 (by rw [h1];decide)];exact ⟨rfl,rfl⟩
 simp only [qaw]at h1;rw [W_id (n:=(fs.length:Int)-1) (by omega)]
 refine zad (P:=fun r=>match r with
  | .inl x=>P.okF fs=false/\x.1.1=0/\x.1.2.1=2
  | .inr y=>P.okF fs=true/\y.1.2.2.1=((P.zgp fs:Nat):Int)) (zat (fun y=>∃ j:Nat,y.1.2.2.2.1=(j:Int)/\j<=fs.length/\P.okF (fs.drop (fs.length-j))=true/\y.1.2.2.1=((P.zgp (fs.drop (fs.length-j)):Nat):Int)) (fun y=>((fs.length:Int)-y.1.2.2.2.1).toNat) ⟨0,rfl,by omega,by rw [qa6 (by omega)];rfl,by rw [qa6 (by omega)];rfl⟩ ?_) ?_
 · rintro ⟨⟨(y1:Int),(y2:Int),(v:Int),(i:Int),_⟩,_⟩ ⟨j,e,hj,ho,ev⟩;dsimp only at e ev ⊢
   rw [e];refine zac (fun h2=>?_) fun h2=>zab ?_
   · simp only [qab]at h2;obtain ⟨k,hk⟩:∃ k:Nat,k+1+j=fs.length:=⟨fs.length-1-j,by omega⟩
     have w1:W ((fs.length:Int)-1-j)=(k:Nat):=by rw [W_id (by omega)];omega
     have hk':k<fs.length:=by omega
     obtain ⟨x,hx,hg⟩:=fi_at fs hk';rw [w1,qad,hg];rw [show fs.length-j=k+1 from by omega]at ho ev
     have hin:inB (k:Int) fs.length=true:=zam.2 ⟨by omega,by omega⟩
     refine zae hin ?_;have hx1:(toFi x).1=x.1:=rfl
     have hx2:(toFi x).2.1=(x.2:Int):=rfl
     rw [hx1,hx2,zgE,qaa];dsimp only;refine zac (fun h3=>zab ⟨?_,rfl,rfl⟩) fun h3=>?_
     · simp only [qab]at h3;exact P.zv2 hx (by omega)
     simp only [qaf]at h3;obtain ⟨fa1,fa2⟩:=P.zr9 h1 k;rw [zjJ hx]at fa1 fa2;have hxb:=fa1 x.1 (by simp)
     refine zae (by simp;omega) (zab ?_)
     have hlt:=P.zrO (fs.drop (k+1)) ho (fun z hz=>(P.zr9 h1 (k+1)).1 z hz)
     simp only [qaW,P.sumW]at fa2;generalize hR:P.zgp (fs.drop (k+1))=R at *
     generalize hS:P.sumW ((fs.drop (k+1)).map (·.1))=S at *
     have hpow:R*2 ^ x.1.toNat<18446744073709551616:=by
      calc R*2 ^ x.1.toNat<2 ^ S*2 ^ x.1.toNat:=Nat.mul_lt_mul_of_pos_right hlt (Nat.pow_pos (by omega))
       _=2 ^ (S+x.1.toNat):=(Nat.pow_add ..).symm
       _<=2 ^ 64:=qbW (by omega) (by omega)
       _=_:=by decide
     have hu:U (v*2 ^ min x.1.toNat IntKind.u64.bits)=((R <<< x.1.toNat:Nat):Int):=by
      have hb:IntKind.u64.bits=64:=rfl
      rw [hb,show min x.1.toNat 64=x.1.toNat from by omega,ev,<-P.zfB,<-qca,Nat.shiftLeft_eq]
      exact U_id (by omega)
     have hp:P.zgp (fs.drop k)=R <<< x.1.toNat ||| x.2:=by rw [zjJ hx,P.zgp,hR]
     have hx3:=hv x (qav hx);rw [hu,bits_or _ _ (by rw [Nat.shiftLeft_eq];exact hpow) hx3]
     rw [W_id (n:=(j:Int)+1) (by omega)]
     refine ⟨⟨j+1,by dsimp only;omega,by omega,?_,?_⟩,by dsimp only;omega⟩
     · rw [show fs.length-(j+1)=k from by omega,zjJ hx]
       unfold P.okF at ho ⊢
       rw [List.all_cons,ho,Bool.and_true];exact qac (by omega)
     · rw [show fs.length-(j+1)=k from by omega,hp]
   · simp only [qaf]at h2;obtain rfl:j=fs.length:=by omega
     rw [qbI,qbS]at ho ev;exact ⟨ho,ev⟩
 · intro r hr;refine za7 (fun x hx=>?_) fun x hx=>?_
   · subst hx;obtain ⟨h2,h3,h4⟩:=hr;rw [P.zuo h1 h2];exact zab ⟨h3,h4⟩
   · subst hx;obtain ⟨h2,h3⟩:=hr;rw [P.zrP h1 h2];exact zab ⟨h3,rfl⟩
theorem zla (k n m:Int) (hm:0<=m/\m<4294967296):F_header_Encode ((k,n,m,()),())=some ((P.encV k n m,P.encE k n m,()),()):=by
 have key:∀ {o:Option ((Int×Int×Unit)×Unit)},Tot (fun r=>r.1.1=P.encV k n m/\r.1.2.1=P.encE k n m) o->o=some ((P.encV k n m,P.encE k n m,()),()):=fun h=>by
  obtain ⟨⟨⟨(a:Int),(b:Int),_⟩,_⟩,rfl,e1,e2⟩:=h;dsimp only at e1 e2
  rw [e1,e2]
 refine key ?_;rw [zjh];dsimp only
 rw [zei k n m hm,qaa];dsimp only;cases hv:P.zaA k n m
 · obtain ⟨e1,e2⟩:=P.zw3 hv;rw [e1,e2];exact zab ⟨rfl,rfl⟩
 · obtain ⟨e1,e2⟩:=P.zpo hv;have vp:=P.zaD hv;obtain ⟨k,rfl⟩:=qaS vp.1;obtain ⟨n,rfl⟩:=qaS vp.2.2.1;obtain ⟨m,rfl⟩:=qaS hm.1;rw [e1,e2,U_id (n:=(k:Int)) (by omega),U_id (n:=(n:Int)) (by omega),U_id (n:=(m:Int)) (by omega)]
   have hp:=P.zun (k:=k) (n:=n) (m:=m) (by omega) (by omega) (by omega)
   have ht:=zre [(2,1),(2,k),(12,n),(32,m)] (by simp) (by
    intro f hf;simp only [qar,List.not_mem_nil,or_false]at hf;rcases hf with e | e | e | e <;> rw [e] <;> dsimp only <;> omega)
   rw [hp]at ht;have e:([(2,1,()),(2,(k:Int),()),(12,(n:Int),()),(32,(m:Int),())]:List FiD)=([(2,1),(2,k),(12,n),(32,m)]:List (Int×Nat)).map toFi:=rfl
   rw [e];refine zac (fun c=>by simp at c) fun _=>zad ht ?_
   rintro ⟨⟨(a:Int),(b:Int),_⟩,_⟩ hr;exact zab hr
theorem znT (h:HpD) (hw:HpW h) (a k n m:Int) (ha:0<=a/\a<18446744073709551616) (hm:0<=m/\m<4294967296):Tot (fun r=>r.1.2.1=P.zdx (toHp h) a k n m/\toHp r.1.1=P.ze9 (toHp h) a k n m) (F_object_Init (h,a,(k,n,m,()),())):=by
 rw [zlF];dsimp only
 rw [zay];have bad:P.zdx (toHp h) a k n m=1->Tot (fun r:(HpD×Int×Unit)×Unit=>r.1.2.1=P.zdx (toHp h) a k n m/\toHp r.1.1=P.ze9 (toHp h) a k n m) (some ((H0,1,()),())):=fun e=>by
  unfold P.ze9;rw [e];exact zab ⟨rfl,rfl⟩
 refine zad (zdy h hw) ?_;rintro ⟨⟨(b:Bool),_⟩,_⟩ hb;have hb:b=P.okH (toHp h):=hb
 subst hb;refine zac (fun h1=>bad ?_) fun h1=>?_
 · simp only [qap]at h1;unfold P.zdx;rw [if_neg (by rw [h1];simp)]
 simp only [qaw]at h1;rw [zla k n m hm,qaa];dsimp only;cases hv:P.zaA k n m
 · obtain ⟨e1,e2⟩:=P.zw3 hv;rw [e2];refine bad ?_;unfold P.zdx;rw [if_neg (by rw [hv];simp)]
 obtain ⟨e1,e2⟩:=P.zpo hv;have vp:=P.zaD hv;rw [e1,e2,zdz k n m hm,qaa,P.zbj hv];dsimp only;refine zac (fun c=>by simp at c) fun _=>zae (qac (by omega)) (zae (zao.2 (by omega)) (zae (zam.2 ⟨by omega,by rw [qaY];omega⟩) ?_))
 have el:(List.replicate (n+1).toNat (0:Int)).set (Int.toNat 0) (P.zcG k n m)=P.zbP k n m:=by
  rw [show (n+1).toNat=n.toNat+1 from by omega,qck];rfl
 rw [el,zlV h hw a (P.zbP k n m) (by rw [P.zdM];omega) ha,qaa]
 refine zab ?_;have hE:P.zdx (toHp h) a k n m=P.zcf h.2.1 a (P.zbP k n m):=by unfold P.zdx;rw [if_pos ⟨hv,h1⟩];rfl
 unfold P.ze9;rw [hE];by_cases hz:P.zcf h.2.1 a (P.zbP k n m)=0
 · rw [if_pos hz,if_pos hz];exact ⟨rfl,rfl⟩
 · rw [if_neg hz,if_neg hz];exact ⟨rfl,rfl⟩
end Go.VI
namespace Go.VI
open Go
namespace P
end P
theorem zlU (pw np p o:Int) (hc:confB pw np=true) (h:0<=p/\p<np/\0<=o/\o<pw):F_page_Address ((pw,np,()),p,o,())=some ((4096+p*pw+o,0,()),()):=by
 have c2:=zbn.1 hc;have kp:=P.za0 (pw:=pw) (np:=np) (by rw [zaU];exact hc) (p:=p) (by omega) (by omega)
 have cp:=P.conf_prod (pw:=pw) (np:=np) (by rw [zaU];exact hc)
 rw [zkn];dsimp only
 rw [zbQ,qaa,hc,zbf,qaa,zbf,qaa];dsimp only;rw [W_id (n:=np-1) (by omega),W_id (n:=pw-1) (by omega),qac (show 0<=p/\p<=np-1 by omega),qac (show 0<=o/\o<=pw-1 by omega)]
 simp only [qbY,qah];have v1:W (p*pw)=p*pw:=W_id (by omega)
 have v2:W (p*pw+o)=p*pw+o:=W_id (by omega)
 have v3:U (p*pw+o)=p*pw+o:=U_id (by omega)
 have v4:U (4096+(p*pw+o))=4096+(p*pw+o):=U_id (by omega)
 rw [v1,v2,v3,v4,Int.add_assoc]
end Go.VI
namespace Go.VI
open Go Go.Proofs
def itm (h:P.Hp) (a:Int):Tden tsW:=(a,(((P.atH h a).k,(P.atH h a).n,(P.atH h a).m,()),(P.atE h a,())),())
theorem zjH (h:P.Hp) (a:Int):errB (itm h a) = !decide (P.atE h a=0):=by
 show (P.atE h a != 0)=_
 by_cases e:P.atE h a=0 <;> simp [e]
def zwJ (h:P.Hp) (w:Option (List Int)) (L:List (Tden tsW)):Prop:=match w with
 | some l=>L=l.map (itm h)/\∀ x∈l,P.atE h x=0
 | none=>∃ (l:List Int) (a:Int),L=l.map (itm h)++[itm h a]/\(∀ x∈l,P.atE h x=0)/\P.atE h a=19
theorem zwJ.cons {h:P.Hp} {w:Option (List Int)} {L:List (Tden tsW)} {a:Int} (k:zwJ h w L) (ha:P.atE h a=0):zwJ h (w.map (a :: ·)) (itm h a::L):=by
 cases w with
 | some l=>exact ⟨by rw [k.1];rfl,fun x hx=>by rcases qar.1 hx with rfl | hx;exact ha;exact k.2 x hx⟩
 | none=>
  obtain ⟨l,b,e1,e2,e3⟩:=k;exact ⟨a::l,b,by rw [e1];rfl,fun x hx=>by rcases qar.1 hx with rfl | hx;exact ha;exact e2 x hx,e3⟩
theorem zwd {x:Tden tsW} {L:List (Tden tsW)} (hx:errB x=false) (h:okL L=true):okL (x::L)=true:=by
 cases L with
 | nil=>rfl
 | cons y r=>simp only [okL,hx,Bool.not_false,qaV];exact h
theorem at_page {h:P.Hp} (h1:P.okH h=true) {j:Nat} {o:Int} (hj:(j:Int)<h.np) (ho:0<=o/\o<h.pw):(P.atE h (4096+j*h.pw+o)=0\/P.atE h (4096+j*h.pw+o)=19)/\P.zcy h (4096+j*h.pw+o)=P.pgAt h j/\P.ofK h.pw h.np (4096+j*h.pw+o)=o:=by
 have c:=(P.zap h1).1;obtain ⟨a1,a2,a3⟩:=P.zkd c (p:=(j:Int)) (o:=o) (qac ⟨by omega,by omega,by omega,by omega⟩)
 obtain ⟨b1,b2,b3⟩:=P.zh5 c a1;rw [a2]at b1;rw [a3]at b2;refine ⟨?_,?_,b2⟩
 · unfold P.atE;rw [if_pos h1,if_pos b3];cases P.atB h (4096+j*h.pw+o) <;> simp
 · unfold P.zcy P.pgAt;rw [b1]
theorem zvt (h:HpD) (hw:HpW h) (h1:P.okH (toHp h)=true) (j:Nat) (hj:j<h.2.2.1.length):∃ L,listP (h,(j:Int),())=some L/\L.length<=1002 /\
 ((P.zbe (toHp h) j=0/\L=(P.zaE (toHp h) j).map (itm (toHp h))/\∀ x∈P.zaE (toHp h) j,P.atE (toHp h) x=0)\/(P.zbe (toHp h) j=19/\∃ (l:List Int) (a:Int),L=l.map (itm (toHp h))++[itm (toHp h) a]/\(∀ x∈l,P.atE (toHp h) x=0)/\P.atE (toHp h) a=19)):=by
 have hlm:(toHp h).pages.length=h.2.2.1.length:=qai ..
 have hin:¬((j:Int)<0\/(toHp h).pages.length<=(j:Int)):=by rw [hlm];omega
 obtain ⟨p1,p2,p3,p4,p5,p6⟩:=P.za1 (zgT h1);have hat:(toHp h).pages[j]?=some (toPg (h.2.2.1.getD j PG0)):=zbG hj
 have hpg:P.pgAt (toHp h) (j:Int)=toPg (h.2.2.1.getD j PG0):=by
  unfold P.pgAt;rw [qad];exact P.zaq hat
 have hub:=fun hk=>ztU p1 p6 hat hk
 have hsm:=fun hk=>P.zjA p6 hat hk
 have hok:=P.za8.1 p6 j _ hat;have cp:=P.zak p1;have hnp:(toHp h).np=h.1.2.1:=rfl
 have hpw:(toHp h).pw=h.1.1:=rfl
 have hjn:(j:Int)<h.1.2.1:=by rw [<-hnp];omega
 have hcB:confB h.1.1 h.1.2.1=true:=by rw [<-zaU];exact p1
 generalize hG:h.2.2.1.getD j PG0=G at hpg hub hsm hok
 obtain ⟨gk,gs,gu,gp,_⟩:=G;have hub:gk=1\/gk=2->0<=gu/\gu<=1000:=hub
 have hsm:gk=1->_:=hsm
 have hk:(P.pgAt (toHp h) (j:Int)).kind=gk:=by rw [hpg];rfl
 have hu:(P.pgAt (toHp h) (j:Int)).used=gu:=by rw [hpg];rfl
 have hkc:(gk=0\/gk=3)/\gu=0\/gk=1\/gk=2:=by
  unfold P.zbs at hok;have e:(toPg (gk,gs,gu,gp,())).kind=gk:=rfl
  have e2:(toPg (gk,gs,gu,gp,())).used=gu:=rfl
  rw [e]at hok;by_cases k0:gk=0
  · rw [if_pos k0]at hok;unfold P.zpi at hok;have:=qaq hok
    rw [e2]at this;exact .inl ⟨.inl k0,this.2.1⟩
  · by_cases k1:gk=1
    · exact .inr (.inl k1)
    · by_cases k2:gk=2
      · exact .inr (.inr k2)
      · by_cases k3:gk=3
        · rw [if_neg k0,if_neg k1,if_neg k2,if_pos k3]at hok;unfold P.zdX at hok;have:=qaq (qbj.1 hok).1
          rw [e2]at this;exact .inl ⟨.inr k3,this.1⟩
        · rw [if_neg k0,if_neg k1,if_neg k2,if_neg k3]at hok;cases hok
 have step:∀ o:Nat,zch (h,(j:Int),()) (o:Int)=cond (decide ((o:Int)<gu)) ((F_page_Address (h.1,(j:Int),(o:Int),())).bind fun r=>(F_object_At (h,r.1.1,())).bind fun q=>
  cond (errB (xP r q)) (some (.inl (xP r q,none))) ((F_header_Size (q.1.1,())).bind fun u=>some (.inl (xP r q,some (IntKind.i64.wrap ((o:Int)+u.1.1)))))) (some (.inr ())):=fun o=>by
  rw [zvK];dsimp only;rw [zam.2 ⟨by omega,by omega⟩,qal,qad]
  have:h.2.2.1.getD j (0,0,0,0,())=(gk,gs,gu,gp,()):=hG
  rw [this]
 have up:∀ (f o:Nat),gu.toNat-o<=f->(o=0\/gk=1)->o<=2000->(gk=1\/gk=2)->∃ n L,zcB (zch (h,(j:Int),())) n (o:Int)=some L/\okL L=true/\L.length<=f+1/\zwJ (toHp h) (P.zcg (toHp h) j (decide (gk=2)) gu.toNat o) L:=by
  intro f;induction f with
  | zero=>
   intro o hf ho ho2 hk12;refine ⟨1,[],?_,rfl,by simp,?_⟩
   · simp only [zcB];rw [step o,qak (by have:=hub hk12;omega)];rfl
   · rw [P.zbI (by omega)];exact ⟨rfl,by simp⟩
  | succ f ih=>
   intro o hf ho ho2 hk12;have hgu:=hub hk12;by_cases hlt:o<gu.toNat
   · have hop:(o:Int)<h.1.1:=by
      rcases ho with rfl | k1
      · rw [<-hpw];omega
      · have h2:=(hsm k1).2.1.2;have e2:(toPg (gk,gs,gu,gp,())).used=gu:=rfl
        rw [e2]at h2;rw [<-hpw];omega
     have hA:=zlU h.1.1 h.1.2.1 (j:Int) (o:Int) hcB ⟨by omega,hjn,by omega,hop⟩
     obtain ⟨ead,-⟩:=P.zeg p1 (p:=(j:Int)) (o:=(o:Int)) (qac ⟨by omega,hjn,by omega,by rw [hpw];exact hop⟩)
     obtain ⟨e19,epo,eok⟩:=at_page h1 (j:=j) (o:=(o:Int)) hjn ⟨by omega,by rw [hpw];exact hop⟩
     have hab:=P.zk2 (toHp h).pw (toHp h).np j o;rw [ead]at hab;have hq:=zrd h hw _ hab;generalize ha:4096+(j:Int)*(toHp h).pw+(o:Int)=a at *
     have ha':4096+(j:Int)*h.1.1+(o:Int)=a:=ha
     rw [ha']at hA;obtain ⟨⟨⟨⟨k',n,m,_⟩,e,_⟩,_⟩,hF,he,hH⟩:=hq;have hA2:F_page_Address (h.1,(j:Int),(o:Int),())=some ((a,0,()),()):=hA
     have ek:(P.atH (toHp h) a).k=k':=(congrArg P.Hd.k hH).symm
     have en:(P.atH (toHp h) a).n=n:=(congrArg P.Hd.n hH).symm
     have em:(P.atH (toHp h) a).m=m:=(congrArg P.Hd.m hH).symm
     have he:e=P.atE (toHp h) a:=he
     have hx:xP ((a,0,()),()) (((k',n,m,()),e,()),())=itm (toHp h) a:=by
      unfold xP itm;rw [ek,en,em,<-he]
     have hst:=step o;rw [qac (by omega),qal,hA2,qaa,hF,qaa,hx,zjH]at hst
     by_cases e0:P.atE (toHp h) a=0
     · rw [qac e0]at hst;simp only [qbY,qah]at hst;obtain ⟨-,a2,a3,a4,a5,a6⟩:=P.zez e0;rw [ek,en,em]at a2;rw [em]at a3 a4;rw [en]at a5 a6;rw [zdz k' n m ⟨a3,a4⟩,qaa,P.zbj a2]at hst;have w:IntKind.i64.wrap ((o:Int)+(n+1))=((o+(n.toNat+1):Nat):Int):=by
        show W _=_
        rw [W_id (by omega)];omega
       dsimp only at hst
       rw [w]at hst;have hes:errB (itm (toHp h) a)=false:=by rw [zjH,qac e0];rfl
       rcases hk12 with k1 | k2
       · obtain ⟨N,L,g1,g2,g3,g4⟩:=ih (o+(n.toNat+1)) (by omega) (.inr k1) (by omega) (.inl k1)
         have hdf:decide (gk=2)=false:=qak (by omega)
         rw [hdf]at g4;refine ⟨N+1,itm (toHp h) a::L,?_,zwd hes g2,by simp;omega,?_⟩
         · simp only [zcB];rw [hst];dsimp only;rw [g1];rfl
         · rw [hdf];have hws:=P.zcI (h:=toHp h) (i:=(j:Int)) (u:=gu.toNat) (o:=o) hlt (by rw [ead];exact e0)
           rw [ead,en]at hws;rw [hws];exact g4.cons e0
       · have ho0:o=0:=by omega
         subst ho0;have hdt:decide (gk=2)=true:=qac k2
         have hfull:gu=n+1:=by
          have hB:P.atB (toHp h) a=true:=by
           unfold P.atE at e0;rw [if_pos h1]at e0;split at e0
           · cases hb:P.atB (toHp h) a with
             | true=>rfl
             | false=>rw [hb]at e0;simp at e0
           · omega
          unfold P.atB at hB;rw [epo,hk,hu]at hB;rw [if_neg (by omega)]at hB
          simp only [qae,qab]at hB;have hn2:(P.atH (toHp h) a).n=P.dN (P.zan (toHp h) a):=by unfold P.atH;rw [if_pos e0];rfl
          rw [en]at hn2;omega
         refine ⟨2,[itm (toHp h) a],?_,rfl,by simp,?_⟩
         · simp only [zcB];rw [hst];dsimp only;rw [step,qak (by omega)];rfl
         · rw [hdt];have hws:=P.zdV (h:=toHp h) (i:=(j:Int)) (u:=gu.toNat) (o:=0) hlt (by rw [ead];exact e0)
           rw [ead]at hws;rw [hws];exact ⟨rfl,by simpa using e0⟩
     · rw [qak e0]at hst;simp only [Bool.not_false,qal]at hst;refine ⟨1,[itm (toHp h) a],?_,rfl,by simp,?_⟩
       · simp only [zcB];rw [hst]
       · rw [P.zde hlt (by rw [ead];exact e0)]
         exact ⟨[],a,rfl,by simp,e19.resolve_left e0⟩
   · refine ⟨1,[],?_,rfl,by simp,?_⟩
     · simp only [zcB];rw [step o,qak (by omega)];rfl
     · rw [P.zbI hlt];exact ⟨rfl,by simp⟩
 rcases hkc with ⟨k03,hu0⟩ | hk12
 · refine ⟨[],?_,by simp,.inl ?_⟩
   · unfold listP;have:zcB (zch (h,(j:Int),())) 1 ((0:Nat):Int)=some []:=by
      simp only [zcB];rw [step 0,qak (by omega)];rfl
     rw [show (0:Int)=((0:Nat):Int) from rfl,zpa this];rfl
   · obtain ⟨e1,e2⟩:=P.zer h1 hin (by rw [hk];exact k03)
     rw [e1,e2];exact ⟨rfl,rfl,by simp⟩
 · obtain ⟨n,L,g1,g2,g3,g4⟩:=up 1001 0 (by have:=hub hk12;omega) (.inl rfl) (by omega) hk12
   refine ⟨L,?_,g3,?_⟩
   · unfold listP;rw [show (0:Int)=((0:Nat):Int) from rfl,zpa g1,qaa,g2];rfl
   · have hW:P.zcH (toHp h) (j:Int)=P.zcg (toHp h) j (decide (gk=2)) gu.toNat 0:=by
      unfold P.zcH;rw [hk,hu]
     have hnk:¬((P.pgAt (toHp h) (j:Int)).kind=0\/(P.pgAt (toHp h) (j:Int)).kind=3):=by rw [hk];omega
     rw [<-hW]at g4;cases hq:P.zcH (toHp h) (j:Int) with
     | none=>
      rw [hq]at g4;exact .inr ⟨(P.zou h1 hin hnk hq).1,g4⟩
     | some l=>
      rw [hq]at g4;obtain ⟨e1,e2⟩:=P.zfl h1 hin hnk hq;rw [e1,e2];exact .inl ⟨rfl,g4.1,g4.2⟩
end Go.VI
namespace Go.VI
open Go Go.Proofs
theorem lenH_eq (d:Pden psH):lenH d=(d.1.2.2.1.length:Int):=by kernel_rfl
theorem zwi (d:Pden psH) (n v:Int):nextH d n v=IntKind.i64.wrap (v+1):=by kernel_rfl
theorem zmo {h:P.Hp}:∀ {l:List Int},(∀ x∈l,P.atE h x=0)->zec (l.map (itm h))=false
 | [],_=>rfl
 | [a],hl=>by
  show errB (itm h a)=false
  rw [zjH,qac (hl a (by simp))];rfl
 | a::b::l,hl=>zmo (l:=b::l) fun x hx=>hl x (qaC _ hx)
def znu (h:P.Hp) (k:Nat):List Int:=(List.range' k (h.pages.length-k)).flatMap fun (t:Nat)=>P.zaE h t
theorem zrc (h:HpD) (hw:HpW h):∃ L,listH (h,())=some L/\L.length<=100000/\(
 (P.okH (toHp h)=false/\L=[xErr]) \/
 (P.okH (toHp h)=true/\P.zbz (toHp h)=0/\L=(P.zas (toHp h)).map (itm (toHp h))/\∀ x∈P.zas (toHp h),P.atE (toHp h) x=0) \/
 (P.okH (toHp h)=true/\P.zbz (toHp h)=19/\∃ (l:List Int) (a:Int),L=l.map (itm (toHp h))++[itm (toHp h) a]/\(∀ x∈l,P.atE (toHp h) x=0)/\P.atE (toHp h) a=19)):=by
 obtain ⟨⟨⟨b,_⟩,_⟩,hF,hb⟩:=zdy h hw;have hb:b=P.okH (toHp h):=hb
 subst hb;unfold listH;dsimp only;rw [hF,qaa,lenH_eq];dsimp only;cases h1:P.okH (toHp h) with
 | false=>exact ⟨[xErr],rfl,by simp,.inl ⟨rfl,rfl⟩⟩
 | true=>
 simp only [qal];have hlm:(toHp h).pages.length=h.2.2.1.length:=qai ..
 obtain ⟨p1,p2,p3,p4,p5,p6⟩:=P.za1 (zgT h1);have cp:=P.zak p1;have hn64:h.2.2.1.length<=64:=by omega
 have up:∀ (f k:Nat),k+f=h.2.2.1.length->∃ L,pagesH (h,()) (h.2.2.1.length:Int) (f+1) (k:Int)=some L/\L.length<=1002*f /\
  (((∀ t,k<=t->t<h.2.2.1.length->P.zbe (toHp h) (t:Nat)=0)/\L=(znu (toHp h) k).map (itm (toHp h))/\∀ x∈znu (toHp h) k,P.atE (toHp h) x=0)\/((∃ t,k<=t/\t<h.2.2.1.length/\¬P.zbe (toHp h) (t:Nat)=0)/\∃ (l:List Int) (a:Int),L=l.map (itm (toHp h))++[itm (toHp h) a]/\(∀ x∈l,P.atE (toHp h) x=0)/\P.atE (toHp h) a=19)):=by
  intro f;induction f with
  | zero=>
   intro k hk;refine ⟨[],?_,by simp,.inl ⟨fun t h1 h2=>by omega,?_,?_⟩⟩
   · simp only [pagesH];rw [qak (by omega)];rfl
   · unfold znu;rw [show (toHp h).pages.length-k=0 by omega];rfl
   · unfold znu;rw [show (toHp h).pages.length-k=0 by omega];simp
  | succ f ih=>
   intro k hk;obtain ⟨Lp,q1,q2,q3⟩:=zvt h hw h1 k (by omega)
   have w:IntKind.i64.wrap ((k:Int)+1)=((k+1:Nat):Int):=by
    show W _=_
    rw [W_id (by omega)];omega
   have hst:pagesH (h,()) (h.2.2.1.length:Int) (f+1+1) (k:Int)=cond (zec Lp) (some Lp) ((pagesH (h,()) (h.2.2.1.length:Int) (f+1) ((k+1:Nat):Int)).map (Lp ++ ·)):=by
    rw [pagesH,qac (by omega),qal]
    dsimp only;rw [q1,qaa,zwi,w]
   rcases q3 with ⟨e0,eL,eA⟩ | ⟨e19,l,a,eL,eA,ea⟩
   · obtain ⟨L,g1,g2,g3⟩:=ih (k+1) (by omega)
     rw [eL,zmo eA,qah,g1,<-eL]at hst;have hfr:znu (toHp h) k=P.zaE (toHp h) (k:Nat)++znu (toHp h) (k+1):=by
      unfold znu;rw [show (toHp h).pages.length-k=((toHp h).pages.length-(k+1))+1 by omega,qch];rfl
     refine ⟨Lp++L,hst,by simp;omega,?_⟩
     rcases g3 with ⟨z1,z2,z3⟩ | ⟨⟨t,t1,t2,t3⟩,l,a,z2,z3,z4⟩
     · refine .inl ⟨fun t t1 t2=>?_,by rw [hfr,qbQ,eL,z2],fun x hx=>?_⟩
       · by_cases hh:t=k
         · subst hh;exact e0
         · exact z1 t (by omega) t2
       · rw [hfr]at hx;rcases qao.1 hx with hx | hx
         · exact eA x hx
         · exact z3 x hx
     · refine .inr ⟨⟨t,by omega,t2,t3⟩,P.zaE (toHp h) (k:Nat)++l,a,by rw [eL,z2];simp,fun x hx=>?_,z4⟩
       rcases qao.1 hx with hx | hx
       · exact eA x hx
       · exact z3 x hx
   · have he:zec Lp=true:=by
      rw [eL,zd3,zjH,qak (by omega)];rfl
     rw [he,qal]at hst;exact ⟨Lp,hst,by omega,.inr ⟨⟨k,by omega,by omega,by omega⟩,l,a,eL,eA,ea⟩⟩
 obtain ⟨L,g1,g2,g3⟩:=up h.2.2.1.length 0 (by omega)
 have hf0:znu (toHp h) 0=P.zbt (toHp h) (toHp h).pages.length:=by
  unfold znu P.zbt;rw [List.range_eq_range',Nat.sub_zero]
 refine ⟨L,g1,by omega,.inr ?_⟩
 rcases g3 with ⟨z1,z2,z3⟩ | ⟨⟨t,t1,t2,t3⟩,l,a,z2,z3,z4⟩
 · obtain ⟨s1,s2⟩:=P.zbZ h1 (fun t ht=>z1 t (by omega) (by rw [<-hlm];exact ht))
   refine .inl ⟨trivial,s1,?_,?_⟩
   · rw [s2,<-hf0];exact z2
   · rw [s2,<-hf0];exact z3
 · obtain ⟨s1,s2⟩:=P.zoi h1 (by rw [hlm];exact t2) t3
   exact .inr ⟨trivial,s1,l,a,z2,z3,z4⟩
end Go.VI
namespace Go.VI
open Go Go.Proofs
abbrev LS:=Unit×(List Int×Unit)×(List Int×Unit)×(Int×Unit)×(Unit×Unit)×Unit
def lf (kp:(Int×Int×Int×Unit)×Unit->Option ((Bool×Unit)×Unit)) (y:Tden tsW) (x:LS):Option (LS⊕LS) :=
 bif y.2.1.2.1 != 0 then some (Sum.inr ((),(x.2.1.1,()),([],()),(y.2.1.2.1,()),((),()),()))
 else (kp ((y.2.1.1.1,y.2.1.1.2.1,y.2.1.1.2.2.1,()),())).bind fun (r:(Bool×Unit)×Unit)=>
  bif bif r.1.1 then zaN (x.2.1.1.length + [y.1].length) 8 else true then
   bif r.1.1 then some (Sum.inl ((),(x.2.1.1++[y.1],()),(x.2.2.1.1,()),(x.2.2.2.1.1,()),((),()),()))
   else some (Sum.inl ((),(x.2.1.1,()),(x.2.2.1.1,()),(x.2.2.2.1.1,()),((),()),()))
  else none
theorem lf_ok {h:P.Hp} {kp:(Int×Int×Int×Unit)×Unit->Option ((Bool×Unit)×Unit)} {kb:Int->Bool} (hk:∀ k n m,kp ((k,n,m,()),())=some ((kb k,()),())) {R:List (Tden tsW)}:∀ (l acc:List Int) (c:List Int) (e:Int),(∀ x∈l,P.atE h x=0)->acc.length+l.length<=200000 ->
 zee (lf kp) (l.map (itm h)++R) ((),(acc,()),(c,()),(e,()),((),()),())=zee (lf kp) R ((),(acc++l.filter (fun a=>kb (P.atH h a).k),()),(c,()),(e,()),((),()),())
 | [],acc,c,e,_,_=>by simp
 | a::l,acc,c,e,ha,hl=>by
  have h0:=ha a (by simp)
  have he:(P.atE h a != 0)=false:=by rw [h0];rfl
  have hst:lf kp (itm h a) ((),(acc,()),(c,()),(e,()),((),()),())=some (.inl ((),(acc++[a].filter (fun a=>kb (P.atH h a).k),()),(c,()),(e,()),((),()),())):=by
   unfold lf itm;dsimp only;rw [he,qah,hk,qaa];have hs:zaN (acc.length+1) 8=true:=zao.2 (by simp at hl;omega)
   cases hb:kb (P.atH h a).k with
   | true=>simp [hs,hb]
   | false=>simp [hb]
  simp only [qaW,qaJ,zee];rw [hst];dsimp only;rw [lf_ok hk l _ c e (fun x hx=>ha x (by simp [hx])) (by have:=qbR (fun a=>kb (P.atH h a).k) [a];simp at hl this ⊢;omega)]
  rw [qaG,<-qcb];rfl
theorem zuP {h:P.Hp} {kp:(Int×Int×Int×Unit)×Unit->Option ((Bool×Unit)×Unit)} {kb:Int->Bool} (hk:∀ k n m,kp ((k,n,m,()),())=some ((kb k,()),())) {l:List Int} (hl:∀ x∈l,P.atE h x=0) (hn:l.length<=200000) :
 zee (lf kp) (l.map (itm h)) ((),([],()),([],()),(0,()),((),()),())=some (.inl ((),(l.filter (fun a=>kb (P.atH h a).k),()),([],()),(0,()),((),()),())):=by
 have:=lf_ok hk (R:=[]) l [] [] 0 hl (by simpa using hn)
 rw [qaU]at this;rw [this];rfl
theorem zuO {h:P.Hp} {kp:(Int×Int×Int×Unit)×Unit->Option ((Bool×Unit)×Unit)} {kb:Int->Bool} (hk:∀ k n m,kp ((k,n,m,()),())=some ((kb k,()),())) {l:List Int} {y:Tden tsW} (hy:y.2.1.2.1≠0) (hl:∀ x∈l,P.atE h x=0) (hn:l.length<=200000) :
 zee (lf kp) (l.map (itm h)++[y]) ((),([],()),([],()),(0,()),((),()),())=some (.inr ((),(l.filter (fun a=>kb (P.atH h a).k),()),([],()),(y.2.1.2.1,()),((),()),())):=by
 rw [lf_ok hk (R:=[y]) l [] [] 0 hl (by simpa using hn)]
 have:(y.2.1.2.1 != 0)=true:=by simpa using hy
 simp only [zee,lf,this,qal,qaX]
theorem anyK (k n m:Int):F_walk_isAny ((k,n,m,()),())=some ((true,()),()):=by rw [zm7]
theorem objK (k n m:Int):F_walk_isObject ((k,n,m,()),())=some ((k != 0,()),()):=by rw [zjd]
theorem ztu (h:HpD) (hw:HpW h):F_walk_list_c_walk_inHeap_S1_walk_isAny (h,())=some ((P.zas (toHp h),P.zbz (toHp h),()),(h,())):=by
 have hnf:F_walk_list_c_walk_inHeap_S1_walk_isAny (h,())=((listH (h,())).bind fun L=>zee (lf F_walk_isAny) L ((),([],()),([],()),(0,()),((),()),())).bind fun r=>Sum.elim (fun (x:LS)=>some ((x.2.1.1,0,()),(h,()))) (fun (y:LS)=>some ((y.2.2.1.1,y.2.2.2.1.1,()),(h,()))) r:=by
  rw [zbX];rfl
 obtain ⟨L,h1,h2,h3⟩:=zrc h hw;rw [hnf,h1,qaa];rcases h3 with ⟨b1,b2⟩ | ⟨b1,b2,b3,b4⟩ | ⟨b1,b2,l,a,b3,b4,b5⟩
 · obtain ⟨e1,e2⟩:=P.zfP b1;rw [b2,e1,e2];rfl
 · rw [b3,zuP anyK b4 (by rw [b3]at h2;simp at h2;omega),qaa,b2]
   simp
 · rw [b3,zuO anyK (y:=itm (toHp h) a) (by show P.atE (toHp h) a≠0;omega) b4 (by rw [b3]at h2;simp at h2;omega),qaa]
   have hV:P.zas (toHp h)=[]:=by unfold P.zbz at b2;unfold P.zas;rw [if_pos b1]at b2 ⊢;split at b2 <;> simp_all
   rw [hV,b2];show some (([],P.atE (toHp h) a,()),(h,()))=_
   rw [b5]
theorem objs_eq (h:P.Hp) (l:List Int):l.filter (fun a=>(P.atH h a).k != 0)=P.zcb h l:=by
 unfold P.zcb;congr 1
 funext a
 by_cases e:(P.atH h a).k=0 <;> simp [e]
theorem ztt (h:HpD) (hw:HpW h):F_walk_list_c_walk_inHeap_S1_walk_isObject (h,())=some ((P.zaf (toHp h),P.zbz (toHp h),()),(h,())):=by
 have hnf:F_walk_list_c_walk_inHeap_S1_walk_isObject (h,())=((listH (h,())).bind fun L=>zee (lf F_walk_isObject) L ((),([],()),([],()),(0,()),((),()),())).bind fun r=>Sum.elim (fun (x:LS)=>some ((x.2.1.1,0,()),(h,()))) (fun (y:LS)=>some ((y.2.2.1.1,y.2.2.2.1.1,()),(h,()))) r:=by
  rw [zbL];rfl
 obtain ⟨L,h1,h2,h3⟩:=zrc h hw;rw [hnf,h1,qaa];rcases h3 with ⟨b1,b2⟩ | ⟨b1,b2,b3,b4⟩ | ⟨b1,b2,l,a,b3,b4,b5⟩
 · obtain ⟨e1,e2⟩:=P.zfP b1;rw [b2];unfold P.zaf;rw [e1,e2];rfl
 · rw [b3,zuP (kb:=fun k=>k != 0) objK b4 (by rw [b3]at h2;simp at h2;omega),qaa,b2]
   rw [objs_eq];rfl
 · rw [b3,zuO (kb:=fun k=>k != 0) objK (y:=itm (toHp h) a) (by show P.atE (toHp h) a≠0;omega) b4 (by rw [b3]at h2;simp at h2;omega),qaa]
   have hV:P.zas (toHp h)=[]:=by unfold P.zbz at b2;unfold P.zas;rw [if_pos b1]at b2 ⊢;split at b2 <;> simp_all
   unfold P.zaf;rw [hV,b2];show some (([],P.atE (toHp h) a,()),(h,()))=_
   rw [b5];rfl
theorem zhr (h:HpD) (hw:HpW h):F_walk_Starts (h,())=some ((P.zas (toHp h),P.zbz (toHp h),()),()):=by
 rw [zls];dsimp only
 rw [zay,zeb];dsimp only;rw [qaa];dsimp only;rw [ztu h hw];rfl
theorem zlP (h:HpD) (hw:HpW h):F_walk_Objects (h,())=some ((P.zaf (toHp h),P.zbz (toHp h),()),()):=by
 rw [zkg];dsimp only
 rw [zay,zeb];dsimp only;rw [qaa];dsimp only;rw [ztt h hw];rfl
theorem zqY (h:HpD) (hw:HpW h) (i:Int):F_walk_Page (h,i,())=some ((P.zaE (toHp h) i,P.zbe (toHp h) i,()),()):=by
 rw [zoB];dsimp only
 rw [zay];obtain ⟨⟨⟨b,_⟩,_⟩,hF,hb⟩:=zdy h hw;have hb:b=P.okH (toHp h):=hb
 subst hb;rw [hF,qaa];dsimp only;cases h1:P.okH (toHp h) with
 | false=>
  obtain ⟨e1,e2⟩:=P.zm2 (i:=i) h1
  rw [e1,e2];rfl
 | true=>
 simp only [qbY,qah];have hlm:(toHp h).pages.length=h.2.2.1.length:=qai ..
 by_cases hr:i<0\/(h.2.2.1.length:Int)<=i
 · obtain ⟨e1,e2⟩:=P.zm1 (i:=i) h1 (by rw [hlm];exact hr)
   rw [e1,e2];rcases hr with hr | hr
   · rw [qac hr];rfl
   · by_cases hi:i<0
     · rw [qac hi];rfl
     · rw [qak hi,qac (show i >= (h.2.2.1.length:Int) from hr)];rfl
 rw [qak (show ¬i<0 by omega),qak (show ¬i >= (h.2.2.1.length:Int) by omega),zlr]
 dsimp only;simp only [qah,qaa];obtain ⟨j,rfl⟩:=qaS (show 0<=i by omega)
 have hnf:F_walk_list_c_walk_inPage_S1_walk_isAny (h,(j:Int),())=((listP (h,(j:Int),())).bind fun L=>zee (lf F_walk_isAny) L ((),([],()),([],()),(0,()),((),()),())).bind fun r=>Sum.elim (fun (x:LS)=>some ((x.2.1.1,0,()),(h,(j:Int),()))) (fun (y:LS)=>some ((y.2.2.1.1,y.2.2.2.1.1,()),(h,(j:Int),()))) r:=by
  rw [zbW];rfl
 obtain ⟨L,g1,g2,g3⟩:=zvt h hw h1 j (by omega)
 rw [zay,hnf,g1,qaa];rcases g3 with ⟨b2,b3,b4⟩ | ⟨b2,l,a,b3,b4,b5⟩
 · rw [b3,zuP anyK b4 (by rw [b3]at g2;simp at g2;omega),qaa,b2]
   simp
 · rw [b3,zuO anyK (y:=itm (toHp h) a) (by show P.atE (toHp h) a≠0;omega) b4 (by rw [b3]at g2;simp at g2;omega),qaa]
   have hV:P.zaE (toHp h) j=[]:=by
    unfold P.zbe at b2;unfold P.zaE
    rw [if_pos h1]at b2 ⊢
    split at b2
    · omega
    · rename_i q;rw [if_neg q];split at b2
      · omega
      · rename_i q2;rw [if_neg q2];cases hq:P.zcH (toHp h) j with
        | none=>rfl
        | some l=>rw [hq]at b2;simp at b2
   rw [hV,b2];show some (([],P.atE (toHp h) a,()),())=_
   rw [b5]
end Go.VI
namespace Go.VI
open Go Go.Proofs
abbrev CnT:=Int×Int×Int×Int×Int×Unit
def cs (h:P.Hp) (c:CnT) (a:Int):CnT:=if (P.atH h a).k=0 then (c.1,c.2.1,W (c.2.2.1+1),W (c.2.2.2.1+((P.atH h a).n+1)),c.2.2.2.2.1,()) else (W (c.1+1),W (c.2.1+((P.atH h a).n+1)),c.2.2.1,c.2.2.2.1,c.2.2.2.2.1,())
def cnV (h:P.Hp):CnT:=(P.zas h).foldl (cs h) (0,0,0,0,0,())
def zmz (h:P.Hp):CnT:=if P.zbz h=0 then ((cnV h).1,(cnV h).2.1,(cnV h).2.2.1,(cnV h).2.2.2.1,W ((h.pages.length:Int)-P.zbr h.pages),()) else (0,0,0,0,0,())
abbrev CS:=Unit×Unit×CnT×(Int×Unit)×CnT×Unit
def cf (y:Tden tsW) (x:CS):Option (CS⊕CS) :=
 bif y.2.1.2.1 != 0 then some (Sum.inr ((),(),(0,0,0,0,0,()),(y.2.1.2.1,()),(x.2.2.2.2.1.1,x.2.2.2.2.1.2.1,x.2.2.2.2.1.2.2.1,x.2.2.2.2.1.2.2.2.1,x.2.2.2.2.1.2.2.2.2.1,()),()))
 else (F_header_Size ((y.2.1.1.1,y.2.1.1.2.1,y.2.1.1.2.2.1,()),())).bind
  fun (r:(Int×Unit)×Unit)=>(F_walk_isObject ((y.2.1.1.1,y.2.1.1.2.1,y.2.1.1.2.2.1,()),())).bind
  fun (r_1:(Bool×Unit)×Unit)=>
  bif r_1.1.1 then some (Sum.inl ((),(),(x.2.2.1.1,x.2.2.1.2.1,x.2.2.1.2.2.1,x.2.2.1.2.2.2.1,x.2.2.1.2.2.2.2.1,()),(x.2.2.2.1.1,()),(W (x.2.2.2.2.1.1+1),W (x.2.2.2.2.1.2.1+r.1.1),x.2.2.2.2.1.2.2.1,x.2.2.2.2.1.2.2.2.1,x.2.2.2.2.1.2.2.2.2.1,()),()))
  else some (Sum.inl ((),(),(x.2.2.1.1,x.2.2.1.2.1,x.2.2.1.2.2.1,x.2.2.1.2.2.2.1,x.2.2.1.2.2.2.2.1,()),(x.2.2.2.1.1,()),(x.2.2.2.2.1.1,x.2.2.2.2.1.2.1,W (x.2.2.2.2.1.2.2.1+1),W (x.2.2.2.2.1.2.2.2.1+r.1.1),x.2.2.2.2.1.2.2.2.2.1,()),()))
theorem cf_ok {h:P.Hp} {R:List (Tden tsW)}:∀ (l:List Int) (c:CnT),(∀ x∈l,P.atE h x=0) ->
 zee cf (l.map (itm h)++R) ((),(),(0,0,0,0,0,()),(0,()),c,())=zee cf R ((),(),(0,0,0,0,0,()),(0,()),l.foldl (cs h) c,())
 | [],c,_=>rfl
 | a::l,c,ha=>by
  have h0:=ha a (by simp)
  have he:(P.atE h a != 0)=false:=by rw [h0];rfl
  obtain ⟨-,a2,a3,a4,a5,a6⟩:=P.zez h0;have hst:cf (itm h a) ((),(),(0,0,0,0,0,()),(0,()),c,())=some (.inl ((),(),(0,0,0,0,0,()),(0,()),cs h c a,())):=by
   unfold cf itm cs;dsimp only;rw [he,qah,zdz _ _ _ ⟨a3,a4⟩,qaa,objK,qaa,P.zbj a2];dsimp only;by_cases hk:(P.atH h a).k=0
   · rw [if_pos hk,show ((P.atH h a).k != 0)=false by simp [hk]];rfl
   · rw [if_neg hk,show ((P.atH h a).k != 0)=true by simp [hk]];rfl
  simp only [qaW,qaJ,zee];rw [hst];dsimp only;rw [cf_ok l _ (fun x hx=>ha x (by simp [hx]))];rfl
theorem zpD (h:HpD) (hw:HpW h):F_walk_Count (h,())=some ((zmz (toHp h),P.zbz (toHp h),()),()):=by
 have hnf:F_walk_Count (h,())=((listH (h,())).bind fun L=>zee cf L ((),(),(0,0,0,0,0,()),(0,()),(0,0,0,0,0,()),())).bind fun r=>Sum.elim (fun (x:CS)=>(F_page_InUse (h.2.2.1,())).bind fun (r:(Int×Unit)×Unit)=>some (((x.2.2.2.2.1.1,x.2.2.2.2.1.2.1,x.2.2.2.2.1.2.2.1,x.2.2.2.2.1.2.2.2.1,W ((h.2.2.1.length:Int)-r.1.1),()),0,()),())) (fun (y:CS)=>some (((y.2.2.1.1,y.2.2.1.2.1,y.2.2.1.2.2.1,y.2.2.1.2.2.2.1,y.2.2.1.2.2.2.2.1,()),y.2.2.2.1.1,()),())) r:=by
  rw [zm8];dsimp only;rw [zay,zeb];dsimp only;rw [qaa];dsimp only;rw [zay]
  rfl
 have hlm:(toHp h).pages.length=h.2.2.1.length:=qai ..
 obtain ⟨L,h1,h2,h3⟩:=zrc h hw;rw [hnf,h1,qaa];rcases h3 with ⟨b1,b2⟩ | ⟨b1,b2,b3,b4⟩ | ⟨b1,b2,l,a,b3,b4,b5⟩
 · obtain ⟨e1,e2⟩:=P.zfP b1;rw [b2];unfold zmz;rw [e1];rfl
 · have:=cf_ok (R:=[]) (P.zas (toHp h)) (0,0,0,0,0,()) b4
   rw [qaU]at this;rw [b3,this];simp only [zee,qaa,qat];obtain ⟨⟨⟨u,_⟩,_⟩,hU,hu⟩:=zpJ h.2.2.1 hw.pl;have hu:u=(P.zbr (h.2.2.1.map toPg):Int):=hu
   rw [hU,qaa];unfold zmz;rw [b2,if_pos rfl,hlm,hu];rfl
 · rw [b3,cf_ok l _ b4];have hy:((itm (toHp h) a).2.1.2.1 != 0)=true:=by show (P.atE (toHp h) a != 0)=true;rw [b5];rfl
   simp only [zee,cf,hy,qal,qaa,qas];unfold zmz;rw [b2];show some (((0,0,0,0,0,()),P.atE (toHp h) a,()),())=_
   rw [b5];rfl
end Go.VI
namespace Go.VI
open Go Go.Proofs
theorem zdP:F_l06_awake ()=some ((true,()),()):=by
 refine zqF ?_;rw [zoZ];dsimp only
 refine zad (zpI 16 8 (by decide)) ?_
 rintro ⟨⟨⟨⟨(pw:Int),(np:Int),_⟩,(ws:List Int),(ps:List PgD),(sp:Int),(bu:Int),_⟩,(e:Int),_⟩,_⟩ ⟨h1,h2⟩;have hn:P.zkt 16 8=⟨16,8,List.replicate 128 0,List.replicate 8 P.Pg.zero,0,-1⟩:=(P.znk (pw:=16) (np:=8) (by decide)).1.trans rfl
 have h1:toHp ((pw,np,()),ws,ps,sp,bu,())=P.zkt 16 8:=h1
 rw [hn]at h1;have hl:ws.length=128/\ps.length=8:=by
  have a:=congrArg (fun h=>h.words.length) h1
  have b:=congrArg (fun h=>h.pages.length) h1
  simp only [toHp,qai,qaY]at a b;exact ⟨a,b⟩
 have hws:ws=List.replicate 128 0:=congrArg P.Hp.words h1
 have hps:ps.map toPg=List.replicate 8 P.Pg.zero:=congrArg P.Hp.pages h1
 have hX:toHp ((pw,np,()),ws.set 0 29,ps.set 0 (1,0,2,0,()),sp,bu,())=⟨16,8,(List.replicate 128 0).set 0 29,(List.replicate 8 P.Pg.zero).set 0 ⟨1,0,2,0⟩,0,-1⟩:=by
  have e1:pw=16:=congrArg P.Hp.pw h1
  have e2:np=8:=congrArg P.Hp.np h1
  have e3:sp=0:=congrArg P.Hp.space h1
  have e4:bu = -1:=congrArg P.Hp.bump h1
  subst e1 e2 e3 e4;unfold toHp;dsimp only;rw [qbm,hps,hws];rfl
 have hw':HpW ((pw,np,()),ws.set 0 29,ps.set 0 (1,0,2,0,()),sp,bu,()):=⟨by dsimp only;rw [List.length_set];omega,by dsimp only;rw [List.length_set];omega,fun x hx=>by
  dsimp only at hx
  rcases qcw hx with hx | hx
  · rw [hws]at hx;have:=List.eq_of_mem_replicate hx
    omega
  · omega⟩
 dsimp only;refine zae (zam.2 ⟨by omega,by omega⟩) (zae (zam.2 ⟨by omega,by omega⟩) ?_)
 rw [show (0:Int).toNat=0 from rfl,zlP _ hw',qaa,zpD _ hw',qaa]
 dsimp only;rw [hX];generalize hH:(⟨16,8,(List.replicate 128 0).set 0 29,(List.replicate 8 P.Pg.zero).set 0 ⟨1,0,2,0⟩,0,-1⟩:P.Hp)=H
 have hok:P.okH H=true:=by rw [<-hH];decide +kernel
 have hp8:H.pages.length=8:=by rw [<-hH];rfl
 have hA:P.za5 H.pw H.np 0 (0:Nat)=4096:=by rw [<-hH];decide +kernel
 have ha0:P.atE H 4096=0:=by rw [<-hH];decide +kernel
 have hn1:(P.atH H 4096).n.toNat=1:=by rw [<-hH];decide +kernel
 have hk3:(P.atH H 4096).k=3:=by rw [<-hH];decide +kernel
 have hn1':(P.atH H 4096).n=1:=by rw [<-hH];decide +kernel
 have hu:P.zbr H.pages=1:=by rw [<-hH];decide +kernel
 have w0:P.zbe H (0:Nat)=0/\P.zaE H (0:Nat)=[4096]:=by
  refine P.zfl hok (by omega) (by rw [<-hH];decide +kernel) ?_
  have:P.zcH H (0:Nat)=P.zcg H 0 false 2 0:=by rw [<-hH];rfl
  rw [this,P.zcI (by omega) (by rw [hA];exact ha0),hA,hn1,P.zbI (by omega)];rfl
 have wk:∀ k:Nat,1<=k->k<8->P.zbe H k=0/\P.zaE H k=[]:=fun k k1 k8=>by
  refine P.zer hok (by omega) (.inl ?_)
  rw [<-hH];have:∀ k:Fin 8,1<=k.val->(P.pgAt ⟨16,8,(List.replicate 128 0).set 0 29,(List.replicate 8 P.Pg.zero).set 0 ⟨1,0,2,0⟩,0,-1⟩ (k.val:Int)).kind=0:=by decide +kernel
  exact this ⟨k,k8⟩ k1
 have hall:∀ k:Nat,k<H.pages.length->P.zbe H k=0:=fun k hk=>by
  rcases Nat.eq_zero_or_pos k with rfl | hk0
  · exact w0.1
  · exact (wk k hk0 (by omega)).1
 obtain ⟨s1,s2⟩:=P.zbZ hok hall;have hto:∀ k:Nat,1<=k->k<=8->P.zbt H k=[4096]:=by
  intro k;induction k with
  | zero=>intro h;omega
  | succ k ih=>
   intro _ h8;rw [P.zdu];rcases Nat.eq_zero_or_pos k with rfl | hk0
   · rw [w0.2];rfl
   · rw [ih hk0 (by omega),(wk k hk0 (by omega)).2];rfl
 rw [hp8,hto 8 (by omega) (by omega)]at s2
 have hO:P.zaf H=[4096]:=by
  unfold P.zaf P.zcb;rw [s2];simp [hk3]
 have hC:zmz H=(1,2,0,0,7,()):=by
  unfold zmz cnV;rw [s1,if_pos rfl,s2,hu,hp8];simp only [List.foldl];unfold cs;rw [if_neg (by omega),hn1']
  decide
 rw [hO,hC,s1];exact ⟨_,rfl,rfl⟩
end Go.VI
namespace Go.VI
open Go Go.Proofs
theorem zsK (h:P.Hp) (i:Int):(P.zaE h i).length<=64:=by
 cases h1:P.okH h with
 | false=>rw [(P.zm2 (i:=i) h1).2];simp
 | true=>exact P.zfm h1
end Go.VI
namespace Go.VI.P
open Go
theorem zog {sz:Int->Int} {a b:Int} (hb:b=a+sz a):∀ {l:List Int} {x E:Int},Tile sz x E l->a∈l->b∈l->Tile (fun y=>if y=a then sz a+sz b else sz y) x E (l.filter fun y=>decide (¬y=b))
 | [],x,E,h,ha,_=>by cases ha
 | q::r,x,E,h,ha,hbm=>by
  obtain ⟨h1,h2,h3⟩:=h;by_cases e:q=a
  · subst e;have hne:¬q=b:=by omega
    rw [List.filter_cons_of_pos (by exact qac hne)]
    have hbr:b∈r:=by
     rcases qar.1 hbm with c | c
     · exact absurd c.symm hne
     · exact c
    cases r with
    | nil=>cases hbr
    | cons q2 r2=>
     obtain ⟨g1,g2,g3⟩:=h3;have e2:q2=b:=by omega
     subst e2;rw [List.filter_cons_of_neg (by simp)]
     have hr:∀ y∈r2,q2+sz q2<=y:=fun y hy=>(zdt (by rw [<-g1]at g3;exact g3) y hy).1
     rw [qcJ.2 fun y hy=>qac (by have:=hr y hy;omega)]
     refine ⟨h1,?_,?_⟩
     · simp only [if_true];omega
     · simp only [if_true];rw [show x+(sz q+sz q2)=x+sz q+sz q2 by omega]
       exact zcY (fun y hy=>by rw [if_neg];have:=hr y hy;omega) g3
  · have har:a∈r:=by
     rcases qar.1 ha with c | c
     · exact absurd c.symm e
     · exact c
    have t:=zdt h3 a har;have hne:¬q=b:=by omega
    have hbr:b∈r:=by
     rcases qar.1 hbm with c | c
     · exact absurd c.symm hne
     · exact c
    rw [List.filter_cons_of_pos (by exact qac hne)]
    refine ⟨h1,?_,?_⟩
    · simp only [if_neg e];exact h2
    · simp only [if_neg e];exact zog hb h3 har hbr
theorem zkF {p:Int->Bool} {f g:Nat->List Int}:∀ (l:List Nat),(∀ k∈l,g k=(f k).filter p)->l.flatMap g=(l.flatMap f).filter p
 | [],_=>rfl
 | k::l,h=>by
  rw [List.flatMap_cons,List.flatMap_cons,qcb,h k (qaT ..),zkF l fun j hj=>h j (qaC _ hj)]
theorem zs5 {l:List Int} (hp:l.Pairwise (fun a b=>a<b)) {i:Nat} (hi:i<l.length):l.filter (fun y=>decide (¬y=l[i]))=l.take i++l.drop (i+1):=by
 have e:l=l.take i++l[i]::l.drop (i+1):=by
  rw [<-qaQ hi,qcC]
 have hx:∀ x,l[i]=x->l.filter (fun y=>decide (¬y=x))=l.take i++l.drop (i+1):=by
  intro x hx;rw [hx]at e;rw [e]at hp;obtain ⟨h1,h2,h3⟩:=List.pairwise_append.1 hp;obtain ⟨h4,h5⟩:=qcf.1 h2;rw [show l.filter (fun y=>decide (¬y=x))=(l.take i++x::l.drop (i+1)).filter (fun y=>decide (¬y=x)) from congrArg _ e]
  rw [qcb,List.filter_cons_of_neg (by simp),qcJ.2 fun y hy=>qac (by have:=h3 y hy x (qaT ..);omega),qcJ.2 fun y hy=>qac (by have:=h4 y hy;omega)]
 exact hx _ rfl
theorem join {h:Hp} (G:Good h) {a b:Int} (ha:a∈zas h) (hb:b∈zas h) (hab:b=a+osz h a) (hpage:(a-4096) / h.pw=(b-4096) / h.pw) :
 zaA 0 (osz h a+osz h b-1) 0=true/\zdx h a 0 (osz h a+osz h b-1) 0=0/\zbz (ze9 h a 0 (osz h a+osz h b-1) 0)=0/\zas (ze9 h a 0 (osz h a+osz h b-1) 0)=(zas h).filter fun y=>decide (¬y=b):=by
 have hok:=G.ok;obtain ⟨p1,p2,p3,p4,p5,p6,p7⟩:=zap hok;have c:=zak p1;obtain ⟨k,hk,hak⟩:=(zaB hok G.pg).1 ha;obtain ⟨k2,hk2,hbk⟩:=(zaB hok G.pg).1 hb;obtain ⟨j,g,ba⟩:=zbA hok hk hak;obtain ⟨j2,g2,bb⟩:=zbA hok hk2 hbk;have ea:=ba.ad;have eb:=bb.ad;have ja:=ba.jl;have jb:=bb.jl;have e1:(a-4096) / h.pw=k:=by
  rw [ea,show 4096+(k:Int)*h.pw+j-4096=j+(k:Int)*h.pw by omega,qcB _ _ (by omega),qcD (by omega) ja];omega
 have e2:(b-4096) / h.pw=k2:=by
  rw [eb,show 4096+(k2:Int)*h.pw+j2-4096=j2+(k2:Int)*h.pw by omega,qcB _ _ (by omega),qcD (by omega) jb];omega
 obtain rfl:k=k2:=by omega
 have hgg:g2=g:=by have:=bb.pg;rw [ba.pg]at this;injection this with this;exact this.symm
 subst hgg;have pa:=ba.pos;have pb:=bb.pos;have hkd:=bb.kd;have h1:g2.kind=1/\j2+osz h b<=g2.used/\g2.used<=h.pw:=by
  rcases hkd with q | q
  · exact q
  · omega
 obtain ⟨t1,t2,t3,t4⟩:=zcw hok ba.pg h1.1 (G.pg k hk);have hv:zaA 0 (osz h a+osz h b-1) 0=true:=zgJ (by omega)
 have hb1:=bb.wl;have hlenL:=zdM (k:=0) (n:=osz h a+osz h b-1) (m:=0)
 have hoA:okA h.words.length a (zbP 0 (osz h a+osz h b-1) 0).length=true:=zaL.2 (by omega)
 have hE:zdx h a 0 (osz h a+osz h b-1) 0=0:=by
  unfold zdx;rw [if_pos ⟨hv,hok⟩];unfold zcf;rw [if_pos hoA]
 refine ⟨hv,hE,?_⟩;have hV:ze9 h a 0 (osz h a+osz h b-1) 0={ h with words:=zax h.words a (zbP 0 (osz h a+osz h b-1) 0) }:=by
  unfold ze9;rw [if_pos hE]
 rw [hV];obtain ⟨l1,l2,l3⟩:=zkv (k:=0) (m:=0) (n:=osz h a+osz h b-1) (by omega) hoA
 have okX:okH { h with words:=zax h.words a (zbP 0 (osz h a+osz h b-1) 0) }=true:=by
  rw [zkc (zce hoA)];exact hok
 generalize hH:({ h with words:=zax h.words a (zbP 0 (osz h a+osz h b-1) 0) }:Hp)=H at *
 have eW:H.words=zax h.words a (zbP 0 (osz h a+osz h b-1) 0):=by rw [<-hH]
 have eP:H.pages=h.pages:=by rw [<-hH]
 have epw:H.pw=h.pw:=by rw [<-hH]
 rw [<-eW]at l1 l3;have hwA:zan H a=(zcG 0 (osz h a+osz h b-1) 0).toNat:=by rw [zaI pa.2,l1]
 have hwb:=zjO hv (by omega)
 obtain ⟨d1,d2,d3,d4⟩:=zjx hv (by omega) (x:=(zcG 0 (osz h a+osz h b-1) 0).toNat) (by omega)
 rw [<-hwA]at d1 d2 d3 d4;have hne:¬a=b:=by omega
 have hout:∀ x∈zas h,¬x=a->¬x=b->zan H x=zan h x:=fun x hx n1 n2=>by
  obtain ⟨i0,-,hx0⟩:=(zaB hok G.pg).1 hx;obtain ⟨xi,xj,xg,bx⟩:=zcc (zaF hx);have px:=bx.pos;have q1:=zdg G hx ha n1;have q2:=zdg G hx hb n2;rw [zaI px.2,zaI px.2,l3 x (by omega)]
 have pages:∀ t:Nat,t<h.pages.length->zbe H t=0/\zaE H t=(zaE h t).filter fun y=>decide (¬y=b):=fun t ht=>by
  by_cases e:t=k
  · subst e;refine zdC okX (by rw [eP];exact ba.pg) h1.1 t1 (by rw [epw];exact t2) (sz:=fun y=>if y=a then osz h a+osz h b else osz h y) (by rw [epw];exact zog hab t3 hak hbk) fun q hq=>?_
    obtain ⟨hq1,hq2⟩:=qbC.1 hq;have hq2:¬q=b:=qaq hq2
    by_cases eq:q=a
    · subst eq;refine ⟨d1,?_⟩;simp only [if_true];omega
    · rw [hout q ((zaB hok G.pg).2 ⟨t,ht,hq1⟩) eq hq2];simp only [if_neg eq];exact t4 q hq1
  · have hnot:∀ x∈zaE h t,¬x=a/\¬x=b:=fun x hx=>by
     obtain ⟨xj,xg,bx⟩:=zbA hok ht hx;have ox:=bx.oi;have oa:=ba.oi;have ob:=bb.oi;constructor
     · intro q;subst q;omega
     · intro q;subst q;omega
    have hg:h.pages[t]?=some h.pages[t]:=qaj ht
    obtain ⟨r1,r2⟩:=zjZ hok okX epw hg (by rw [eP];exact hg) rfl rfl (G.pg t ht) fun x hx=>hout x ((zaB hok G.pg).2 ⟨t,ht,hx⟩) (hnot x hx).1 (hnot x hx).2
    exact ⟨r1,by rw [r2,qcJ.2 fun x hx=>qac (hnot x hx).2]⟩
 have eL:H.pages.length=h.pages.length:=by rw [eP]
 obtain ⟨s1,s2⟩:=zbZ okX (by rw [eL];exact fun t ht=>(pages t ht).1)
 obtain ⟨r1,r2⟩:=zbZ hok G.pg;refine ⟨s1,?_⟩;rw [s2,r2,eL];exact zkF _ fun t ht=>(pages t (qbz.1 ht)).2
end Go.VI.P
namespace Go.VI
open Go Go.Proofs
theorem zqU (h:HpD) (hw:HpW h) {x:Int} (hx:P.atE (toHp h) x=0):∃ k n m e,F_r05_At (h,x,())=some (((k,n,m,()),e,()),())/\F_r03_Size ((k,n,m,()),())=some ((P.osz (toHp h) x,()),())/\4096<=x/\x<=100004096/\1<=P.osz (toHp h) x/\P.osz (toHp h) x<=256:=by
 obtain ⟨i,j,g,b⟩:=P.zcc hx;have p1:=b.pos;have p2:=b.wl;have p3:(toHp h).words.length<=100000000:=hw.wl
 obtain ⟨⟨⟨⟨(k:Int),(n:Int),(m:Int),_⟩,(e:Int),_⟩,_⟩,hF,-,hH⟩:=zeS h hw x (by omega)
 dsimp only at hH
 obtain ⟨-,a2,a3,a4,a5,a6⟩:=P.zez hx;have ek:(P.atH (toHp h) x).k=k:=(congrArg P.Hd.k hH).symm
 have en:(P.atH (toHp h) x).n=n:=(congrArg P.Hd.n hH).symm
 have em:(P.atH (toHp h) x).m=m:=(congrArg P.Hd.m hH).symm
 rw [ek,en,em]at a2;rw [em]at a3 a4;have eo:P.osz (toHp h) x=n+1:=by unfold P.osz;rw [en]
 have v:=P.zaD a2;exact ⟨k,n,m,e,hF,by rw [zb6 k n m ⟨a3,a4⟩,P.zbj a2,eo],p1.2,by omega,p1.1,by omega⟩
theorem zqZ (h:HpD) (hw:HpW h) (a n:Int) (ha:0<=a/\a<18446744073709551616):Tot (fun r=>r.1.2.1=P.zdx (toHp h) a 0 (W (n-1)) 0/\toHp r.1.1=P.ze9 (toHp h) a 0 (W (n-1)) 0) (F_walk_Fill (h,a,n,())):=by
 rw [zoC];dsimp only
 simp only [zay];refine zad (znT h hw a 0 (W (n-1)) 0 ha (by omega)) ?_
 rintro ⟨⟨v,e,_⟩,_⟩ ⟨he,hv⟩;exact zab ⟨he,hv⟩
theorem zv0 (d:Int) (L:Nat) (h2:2<=L) (hL:L<=4096):∃ i:Nat,(W (W (d.tmod (W ((L:Int)-1))+(L:Int))-1)).tmod (W ((L:Int)-1))=(i:Int)/\i+1<L:=by
 have hm:0<(L:Int)-1:=by omega
 have t1:=qcl d hm;have t2 : -((L:Int)-1)<d.tmod ((L:Int)-1):=Int.lt_tmod_of_pos d hm;rw [W_id (n:=(L:Int)-1) (by omega),W_id (n:=d.tmod ((L:Int)-1)+(L:Int)) (by omega),W_id (by omega)]
 have t3:=Int.tmod_nonneg ((L:Int)-1) (a:=d.tmod ((L:Int)-1)+(L:Int)-1) (by omega)
 have t4:=qcl (d.tmod ((L:Int)-1)+(L:Int)-1) hm;exact ⟨((d.tmod ((L:Int)-1)+(L:Int)-1).tmod ((L:Int)-1)).toNat,by omega,by omega⟩
theorem zrx (tape:List Int) (pick:Int):F_l06_WalkJoins (tape,pick,())=some ((true,()),()):=by
 refine zqF ?_;rw [zjg];dsimp only
 refine zad (zk6 tape) ?_;rintro ⟨⟨(d:WdD),_⟩,_⟩ ⟨n,hm⟩;have hw:=hm.hw;have G:=(P.zuL n _ hm.made hm.n400).good;obtain ⟨(h:HpD),(st:List Int),(wk:List Int),_⟩:=d;have G:P.Good (toHp h):=G;have hw:HpW h:=hw;clear hm;dsimp only;simp only [zay];have hok:=G.ok;obtain ⟨p1,p2,p3,p4,p5,p6,p7⟩:=P.zap hok;have c:=P.zak p1;have epw:(toHp h).pw=h.1.1:=rfl
 have c1:16<=h.1.1/\h.1.1<=64:=⟨c.1,c.2.1⟩
 rw [zhr h hw,qaa,(P.zbZ hok G.pg).1];dsimp only;have hll:=P.zcZ (toHp h);have hs:=(P.zcN hok (toHp h).pages.length (qan _));rw [<-(P.zbZ hok G.pg).2]at hs;generalize hl:P.zas (toHp h)=l at *
 have hax:∀ x∈l,P.atE (toHp h) x=0:=fun x hx=>P.zaF (by rw [hl];exact hx)
 refine zac (fun c=>by simp at c) fun _=>zac (fun _=>?_) fun h2=>?_
 · rw [zdP];exact zab rfl
 simp only [qaf]at h2;obtain ⟨i,hi,hil⟩:=zv0 pick l.length (by omega) hll
 have hm0:(!W ((l.length:Int)-1) == 0)=true:=by rw [W_id (by omega)];simp;omega
 have hp0:(!U h.1.1 == 0)=true:=by rw [U_id (by omega)];simp;omega
 rw [hm0,hi];have w1:W ((i:Int)+1)=((i+1:Nat):Int):=by rw [W_id (by omega)];omega
 have w2:W ((i:Int)+2)=((i+2:Nat):Int):=by rw [W_id (by omega)];omega
 rw [w1,w2];have in1:inB (i:Int) l.length=true:=zam.2 ⟨by omega,by omega⟩
 have in2:inB ((i+1:Nat):Int) l.length=true:=zam.2 ⟨by omega,by omega⟩
 simp only [in1,in2,hp0,qal,qad];have ma:l.getD i 0∈l:=zbM (by omega)
 have mb:l.getD (i+1) 0∈l:=zbM hil;have eb:l[i+1]=l.getD (i+1) 0:=by
  have:=getD_some hil
  rw [qaj hil]at this;injection this
 generalize l.getD i 0=a at *
 generalize l.getD (i+1) 0=b at *
 obtain ⟨ka,na,ma',ea,hA,hsA,a1,a2,a3,a4⟩:=zqU h hw (hax a ma);obtain ⟨kb,nb,mb',eb',hB,hsB,b1,b2,b3,b4⟩:=zqU h hw (hax b mb);rw [hA];simp only [qaa]
 rw [hB];simp only [qaa]
 rw [hsA];simp only [qaa]
 rw [hsB];simp only [qaa]
 rw [U_id (n:=P.osz (toHp h) a) (by omega),U_id (n:=a+P.osz (toHp h) a) (by omega)]
 cases hc:(a+P.osz (toHp h) a != b) with
 | true=>
  simp only [qal];rw [zdP];exact zab rfl
 | false=>
  simp only [qal,qah];have hab:b=a+P.osz (toHp h) a:=by simp only [qaA]at hc;exact hc.symm
  refine zac (fun _=>?_) fun hpg=>?_
  · rw [zdP];exact zab rfl
  simp only [qaA]at hpg;have hpg:(a-4096) / (toHp h).pw=(b-4096) / (toHp h).pw:=by
   rw [U_id (n:=a-4096) (by omega),U_id (n:=b-4096) (by omega),U_id (n:=h.1.1) (by omega),qbB (by omega),qbB (by omega)]at hpg
   have d1:0<=(a-4096) / h.1.1:=qbM (by omega) (by omega)
   have d2:(a-4096) / h.1.1<=a-4096:=qcj _ (by omega)
   have d3:0<=(b-4096) / h.1.1:=qbM (by omega) (by omega)
   have d4:(b-4096) / h.1.1<=b-4096:=qcj _ (by omega)
   rw [U_id (by omega),U_id (by omega)]at hpg
   exact hpg
  obtain ⟨j1,j2,j3,j4⟩:=P.join G (a:=a) (b:=b) (by rw [hl];exact ma) (by rw [hl];exact mb) hab hpg
  refine zad (zqZ h hw a _ (by omega)) ?_
  rintro ⟨⟨(v:HpD),(e:Int),_⟩,_⟩ ⟨he,hv⟩;dsimp only at he hv ⊢
  rw [W_id (n:=P.osz (toHp h) a+P.osz (toHp h) b) (by omega),W_id (by omega)]at he hv
  rw [j2]at he;have hwv:HpW v:=by
   have e1:v.2.1=(toHp v).words:=rfl
   have e2:v.2.2.1.length=(toHp v).pages.length:=(qai ..).symm
   have hV:toHp v={ toHp h with words:=P.zax (toHp h).words a (P.zbP 0 (P.osz (toHp h) a+P.osz (toHp h) b-1) 0) }:=by
    rw [hv];unfold P.ze9;rw [if_pos j2]
   have hlen:(P.zax (toHp h).words a (P.zbP 0 (P.osz (toHp h) a+P.osz (toHp h) b-1) 0)).length=(toHp h).words.length:=P.zce (by
    unfold P.zdx at j2;rw [if_pos ⟨j1,hok⟩]at j2;unfold P.zcf at j2;split at j2
    · assumption
    · omega)
   refine ⟨?_,?_,?_⟩
   · rw [e1,hV];show List.length (P.zax _ _ _)<=_;rw [hlen];exact hw.wl
   · rw [e2,hV];show (toHp h).pages.length<=_;rw [show (toHp h).pages.length=h.2.2.1.length from qai ..];exact hw.pl
   · rw [e1,hV];exact P.zdd hw.wb (P.znq j1 (by omega))
  try simp only [zay]
  rw [zhr v hwv,hv,j3,j4,hl,he];simp only [qaa];have hcut:=P.zs5 (l:=l) (hs.1.imp_of_mem fun {x y} hx hy hxy=>by have:=zqU h hw (hax x hx);obtain ⟨_,_,_,_,-,-,-,-,q,-⟩:=this;omega) hil
  rw [eb]at hcut;rw [hcut];have hl1:(l.take (i+1)).length<=4096:=by rw [qax];omega
  have hl2:(l.drop (i+2)).length<=4096:=by rw [qaK];omega
  rw [show i+1+1=i+2 from rfl]
  rw [qba (qan _)];simp only [qaX,qbS,show Int.toNat 0=0 from rfl]
  refine zae (qac (by omega)) (zae (zao.2 (by omega)) (zae (qac (by omega)) (zae (zao.2 (by omega)) ?_)))
  rw [zdP];simp only [qaa];refine zac (fun _=>zac (fun _=>zac (fun _=>zad (ztw _ (by rw [qay];omega)) ?_) fun c=>by simp at c) fun c=>by simp at c) fun c=>by simp at c
  rintro ⟨⟨(b:Bool),_⟩,_⟩ hb;have hb:b=true:=hb
  subst hb;exact zab rfl
theorem L_WalkJoinsu (d) (h:wfP E_l06_WalkJoins.ps d):F_l06_WalkJoins d=some ((true,()),()):=by
 obtain ⟨tape,pick,_⟩:=d;exact zrx tape pick
end Go.VI
namespace Go.VI
open Go Go.Proofs
namespace P
theorem cover {h:Hp} (hok:okH h=true) {k:Nat} {g:Pg} (hg:h.pages[k]?=some g) (hp:zbe h k=0) :
 ∃ u:Int,Tile (osz h) (4096+(k:Int)*h.pw) (4096+(k:Int)*h.pw+u) (zaE h k)/\0<=u/\u<=256/\(¬g.kind=3->g.used=u):=by
 obtain ⟨p1,p2,p3,p4,p5,p6,p7⟩:=zap hok;have c:=zak p1;have hm:=zaM _ _ _ _ p7 g (qav hg);obtain ⟨m1,m2,m3,m4,m5,m6,m7,m8,m9⟩:=hm;rcases m9 with e | e | e | e
 · refine ⟨0,?_,by omega,by omega,fun _=>by rw [m5 e];rfl⟩
   rw [(zaW hok hg (.inl e)).2];show _=_;omega
 · obtain ⟨u1,u2,u3,-⟩:=zcw hok hg e hp;exact ⟨g.used,u3,u1,by omega,fun _=>rfl⟩
 · obtain ⟨u1,u2,u3,u4⟩:=zfA hok hg e hp;obtain ⟨n1,n2,n3,n4⟩:=zft (m7 e);have hos:osz h (4096+(k:Int)*h.pw)=g.used:=by
    obtain ⟨i,j,G,b⟩:=zcc u4;rw [b.sz];exact u3
   have hb:zaz h.pw h.np g.used*h.pw<=4*64:=qco n2 (by omega) (by omega) (by omega)
   refine ⟨g.used,?_,by omega,by omega,fun _=>rfl⟩
   rw [u1];exact ⟨rfl,by omega,by show _=_;omega⟩
 · refine ⟨0,?_,by omega,by omega,fun n=>absurd e n⟩
   rw [(zaW hok hg (.inr e)).2];show _=_;omega
end P
theorem zpV (tape:List Int):F_l06_WalkCovers (tape,())=some ((true,()),()):=by
 refine zqF ?_;rw [zid];dsimp only
 refine zad (zk6 tape) ?_;rintro ⟨⟨(d:WdD),_⟩,_⟩ ⟨n,hm⟩;have hw:=hm.hw;have G:=(P.zuL n _ hm.made hm.n400).good;obtain ⟨(h:HpD),(st:List Int),(wk:List Int),_⟩:=d;have G:P.Good (toHp h):=G;have hw:HpW h:=hw;clear hm;dsimp only;simp only [zay];have hlm:(toHp h).pages.length=h.2.2.1.length:=qai ..
 have hok:=G.ok;obtain ⟨p1,p2,p3,p4,p5,p6,p7⟩:=P.zap hok;have c:=P.zak p1;have epw:(toHp h).pw=h.1.1:=rfl
 have c1:16<=h.1.1/\h.1.1<=64:=⟨c.1,c.2.1⟩
 refine zad (P:=fun r=>∃ y,r = .inr y) (zt1 (n:=h.2.2.1.length) (by omega) fun q k hk=>?_) fun r hr=>za7 (fun x hx=>?_) fun x hx=>?_
 · rw [qad,W_id (n:=(k:Int)+1) (by omega),zqY h hw,qaa]
   have hat:(toHp h).pages[k]?=some (toPg (h.2.2.1.getD k PG0)):=zbG hk
   have hpe:=G.pg k (by omega)
   obtain ⟨u,ht,hu0,hu,hus⟩:=P.cover hok hat hpe;have hax:∀ x∈P.zaE (toHp h) k,P.atE (toHp h) x=0:=fun x hx=>P.zcn hx
   have hll:=zsK (toHp h) (k:Int);rw [hpe,epw] at *
   generalize P.zaE (toHp h) (k:Int)=l at *
   generalize (h.2.2.1.getD k PG0)=g at *
   have hkw0:0<=(k:Int)*h.1.1:=qbw (by omega) (by omega)
   have hkw1:(k:Int)*h.1.1<=64*64:=qco (by omega) (by omega) (by omega) (by omega)
   have es:U (W (4096+W ((k:Int)*h.1.1)))=4096+(k:Int)*h.1.1:=by
    rw [W_id (n:=(k:Int)*h.1.1) (by omega),W_id (by omega),U_id (by omega)]
   rw [es];generalize hs:4096+(k:Int)*h.1.1=s at *
   dsimp only;refine zac (fun c=>by simp at c) fun _=>?_
   refine zad (P:=fun r=>∃ q',r = .inr ((q',s+u,()),(),())) (zat (fun x=>∃ (j:Nat),x.1.2.2.1=(j:Int)/\j<=l.length/\P.Tile (P.osz (toHp h)) x.1.2.1 (s+u) (l.drop j)) (fun x=>((l.length:Int)-x.1.2.2.1).toNat) ⟨0,rfl,by omega,ht⟩ ?_) ?_
   · rintro ⟨⟨(q2:Bool),(a:Int),(j':Int),_⟩,_⟩ ⟨j,e1,e2,e3⟩;dsimp only at e1 e3 ⊢
     subst e1;refine zac (fun h4=>?_) fun h4=>zab ?_
     · simp only [qab]at h4;have hj:j<l.length:=by omega
       rw [W_id (n:=(j:Int)+1) (by omega),qad]
       have hin:inB (j:Int) l.length=true:=zam.2 ⟨by omega,h4⟩
       have hxa:=hax _ (zbM (d:=0) hj)
       have hmem:l.getD j 0∈l.drop j:=by
        rw [qaQ hj];have:=getD_some hj
        rw [qaj hj]at this;injection this with this
        rw [<-this];exact qaT ..
       have htm:=P.zdt e3 _ hmem;have htb:=P.zdt ht _ (zbM (d:=0) hj)
       have hte:l.getD j 0=a/\P.Tile (P.osz (toHp h)) (a+P.osz (toHp h) (l.getD j 0)) (s+u) (l.drop (j+1)):=by
        rw [qaQ hj]at e3;have:=getD_some hj
        rw [qaj hj]at this;injection this with this
        rw [this]at e3;obtain ⟨f1,f2,f3⟩:=e3;rw [f1]at f3 ⊢
        exact ⟨rfl,f3⟩
       obtain ⟨ha,hr⟩:=hte;refine zae hin (zac (fun c=>by rw [ha]at c;simp at c) fun _=>zae hin (zad (zeS h hw (l.getD j 0) (by omega)) ?_))
       rintro ⟨⟨⟨(hk':Int),(n:Int),(m:Int),_⟩,(e':Int),_⟩,_⟩ ⟨-,hH⟩;dsimp only at hH ⊢
       obtain ⟨-,a2,a3,a4,a5,a6⟩:=P.zez hxa;have ek:(P.atH (toHp h) (l.getD j 0)).k=hk':=(congrArg P.Hd.k hH).symm
       have en:(P.atH (toHp h) (l.getD j 0)).n=n:=(congrArg P.Hd.n hH).symm
       have em:(P.atH (toHp h) (l.getD j 0)).m=m:=(congrArg P.Hd.m hH).symm
       rw [ek,en,em]at a2;rw [em]at a3 a4;have eo:P.osz (toHp h) (l.getD j 0)=n+1:=by unfold P.osz;rw [en]
       rw [zb6 hk' n m ⟨a3,a4⟩,qaa,P.zbj a2];rw [eo]at hr htm htb;refine zab ?_;simp only [qat];rw [U_id (n:=n+1) (by omega),U_id (n:=a+(n+1)) (by omega)]
       exact ⟨⟨j+1,by omega,by omega,hr⟩,by omega⟩
     · simp only [qaf]at h4;simp only [qas];rw [qa6 (by omega)]at e3
       have e3:a=s+u:=e3
       subst e3;exact ⟨q2,rfl⟩
   · rintro _ ⟨q',rfl⟩;simp only [qas];have hin:inB (k:Int) h.2.2.1.length=true:=zam.2 ⟨by omega,by omega⟩
     rw [hin];refine zae rfl (zae (by cases (g.1 != 3) <;> rfl) (zac (fun c=>?_) fun _=>zab ⟨_,rfl⟩))
     exfalso
     rw [show s+u-s=u by omega,U_id (by omega),W_id (by omega)]at c
     cases h3:(g.1 != 3) with
     | false=>rw [h3]at c;cases c
     | true=>
      rw [h3]at c;simp only [qal,qaB,ne_eq]at c h3;exact c (hus h3).symm
 · subst hx;obtain ⟨y,hy⟩:=hr;cases hy
 · rw [zdP];exact zab rfl
theorem L_WalkCoversu (d) (h:wfP E_l06_WalkCovers.ps d):F_l06_WalkCovers d=some ((true,()),()):=by
 obtain ⟨tape,_⟩:=d;exact zpV tape
end Go.VI
