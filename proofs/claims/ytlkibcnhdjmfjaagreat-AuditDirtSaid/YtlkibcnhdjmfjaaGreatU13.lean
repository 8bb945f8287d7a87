import Derived.Test.YtlkibcnhdjmfjaaGreatU08
import Derived.Test.YtlkibcnhdjmfjaaGreatU09
import Derived.Test.YtlkibcnhdjmfjaaGreatU10
import Derived.Test.YtlkibcnhdjmfjaaGreatU11
import Derived.Test.YtlkibcnhdjmfjaaGreatU12
set_option linter.unusedSimpArgs false
set_option linter.unusedVariables false
set_option maxRecDepth 100000
set_option maxHeartbeats 4000000
noncomputable section
namespace Go.VI.P
open Go
open Go.RowKit
theorem zkz{h:Hp}{x:Wk}{os:List Int}{D:Nat->Int->Prop}(G:Good h)(C:CI h x os D){k:Nat}{g0:Pg}(hg:h.pages[k]?=some g0)(h1:g0.kind=1)(hp:0<g0.pins){c:Int}(hc:c∈zaB h k):
 okD (zap (endH x) c)=true/\(dN (zap (endH x) c):Int)+1=osz h c/\(c∈zaf h->¬c∈x.queue->dK (zap (endH x) c)=0/\∀ j,1<=j->j<osz h c->zao (endH x).words (c+j)=0)/\((¬c∈zaf h\/c∈x.queue)->zap (endH x) c=zap h c):=by
 have I:=C.inv;have hcf:=I.conf;have hkl:=(qah.1 hg).1;have E:=za3 G C hg;obtain ⟨f1,f2⟩:=ziC C;obtain ⟨t1,t2,t3,t4⟩:=zcY G.ok hg h1 (G.pg k hkl);obtain ⟨m1,m2,m3⟩:=zeA t3 c hc;obtain ⟨d1,d2⟩:=t4 c hc;have hcs:c∈zat h:=(zaA G.ok G.pg).2 ⟨k,hkl,hc⟩;have hbk:bs h k=4096+(k:Int)*h.pw:=rfl
 have hld:∀ p,c<=p->p<c+osz h c->zao (endH x).words p=zao (zaH x).h.words p:=fun p z1 z2=>by
  rw [zhx C hkl (by omega) (by omega),(E.k1 h1 hp).1];rfl
 have h4:4096<=c:=(zn2 (zaG hcs)).1
 by_cases ho:c∈zaf h
 · obtain ⟨i,j,g,b⟩:=zai ho;have hik:i=k:=zc5 (h:=h) (by omega) (ze7 b).1 (ze7 b).2 (by omega) (by omega)
   subst hik;have hgg:g=g0:=by have:=b.pg;rw [hg]at this;injection this with this;exact this.symm
   subst hgg;by_cases hq:c∈x.queue
   · have hw:zap (endH x) c=zap h c:=by
      have:=zeH G C hq (j:=0) (by omega) (by rw [(zdZ ho (I.kept ho hq)).2.1];omega)
      rw [qbO]at this;rw [zaF h4,zaF h4,this];have:=I.kept ho hq
      unfold evWd at this;rw [this]
     exact ⟨by rw [hw];exact d1,by rw [hw];exact d2.symm,fun _ c2=>absurd hq c2,fun _=>hw⟩
   · have hb:=(zst C b).2 ⟨h1,hp,hq⟩;obtain ⟨w1,w2⟩:=f2 c ho hb;have hv:zaD 0 (atH h c).n 0=true:=zgo (.inl rfl) (zdT (zaG hcs)).2.2.2.2.1 (zdT (zaG hcs)).2.2.2.2.2 rfl
     have hwb:=zkc hv (by omega)
     have hwd:zap (endH x) c=(zcU 0 (atH h c).n 0).toNat:=by rw [zaF h4,hld c (by omega) (by omega),w1,(zvk hv).1]
     obtain ⟨e1,e2,e3,e4⟩:=zjW hv (by omega) (x:=(zcU 0 (atH h c).n 0).toNat) (by omega)
     rw [<-hwd]at e1 e2 e3;refine ⟨e1,by rw [e3];rfl,fun _ _=>⟨by omega,fun j j0 j1=>?_⟩,fun c2=>?_⟩
     · rw [hld (c+j) (by omega) (by omega)];exact w2 j j0 j1
     · rcases c2 with c2 | c2
       · exact absurd ho c2
       · exact absurd c2 hq
 · have hout:∀ a∈zaf h,c<a\/a+osz h a<=c:=fun a ha=>by
    have hne:c≠a:=fun e=>ho (e ▸ ha)
    have:=zdi G hcs (zaW.1 ha).1 hne
    omega
   have hw:zap (endH x) c=zap h c:=by
    rw [zaF h4,zaF h4,hld c (by omega) (by omega),f1 c (fun a ha _=>hout a ha),C.ot c hout fun k2 y hy hk2=>?_]
    refine qaY fun z=>?_
    have:=zc5 (h:=h) (p:=c) (by omega) (k:=k2) (k':=k) (by omega) (by omega) (by omega) (by omega)
    subst this;rw [hg]at hy;injection hy with hy;subst hy;omega
   exact ⟨by rw [hw];exact d1,by rw [hw];exact d2.symm,fun c2=>absurd c2 ho,fun _=>hw⟩
theorem ztn{h:Hp}{x:Wk}{os:List Int}{D:Nat->Int->Prop}(G:Good h)(C:CI h x os D):
 (∀ k:Nat,k<h.pages.length->zbj (endH x) k=0/\∀ c∈zaB (endH x) k,(c∈x.queue/\bs h k<=c/\c<bs h k+h.pw)\/∃ g0,h.pages[k]?=some g0/\g0.kind=1/\0<g0.pins/\c∈zaB h k/\¬c∈x.queue) /\
 (∀ (k:Nat) (g0:Pg),h.pages[k]?=some g0->g0.kind=1->0<g0.pins->zaB (endH x) k=zaB h k) /\
 (∀ q∈x.queue,∃ k:Nat,k<h.pages.length/\q∈zaB (endH x) k):=by
 have I:=C.inv;have hcf:=I.conf;have ok:=zw8 G C;obtain ⟨s1,s2,s3,s4,s5,s6⟩:=znS I;have p7:=(zan I.ok).2.2.2.2.2.2;have hq0:∀ q∈x.queue,4096<=q/\zap (endH x) q=(evWd x q).toNat:=fun q hq=>by
  have hb:=I.queue_bd hq;refine ⟨hb.1,?_⟩;obtain ⟨t,ht,e⟩:=qbR.1 hq;have hlen:=C.len;have hqq:x.queue[t]?=some q:=by rw [qal ht,e]
  obtain ⟨z1,-,-,-⟩:=C.size (qal (show t<os.length by omega)) hqq
  have hos:=C.oin _ (qbU (show t<os.length by omega))
  obtain ⟨i,j,g,b⟩:=zai hos;have:=zeH G C hq (j:=0) (by omega) (by rw [z1];have:=b.pos;omega)
  rw [qbO]at this;rw [zaF hb.1,this];rfl
 have hqd:∀ q∈x.queue,okD (zap (endH x) q)=true/\(dN (zap (endH x) q):Int)+1=evN x q:=fun q hq=>by
  obtain ⟨t,ht,e⟩:=qbR.1 hq;have hlen:=C.len;have hqq:x.queue[t]?=some q:=by rw [qal ht,e]
  obtain ⟨-,-,z3,-⟩:=C.size (qal (show t<os.length by omega)) hqq
  rw [(hq0 q hq).2];exact ⟨z3,by rw [(zhv z3).1]⟩
 have hbk:∀ k:Nat,4096+(k:Int)*(endH x).pw=bs h k:=fun k=>by rw [s1];rfl
 have htaken:∀ (k:Nat),(k:Int)∈x.taken->∃ l,zbj (endH x) k=0/\zaB (endH x) k=l/\∀ q,q∈l↔q∈x.queue/\bs h k<=q/\q<bs h k+h.pw:=fun k ht=>by
  obtain ⟨k2,g1,g,e0,e1,-⟩:=I.tk _ ht;obtain rfl:k=k2:=by omega
  obtain ⟨-,-,u,e,e',u0,u1⟩:=(za3 G C e1).tk ht;obtain ⟨u',l,t1,t2,t3⟩:=C.tile k ht;rw [e']at t1;injection t1 with t1;injection t1 with _ _ t1 _
  subst t1;obtain ⟨r1,r2⟩:=zdA ok e rfl u0 (by rw [s1];exact u1) (sz:=evN x) (l:=l) (by rw [hbk];exact t2) fun q hq=>by
   obtain ⟨z1,z2⟩:=hqd q ((t3 q).1 hq).1;exact ⟨z1,by omega⟩
  exact ⟨l,r1,r2,t3⟩
 have hpinned:∀ (k:Nat) (g0:Pg),h.pages[k]?=some g0->g0.kind=1->0<g0.pins->zbj (endH x) k=0/\zaB (endH x) k=zaB h k:=fun k g0 hg h1 hp=>by
  have hkl:=(qah.1 hg).1;obtain ⟨t1,t2,t3,t4⟩:=zcY G.ok hg h1 (G.pg k hkl);refine zdA ok ((za3 G C hg).k1 h1 hp).2 rfl t1 (by rw [s1];exact t2) (sz:=osz h) (by rw [hbk];exact t3) fun c hc=>?_
  obtain ⟨w1,w2,-⟩:=zkz G C hg h1 hp hc;exact ⟨w1,w2.symm⟩
 have hlarge:∀ (k:Nat) (g0:Pg),h.pages[k]?=some g0->g0.kind=2->bs h k∈x.queue->zbj (endH x) k=0/\zaB (endH x) k=[bs h k]:=fun k g0 hg h2 hq=>by
  have hkl:=(qah.1 hg).1;obtain ⟨t1,t2,t3,t4⟩:=zeo G.ok hg h2 (G.pg k hkl);have hob:bs h k∈zaf h:=by
   rcases I.qs _ hq with c | c
   · exact c
   · exfalso
     obtain ⟨k3,g3,d1,d2,d3,d4,d5,d6,d7⟩:=I.copy c;have:=zc5 (h:=h) (p:=bs h k) (by omega) (k:=k) (k':=k3) (by omega) (by omega) (by have e3:bs h k3=4096+(k3:Int)*h.pw:=rfl;omega) (by have e3:bs h k3=4096+(k3:Int)*h.pw:=rfl;omega)
     subst this;rw [hg]at d1;injection d1 with d1;subst d1;omega
  have hw:zap (endH x) (bs h k)=zap h (bs h k):=by
   rw [(hq0 _ hq).2,I.kept hob hq,zaF (hq0 _ hq).1]
  obtain ⟨r1,r2,-⟩:=zfY ok ((za3 G C hg).k2 h2 hq).2 rfl (by rw [hbk,hw];exact t2) (by rw [hbk,hw];exact t3)
  exact ⟨r1,by rw [r2,hbk]⟩
 refine ⟨fun k hk=>?_,fun k g0 hg h1 hp=>(hpinned k g0 hg h1 hp).2,fun q hq=>?_⟩
 · have hg:h.pages[k]?=some h.pages[k]:=qal hk
   generalize h.pages[k]=g0 at hg
   have E:=za3 G C hg;rcases (zaI _ _ _ _ p7 g0 (qav hg)).2.2.2.2.2.2.2.2 with c | c | c | c
   · by_cases ht:(k:Int)∈x.taken
     · obtain ⟨l,r1,r2,r3⟩:=htaken k ht;exact ⟨r1,fun q hq=>.inl ((r3 q).1 (by rw [<-r2];exact hq))⟩
     · obtain ⟨r1,r2⟩:=zaY ok (E.k0 ht c).2 (.inl c);exact ⟨r1,fun q hq=>by rw [r2]at hq;cases hq⟩
   · by_cases hp:0<g0.pins
     · obtain ⟨r1,r2⟩:=hpinned k g0 hg c hp;refine ⟨r1,fun q hq=>?_⟩
       rw [r2]at hq;by_cases hqq:q∈x.queue
       · left
         obtain ⟨t1,t2,t3,t4⟩:=zcY G.ok hg c (G.pg k hk);have:=zeA t3 q hq
         refine ⟨hqq,?_⟩;unfold bs;omega
       · exact .inr ⟨g0,hg,c,hp,hq,hqq⟩
     · obtain ⟨r1,r2⟩:=zaY ok (E.k1' c hp).2 (.inl rfl);exact ⟨r1,fun q hq=>by rw [r2]at hq;cases hq⟩
   · by_cases hq:bs h k∈x.queue
     · obtain ⟨r1,r2⟩:=hlarge k g0 hg c hq;refine ⟨r1,fun q hq2=>?_⟩
       rw [r2]at hq2;rw [qau.1 hq2];exact .inl ⟨hq,by omega,by omega⟩
     · obtain ⟨r1,r2⟩:=zaY ok (E.k2' c hq).2 (.inl rfl);exact ⟨r1,fun q hq=>by rw [r2]at hq;cases hq⟩
   · by_cases hq:bs h (za0 h.pages k)∈x.queue
     · obtain ⟨r1,r2⟩:=zaY ok (E.k3 c hq).2 (.inr rfl);exact ⟨r1,fun q hq=>by rw [r2]at hq;cases hq⟩
     · obtain ⟨r1,r2⟩:=zaY ok (E.k3' c hq).2 (.inl rfl);exact ⟨r1,fun q hq=>by rw [r2]at hq;cases hq⟩
 · rcases I.qs q hq with c | c
   · obtain ⟨i,j,g,b⟩:=zai c;rcases C.kp q hq c i j g b with k2 | ⟨k1,kp⟩
     · have hqb:q=bs h i:=by
        rcases b.kd with ⟨z,-⟩ | ⟨-,z,-⟩
        · omega
        · have:=b.ad;unfold bs;omega
       refine ⟨i,b.il,?_⟩;rw [(hlarge i g b.pg k2 (by rw [<-hqb];exact hq)).2]
       exact qau.2 hqb
     · obtain ⟨k',hk',hx⟩:=(zaA G.ok G.pg).1 (zaW.1 c).1;obtain ⟨j',g',b'⟩:=zaU G.ok hk' hx;have:k'=i:=by have h1:=b.oi;have h2:=b'.oi;omega
       subst this;exact ⟨k',hk',by rw [(hpinned k' g b.pg k1 kp).2];exact hx⟩
   · obtain ⟨k,g,d1,d2,d3,d4,d5⟩:=c;obtain ⟨k3,y0,y3,l0,l1,l2,l3,l4,l5,l6⟩:=I.tk _ d1;obtain rfl:k=k3:=by omega
     rw [d2]at l3;injection l3 with l3;subst l3
     rw [I.pw]at d3 d5;obtain ⟨l,r1,r2,r3⟩:=htaken k d1;have:=(zhv d4).1
     refine ⟨k,(qah.1 l1).1,?_⟩;rw [r2];exact (r3 q).2 ⟨hq,by unfold bs;omega,by unfold bs;omega⟩
theorem zwu{h:Hp}{x:Wk}{os:List Int}(G:Good h)(C:CI h x os (fun t _=>t<os.length)):
 Good (endH x)/\(∀ c,c∈zaf (endH x)↔c∈x.queue)/\(∀ (i:Nat) (o q:Int),os[i]?=some o->x.queue[i]?=some q->atH (endH x) q=atH h o/\∀ j,0<=j->j<(atH h o).n->zao (endH x).words (q+1+j)=zao x.h.words (q+1+j)):=by
 have I:=C.inv;have hcf:=I.conf;have ok:=zw8 G C;obtain ⟨s1,s2,s3,s4,s5,s6⟩:=znS I;have p7:=(zan I.ok).2.2.2.2.2.2;have hc:=(zan I.ok).1;obtain ⟨l1,l2,l3⟩:=ztn G C;have hlen:=C.len;have hidx:∀ q∈x.queue,∃ (i:Nat) (o:Int),os[i]?=some o/\x.queue[i]?=some q:=fun q hq=>by
  obtain ⟨t,ht,e⟩:=qbR.1 hq;exact ⟨t,os[t],qal (by omega),by rw [qal ht,e]⟩
 have hpe:∀ k:Nat,k<(endH x).pages.length->zbj (endH x) k=0:=fun k hk=>(l1 k (by omega)).1
 have hst:∀ c,c∈zat (endH x)↔∃ k:Nat,k<h.pages.length/\c∈zaB (endH x) k:=fun c=>by rw [zaA ok hpe,s4]
 have hat:∀ (i:Nat) (o q:Int),os[i]?=some o->x.queue[i]?=some q->atH (endH x) q=atH h o:=fun i o q h1 h2=>by
  have hqm:=qav h2;have hob:=C.oin o (qav h1);obtain ⟨z1,z2,z3,z4⟩:=C.size h1 h2;have e1:=zaG ((hst q).2 (l3 q hqm));obtain ⟨i5,j5,g5,b5⟩:=zb8 e1;obtain ⟨i6,j6,g6,b6⟩:=zai hob;have hb:=I.queue_bd hqm;have hw:=zeH G C hqm (j:=0) (by omega) (by rw [z1];have:=b6.pos;omega)
  rw [qbO]at hw;have:zap (endH x) q=zap h o:=by rw [zaF hb.1,hw];exact z4
  rw [b5.hd,b6.hd,this]
 have hpin:∀ (k:Nat) (g0:Pg),h.pages[k]?=some g0->g0.kind=1->0<g0.pins->∀ c∈zaB h k,(c∈zaf h->¬c∈x.queue->(atH (endH x) c).k=0/\(atH (endH x) c).n=(atH h c).n/\∀ j,1<=j->j<osz h c->zao (endH x).words (c+j)=0)/\((¬c∈zaf h\/c∈x.queue)->atH (endH x) c=atH h c):=fun k g0 hg h1 hp c hcm=>by
  have hkl:=(qah.1 hg).1;obtain ⟨w1,w2,w3,w4⟩:=zkz G C hg h1 hp hcm;have e1:atE (endH x) c=0:=zbD (h:=endH x) (i:=(k:Int)) (by rw [l2 k g0 hg h1 hp];exact hcm)
  obtain ⟨i5,j5,g5,b5⟩:=zb8 e1;obtain ⟨i6,j6,g6,b6⟩:=zb8 (zbD hcm);refine ⟨fun c1 c2=>?_,fun c1=>by rw [b5.hd,b6.hd,w4 c1]⟩
  obtain ⟨v1,v2⟩:=w3 c1 c2;refine ⟨?_,?_,v2⟩
  · rw [b5.hd];show (dK (zap (endH x) c):Int)=0;omega
  · rw [b5.hd];show (dN (zap (endH x) c):Int)=(atH h c).n
    unfold osz at w2;omega
 have hob:∀ c,c∈zaf (endH x)↔c∈x.queue:=fun c=>by
  rw [zaW,hst];constructor
  · rintro ⟨⟨k,hk,hcm⟩,hk0⟩;rcases (l1 k hk).2 c hcm with q | ⟨g0,hg,h1,hp,hcv,hnq⟩
    · exact q.1
    · exfalso
      obtain ⟨v1,v2⟩:=hpin k g0 hg h1 hp c hcv;by_cases ho:c∈zaf h
      · exact hk0 (v1 ho hnq).1
      · rw [v2 (.inl ho)]at hk0;exact ho (zaW.2 ⟨(zaA G.ok G.pg).2 ⟨k,hk,hcv⟩,hk0⟩)
  · intro hq;obtain ⟨i,o,h1,h2⟩:=hidx c hq;refine ⟨l3 c hq,?_⟩;rw [hat i o c h1 h2];exact (zco (C.oin o (qav h1))).2
 have hfw:∀ (i:Nat) (o q:Int),os[i]?=some o->x.queue[i]?=some q->∀ j,0<=j->j<(atH h o).n->zao (endH x).words (q+1+j)=zao x.h.words (q+1+j):=fun i o q h1 h2 j j0 j1=>by
  obtain ⟨z1,-,-,-⟩:=C.size h1 h2;have:=zeH G C (qav h2) (j:=j+1) (by omega) (by rw [z1];unfold osz;omega)
  rwa [show q+(j+1)=q+1+j from by omega]at this
 have hback:∀ (k:Nat) (y:Pg),(endH x).pages[k]?=some y->∃ g0,h.pages[k]?=some g0:=fun k y hy=>by
  have:=(qah.1 hy).1
  exact ⟨h.pages[k],qal (by omega)⟩
 refine ⟨⟨ok,fun k y hy=>?_,hpe,fun k y hy c hcm=>?_,fun p p0 p1=>?_,fun a ha i hi=>?_,?_⟩,hob,fun i o q h1 h2=>⟨hat i o q h1 h2,hfw i o q h1 h2⟩⟩
 ·
  obtain ⟨g0,hg⟩:=hback k y hy;have E:=za3 G C hg;rw [s3];rcases (zaI _ _ _ _ p7 g0 (qav hg)).2.2.2.2.2.2.2.2 with c | c | c | c
  · by_cases ht:(k:Int)∈x.taken
    · obtain ⟨-,-,u,e,-⟩:=E.tk ht;rw [e]at hy;injection hy with hy;subst hy;exact .inr rfl
    · rw [(E.k0 ht c).2]at hy;injection hy with hy;subst hy;exact .inl c
  · by_cases hp:0<g0.pins
    · rw [(E.k1 c hp).2]at hy;injection hy with hy;subst hy;exact .inr rfl
    · rw [(E.k1' c hp).2]at hy;injection hy with hy;subst hy;exact .inl rfl
  · by_cases hq:bs h k∈x.queue
    · rw [(E.k2 c hq).2]at hy;injection hy with hy;subst hy;exact .inr rfl
    · rw [(E.k2' c hq).2]at hy;injection hy with hy;subst hy;exact .inl rfl
  · by_cases hq:bs h (za0 h.pages k)∈x.queue
    · rw [(E.k3 c hq).2]at hy;injection hy with hy;subst hy;exact .inr rfl
    · rw [(E.k3' c hq).2]at hy;injection hy with hy;subst hy;exact .inl rfl
 ·
  obtain ⟨g0,hg⟩:=hback k y hy;have hk:=(qah.1 hg).1;have E:=za3 G C hg;have hce:atE (endH x) c=0:=zbD hcm
  rw [s1,s2];rcases (l1 k hk).2 c hcm with ⟨hq,hr1,hr2⟩ | ⟨g1,hg1,h1,hp,hcv,hnq⟩
  · obtain ⟨i,o,i1,i2⟩:=hidx c hq;have hoo:=C.oin o (qav i1);obtain ⟨i6,j6,g6,b6⟩:=zai hoo;have hocl:∀ (kk:Nat) (gg:Pg),h.pages[kk]?=some gg->o∈zaB h kk->(gg.kind=1->zaT (atH h o).k (atH h o).n (atH h o).m<=zdX h.pw h.np):=fun kk gg hgg hom=>(G.cls kk gg hgg o hom).1
    rw [hat i o c i1 i2];refine ⟨fun hy1=>?_,fun _=>(zco hoo).2⟩
    obtain ⟨k',hk',hom⟩:=(zaA G.ok G.pg).1 (zaW.1 hoo).1;obtain ⟨j',g',b'⟩:=zaU G.ok hk' hom;refine hocl k' g' b'.pg hom ?_;rcases C.plc i o c i1 i2 with e | ⟨-,-,-,e⟩
    · subst e;have:k'=k:=zc5 (h:=h) (by omega) (ze7 b').1 (ze7 b').2 hr1 hr2
      subst this;have hgg:g'=g0:=by have:=b'.pg;rw [hg]at this;injection this with this;exact this.symm
      subst hgg;rcases b'.kd with ⟨z,-⟩ | ⟨z,-⟩
      · exact z
      · exfalso
        by_cases hqq:bs h k'∈x.queue
        · rw [(E.k2 z hqq).2]at hy;injection hy with hy;subst hy;cases hy1
        · rw [(E.k2' z hqq).2]at hy;injection hy with hy;subst hy;cases hy1
    · exact e _ _ _ b'
  · rw [hg]at hg1;injection hg1 with hg1;subst hg1
    obtain ⟨v1,v2⟩:=hpin k g0 hg h1 hp c hcv;have hcl:=(G.cls k g0 hg c hcv).1 h1;refine ⟨fun _=>?_,fun hy2=>?_⟩
    · by_cases ho:c∈zaf h
      · obtain ⟨w1,w2,-⟩:=v1 ho hnq;have hvv:=(zdT hce).2.1;rw [zbs hvv,w2];rw [zbs (zdT (zbD hcv)).2.1]at hcl;exact hcl
      · rw [v2 (.inl ho)];exact hcl
    · rw [(E.k1 h1 hp).2]at hy;injection hy with hy;subst hy;cases hy2
 ·
  rw [s1,s2]at p1;obtain ⟨k,t,e,hk,ht⟩:=zmt hc p0 p1;have hkl:k<h.pages.length:=by omega
  have hb1:bs h k<=p:=by unfold bs;omega
  have hb2:p<bs h k+h.pw:=by unfold bs;omega
  have hg:h.pages[k]?=some h.pages[k]:=qal hkl
  generalize h.pages[k]=g0 at hg
  have E:=za3 G C hg;have hW:=zhx C hkl hb1 hb2;obtain ⟨f1,f2⟩:=ziC C;have gen:frB (zaH x) k=false->¬g0.kind=0->(∀ c∈zaf h,c<=p->p<c+osz h c->¬c∈x.queue->∃ (kc:Nat) (gc:Pg),h.pages[kc]?=some gc/\gc.kind=1/\0<gc.pins/\c∈zaB h kc)->(∀ c∈zaB h k,¬c∈zaf h->g0.kind=1/\0<g0.pins) ->
   (∃ c∈zat (endH x),c<=p/\p<c+zcb (endH x) c)\/zao (endH x).words p=0:=fun hnf hk0 hgo hfil=>by
   by_cases hobj:∃ c∈zaf h,c<=p/\p<c+osz h c
   · obtain ⟨c,hco,c1,c2⟩:=hobj;by_cases hq:c∈x.queue
     · left
       refine ⟨c,(hst c).2 (l3 c hq),c1,?_⟩;obtain ⟨i,o,i1,i2⟩:=hidx c hq;have ha:=hat i o c i1 i2;have hok1:=(zaW.1 ((hob c).2 hq)).2;have hv:=(zdT (zaG ((hst c).2 (l3 c hq)))).2.1;have hn:(atH (endH x) c).n+1=osz h c:=by
        obtain ⟨z1,-,-,-⟩:=C.size i1 i2;rw [(zdZ hco (I.kept hco hq)).2.1]at z1;rw [ha,z1];rfl
       unfold zcb;rw [if_neg hok1,zbs hv,hn];exact c2
     · obtain ⟨kc,gc,hgc,g1,g2,hcv⟩:=hgo c hco c1 c2 hq;obtain ⟨v1,v2,v3⟩:=(hpin kc gc hgc g1 g2 c hcv).1 hco hq;by_cases ep:p=c
       · left
         refine ⟨c,(hst c).2 ⟨kc,(qah.1 hgc).1,by rw [l2 kc gc hgc g1 g2];exact hcv⟩,c1,?_⟩
         unfold zcb;rw [if_pos v1];omega
       · right
         have:=v3 (p-c) (by omega) (by omega)
         rwa [show c+(p-c)=p from by omega]at this
   · have hno:∀ a∈zaf h,p<a\/a+osz h a<=p:=fun a ha=>by
      refine qaY fun z=>hobj ⟨a,ha,by omega,by omega⟩
     have hx:zao (endH x).words p=zao h.words p:=by
      rw [hW,hnf];show zao (zaH x).h.words p=_
      rw [f1 p (fun a ha _=>hno a ha),C.ot p hno fun k2 y hy hk2=>?_]
      refine qaY fun z=>?_
      have:=zc5 (h:=h) (p:=p) (by omega) (k:=k2) (k':=k) (by omega) (by omega) hb1 hb2
      subst this;rw [hg]at hy;injection hy with hy;subst hy;exact hk0 hk2
     rcases G.zero p p0 (by omega) with ⟨c,hcs,c1,c2⟩ | e0
     · left
       have hcn:¬c∈zaf h:=fun ho=>by
        have hz:=zot (zaG hcs);have:=hno c ho
        omega
       have hck:(atH h c).k=0:=qaY fun z=>hcn (zaW.2 ⟨hcs,z⟩)
       have hpc:p=c:=by unfold zcb at c2;rw [if_pos hck]at c2;omega
       obtain ⟨k',hk',hcv⟩:=(zaA G.ok G.pg).1 hcs;obtain ⟨j',g',b'⟩:=zaU G.ok hk' hcv;have:k'=k:=zc5 (h:=h) (by omega) (ze7 b').1 (ze7 b').2 (by omega) (by omega)
       subst this;obtain ⟨g1,g2⟩:=hfil c hcv hcn;refine ⟨c,(hst c).2 ⟨k',hk',by rw [l2 k' g0 hg g1 g2];exact hcv⟩,c1,?_⟩
       unfold zcb;rw [(hpin k' g0 hg g1 g2 c hcv).2 (.inl hcn),if_pos hck];omega
     · right;rw [hx];exact e0
  rcases (zaI _ _ _ _ p7 g0 (qav hg)).2.2.2.2.2.2.2.2 with c | c | c | c
  · have hxz:(¬(k:Int)∈x.taken\/∃ g,x.h.pages[k]?=some g/\bs h k+g.used<=p)->zao (endH x).words p=0:=fun hz=>by
     rw [hW];split
     · rfl
     · rw [f1 p fun a ha _=>?_]
       · exact C.fr k g0 p hg c hb1 hb2 hz
       · obtain ⟨i3,j3,g3,b3⟩:=zai ha;have:=zaJ b3 hg c
         unfold bs at hb1 hb2;omega
    by_cases ht:(k:Int)∈x.taken
    · obtain ⟨u,l,t1,t2,t3⟩:=C.tile k ht;by_cases hu:bs h k+u<=p
      · exact .inr (hxz (.inr ⟨_,t1,hu⟩))
      · left
        obtain ⟨q,hq,q1,q2⟩:=zmj t2 hb1 (by omega)
        have hqq:=((t3 q).1 hq).1;refine ⟨q,(hst q).2 (l3 q hqq),q1,?_⟩;obtain ⟨i,o,i1,i2⟩:=hidx q hqq;have hv:=(zdT (zaG ((hst q).2 (l3 q hqq)))).2.1;unfold zcb;rw [if_neg (zaW.1 ((hob q).2 hqq)).2,zbs hv,hat i o q i1 i2];obtain ⟨z1,-,-,-⟩:=C.size i1 i2;rw [z1]at q2;exact q2
    · exact .inr (hxz (.inl ht))
  · by_cases hp:0<g0.pins
    · refine gen (E.k1 c hp).1 (by omega) (fun a ha a1 a2 _=>?_) fun a _ _=>⟨c,hp⟩
      obtain ⟨k',hk',hav⟩:=(zaA G.ok G.pg).1 (zaW.1 ha).1;obtain ⟨j',g',b'⟩:=zaU G.ok hk' hav;have hon:=ze7 b';obtain ⟨u1,u2,u3,u4⟩:=b'.upto;have hkk:k'=k:=by
       have hlo:¬k<k':=fun z=>by have:=zl5 (h:=h) (by omega) z;omega
       refine qaY fun z=>?_
       have hlt:k'<k:=by omega
       have hhi:(k:Int)<k'+zdl h g':=by
        refine qaY fun z2=>?_
        have:((k':Int)+zdl h g')*h.pw<=(k:Int)*h.pw:=qaK (by omega) (by omega)
        unfold bs at hb1;omega
       obtain ⟨y,y1,y2⟩:=u4 k hlt hhi;rw [hg]at y1;injection y1 with y1;subst y1;omega
      subst hkk;exact ⟨k',g0,hg,c,hp,hav⟩
    · right;rw [hW,(E.k1' c hp).1];rfl
  · by_cases hq:bs h k∈x.queue
    · refine gen (E.k2 c hq).1 (by omega) (fun a ha a1 a2 hnq=>?_) fun a hav hno=>?_
      · exfalso
        obtain ⟨t1,t2,t3,t4⟩:=zeo G.ok hg c (G.pg k hkl);obtain ⟨k',hk',hav⟩:=(zaA G.ok G.pg).1 (zaW.1 ha).1;obtain ⟨j',g',b'⟩:=zaU G.ok hk' hav;have hon:=ze7 b';obtain ⟨u1,u2,u3,u4⟩:=b'.upto;have hkk:k'=k:=by
         have hlo:¬k<k':=fun z=>by have:=zl5 (h:=h) (by omega) z;omega
         refine qaY fun z=>?_
         have hlt:k'<k:=by omega
         have hhi:(k:Int)<k'+zdl h g':=by
          refine qaY fun z2=>?_
          have:((k':Int)+zdl h g')*h.pw<=(k:Int)*h.pw:=qaK (by omega) (by omega)
          unfold bs at hb1;omega
         obtain ⟨y,y1,y2⟩:=u4 k hlt hhi;rw [hg]at y1;injection y1 with y1;subst y1;omega
        subst hkk;rw [t1]at hav;rw [qau.1 hav]at hnq;exact hnq hq
      · exfalso
        exact hno (zaW.2 ⟨(zaA G.ok G.pg).2 ⟨k,hkl,hav⟩,(G.cls k g0 hg a hav).2 c⟩)
    · right;rw [hW,(E.k2' c hq).1];rfl
  · by_cases hq:bs h (za0 h.pages k)∈x.queue
    · obtain ⟨r1,r2⟩:=zaY G.ok hg (.inr c);refine gen (E.k3 c hq).1 (by omega) (fun a ha a1 a2 hnq=>?_) fun a hav hno=>by rw [r2]at hav;cases hav
      exfalso
      obtain ⟨l,yl,l1',l2',l3',l4'⟩:=zki I.ok hg c;rw [l2']at hq;obtain ⟨k',hk',hav⟩:=(zaA G.ok G.pg).1 (zaW.1 ha).1;obtain ⟨j',g',b'⟩:=zaU G.ok hk' hav;have hon:=ze7 b';obtain ⟨u1,u2,u3,u4⟩:=b'.upto;have hkd:g'.kind=1\/g'.kind=2:=by rcases b'.kd with ⟨z,-⟩ | ⟨z,-⟩ <;> omega
      have hne:k'≠k:=fun z=>by subst z;have:=b'.pg;rw [hg]at this;injection this with this;subst this;omega
      have hlo:¬k<k':=fun z=>by have:=zl5 (h:=h) (by omega) z;omega
      have hlt:k'<k:=by omega
      have hhi:(k:Int)<k'+zdl h g':=by
       refine qaY fun z2=>?_
       have:((k':Int)+zdl h g')*h.pw<=(k:Int)*h.pw:=qaK (by omega) (by omega)
       unfold bs at hb1;omega
      have hhd:za0 h.pages k=k':=by
       obtain ⟨d,rfl⟩:∃ d,k=k'+d:=⟨k-k',by omega⟩
       refine zdL (by rw [zar b'.pg];omega) d fun t2 w1 w2=>?_
       obtain ⟨y',y1',y2'⟩:=u4 t2 w1 (by omega)
       rw [zar y1'];exact y2'
      rw [hhd]at l2'
      subst l2'
      have hgg:g'=yl:=by have:=b'.pg;rw [l3']at this;injection this with this;exact this.symm
      subst hgg;have hab:a=bs h k':=by
       rcases b'.kd with ⟨z,-⟩ | ⟨-,z,-⟩
       · omega
       · have:=b'.ad;unfold bs;omega
      rw [<-hab]at hq;exact hnq hq
    · right;rw [hW,(E.k3' c hq).1];rfl
 ·
  have hq:=(hob a).1 ha;obtain ⟨t,o,i1,i2⟩:=hidx a hq;rw [hat t o a i1 i2]at hi;obtain ⟨-,z0,z1⟩:=zkw hi;rw [hfw t o a i1 i2 i z0 z1,hob];rcases (C.fl t o a i1 i2 i z0 z1).1 (qah.1 i1).1 hi with ⟨-,e⟩ | ⟨t2,-,e⟩
  · exact .inl e
  · exact .inr (qav e)
 ·
  rw [s2];have:=zj8 h.pages (endH x).pages s4.symm fun k a b ha hb hbk=>by
   have E:=za3 G C ha;rcases (zaI _ _ _ _ p7 a (qav ha)).2.2.2.2.2.2.2.2 with c | c | c | c
   · by_cases ht:(k:Int)∈x.taken
     · obtain ⟨-,-,u,e,-⟩:=E.tk ht;rw [e]at hb;injection hb with hb;subst hb;exact absurd hbk.2 (by show ¬(0:Int)<0;decide)
     · rw [(E.k0 ht c).2]at hb;injection hb with hb;subst hb;omega
   · by_cases hp:0<a.pins
     · exact ⟨c,hp⟩
     · rw [(E.k1' c hp).2]at hb;injection hb with hb;subst hb;exact absurd hbk.1 (by decide)
   · by_cases hq:bs h k∈x.queue
     · rw [(E.k2 c hq).2]at hb;injection hb with hb;subst hb;exact absurd hbk.1 (by show ¬(2:Int)=1;decide)
     · rw [(E.k2' c hq).2]at hb;injection hb with hb;subst hb;exact absurd hbk.1 (by decide)
   · by_cases hq:bs h (za0 h.pages k)∈x.queue
     · rw [(E.k3 c hq).2]at hb;injection hb with hb;subst hb;exact absurd hbk.1 (by show ¬(3:Int)=1;decide)
     · rw [(E.k3' c hq).2]at hb;injection hb with hb;subst hb;exact absurd hbk.1 (by decide)
  have:=G.crowd
  omega
theorem ztq{h:Hp}{st wk:List Int}(G:Good h)(hwb:WB h.words)(hst:∀ a∈st,a=0\/a∈zaf h)(hE:zet h st wk=0):∃ os,CI h (zbL h st wk) os (fun t _=>t<os.length)/\ziI h st wk=endH (zbL h st wk) /\
 (zli h st).length=st.length/\(∀ (i:Nat) (r w:Int),st[i]?=some r->(zli h st)[i]?=some w->Fw os (zbL h st wk).queue r w):=by
 obtain ⟨e1,e2⟩:(ziH h st).2.2=0/\(zhB h st).2=0:=by
  unfold zet at hE;rw [if_pos G.ok]at hE;split at hE
  · by_cases c:(ziH h st).2.2=0
    · rw [if_pos c]at hE;exact ⟨c,hE⟩
    · rw [if_neg c]at hE;exact absurd hE c
  · exact absurd hE (by decide)
 obtain ⟨os1,out,C1,r1,r2,r3,⟨m1,r4⟩,⟨m2,r5⟩,r6⟩:=zsF st (zbV h) [] [] (fun _ _=>False) (CI.begin G hwb) hst e1
 have C2:CI h (ziH h st).1 os1 (fun t _=>t<0):=C1.congr (fun i j d=>by omega) (fun i o _ j _=>⟨fun d=>d.elim,fun d=>by omega⟩)
 obtain ⟨os,C3,⟨m3,q1⟩,⟨m4,q2⟩⟩:=zxc G ((zaf h).length+1) (ziH h st).1 0 os1 C2 (by show (zaK (zbV h) [] st).1.sc=_;rw [r6];rfl) (by omega) (by omega) e2
 refine ⟨os,⟨C3.inv.reports _ _ _ _ _ _ _,C3.len,C3.dl,C3.oin,C3.qnd,C3.seen,C3.plc,C3.hd,C3.fl,C3.un,C3.ot,C3.fr,C3.tile,C3.ppg,C3.kp,C3.wb⟩,rfl,?_,fun i r w h1 h2=>?_⟩
 · show (zaK (zbV h) [] st).2.1.length=_
   rw [r1];simpa using r2
 · have h2:(zaK (zbV h) [] st).2.1[i]?=some w:=h2
   rw [r1,qaV]at h2;exact (r3 i r w h1 h2).more ⟨_,q1⟩ ⟨_,q2⟩
theorem zvr:zsE:=by
 intro x G hE;obtain ⟨os,C,eH,eL,eF⟩:=ztq G.good G.wb G.st hE;obtain ⟨g1,g2,-⟩:=zwu G.good C;have hq:∀ r w,Fw os (zbL x.h x.st x.wk).queue r w->w=0\/w∈zaf (ziI x.h x.st x.wk):=fun r w hf=>by
  rw [eH,g2];rcases hf with ⟨-,e⟩ | ⟨t,-,e⟩
  · exact .inl e
  · exact .inr (qav e)
 refine ⟨by show Good (ziI x.h x.st x.wk);rw [eH];exact g1,?_,fun a ha=>?_,fun a ha=>?_⟩
 · show WB (ziI x.h x.st x.wk).words
   exact zvb _ (zvg _ _ C.wb) _
 · have ha:a∈zli x.h x.st:=ha;obtain ⟨i,hi,e⟩:=qbR.1 ha;exact hq _ a (eF i x.st[i] a (qal (by omega)) (by rw [qal hi,e]))
 · have ha:a∈x.wk.map (zf8 (zhB x.h x.st).1):=ha;obtain ⟨r,hr,e⟩:=qay.1 ha;rw [<-e];show zf8 (zhB x.h x.st).1 r=0\/zf8 (zhB x.h x.st).1 r∈zaf (ziI x.h x.st x.wk)
   unfold zf8;by_cases c:r=0
   · rw [if_pos c];exact .inl rfl
   rw [if_neg c];have hro:=(G.wk r hr).resolve_left c;rw [eH,g2];show zhE (zbL x.h x.st x.wk) r=0\/zhE (zbL x.h x.st x.wk) r∈_
   unfold zhE;by_cases c1:r∈(zbL x.h x.st x.wk).queue
   · rw [if_pos c1];exact .inr c1
   rw [if_neg c1];by_cases c2:okT (evWd (zbL x.h x.st x.wk) r).toNat=true
   · have hin:=(C.seen r hro).2 (.inr c2);obtain ⟨t,ht,e2⟩:=qbR.1 hin;have hlen:=C.len;have hos:os[t]?=some r:=by rw [qal ht,e2]
     have hqq:(zbL x.h x.st x.wk).queue[t]?=some (zbL x.h x.st x.wk).queue[t]:=qal (by omega)
     rcases C.plc t r _ hos hqq with q | ⟨-,q,-⟩
     · exact absurd (by rw [<-q];exact qbU _) c1
     · right;rw [q];exact qbU _
   · left;exact zwU (by simpa using c2)
theorem made_gw(n:Nat)(x:Wd)(hm:Made n x)(hn:n<=400):GW x:=zuW zvr n x hm hn
end Go.VI.P
namespace Go.VI
open Go
namespace P
end P
theorem zgk(pw np p o:Int)(hc:confB pw np=true)(h:0<=p/\p<np/\0<=o/\o<pw):F_page_Address ((pw,np,()),p,o,())=some ((4096+p*pw+o,0,()),()):=by
 have c2:=za6.1 hc;have kp:=P.za1 (pw:=pw) (np:=np) (by rw [zaO];exact hc) (p:=p) (by omega) (by omega)
 have cp:=P.conf_prod (pw:=pw) (np:=np) (by rw [zaO];exact hc)
 rw [zkM];dsimp only
 rw [zbN,qac,hc,zbe,qac,zbe,qac];dsimp only;rw [W_id (n:=np-1) (by omega),W_id (n:=pw-1) (by omega),qab (show 0<=p/\p<=np-1 by omega),qab (show 0<=o/\o<=pw-1 by omega)]
 simp only [qbV,qag];have v1:W (p*pw)=p*pw:=W_id (by omega)
 have v2:W (p*pw+o)=p*pw+o:=W_id (by omega)
 have v3:U (p*pw+o)=p*pw+o:=U_id (by omega)
 have v4:U (4096+(p*pw+o))=4096+(p*pw+o):=U_id (by omega)
 rw [v1,v2,v3,v4,Int.add_assoc]
end Go.VI
namespace Go.VI
open Go Go.Proofs
def itm(h:P.Hp)(a:Int):Tden tsW:=(a,(((P.atH h a).k,(P.atH h a).n,(P.atH h a).m,()),(P.atE h a,())),())
theorem zj6(h:P.Hp)(a:Int):errB (itm h a) = !decide (P.atE h a=0):=by
 show (P.atE h a != 0)=_
 by_cases e:P.atE h a=0 <;> simp [e]
def zwN(h:P.Hp)(w:Option (List Int))(L:List (Tden tsW)):Prop:=match w with
 | some l=>L=l.map (itm h)/\∀ x∈l,P.atE h x=0
 | none=>∃ (l:List Int) (a:Int),L=l.map (itm h)++[itm h a]/\(∀ x∈l,P.atE h x=0)/\P.atE h a=19
theorem zwN.cons{h:P.Hp}{w:Option (List Int)}{L:List (Tden tsW)}{a:Int}(k:zwN h w L)(ha:P.atE h a=0):zwN h (w.map (a :: ·)) (itm h a::L):=by
 cases w with
 | some l=>exact ⟨by rw [k.1];rfl,fun x hx=>by rcases qas.1 hx with rfl | hx;exact ha;exact k.2 x hx⟩
 | none=>
  obtain ⟨l,b,e1,e2,e3⟩:=k;exact ⟨a::l,b,by rw [e1];rfl,fun x hx=>by rcases qas.1 hx with rfl | hx;exact ha;exact e2 x hx,e3⟩
theorem zwf{x:Tden tsW}{L:List (Tden tsW)}(hx:errB x=false)(h:okL L=true):okL (x::L)=true:=by
 cases L with
 | nil=>rfl
 | cons y r=>simp only [okL,hx,Bool.not_false,qaS];exact h
theorem at_page{h:P.Hp}(h1:P.okH h=true){j:Nat}{o:Int}(hj:(j:Int)<h.np)(ho:0<=o/\o<h.pw):(P.atE h (4096+j*h.pw+o)=0\/P.atE h (4096+j*h.pw+o)=19)/\P.zct h (4096+j*h.pw+o)=P.pgAt h j/\P.ofK h.pw h.np (4096+j*h.pw+o)=o:=by
 have c:=(P.zan h1).1;obtain ⟨a1,a2,a3⟩:=P.zim c (p:=(j:Int)) (o:=o) (qab ⟨by omega,by omega,by omega,by omega⟩)
 obtain ⟨b1,b2,b3⟩:=P.zg5 c a1;rw [a2]at b1;rw [a3]at b2;refine ⟨?_,?_,b2⟩
 · unfold P.atE;rw [if_pos h1,if_pos b3];cases P.atB h (4096+j*h.pw+o) <;> simp
 · unfold P.zct P.pgAt;rw [b1]
theorem zvA(h:HpD)(hw:HpW h)(h1:P.okH (toHp h)=true)(j:Nat)(hj:j<h.2.2.1.length):∃ L,listP (h,(j:Int),())=some L/\L.length<=1002 /\
 ((P.zbj (toHp h) j=0/\L=(P.zaB (toHp h) j).map (itm (toHp h))/\∀ x∈P.zaB (toHp h) j,P.atE (toHp h) x=0)\/(P.zbj (toHp h) j=19/\∃ (l:List Int) (a:Int),L=l.map (itm (toHp h))++[itm (toHp h) a]/\(∀ x∈l,P.atE (toHp h) x=0)/\P.atE (toHp h) a=19)):=by
 have hlm:(toHp h).pages.length=h.2.2.1.length:=qak ..
 have hin:¬((j:Int)<0\/(toHp h).pages.length<=(j:Int)):=by rw [hlm];omega
 obtain ⟨p1,p2,p3,p4,p5,p6⟩:=P.za2 (zg4 h1);have hat:(toHp h).pages[j]?=some (toPg (h.2.2.1.getD j PG0)):=zbr hj
 have hpg:P.pgAt (toHp h) (j:Int)=toPg (h.2.2.1.getD j PG0):=by
  unfold P.pgAt;rw [qad];exact P.zar hat
 have hub:=fun hk=>zt7 p1 p6 hat hk
 have hsm:=fun hk=>P.zjZ p6 hat hk
 have hok:=P.za9.1 p6 j _ hat;have cp:=P.zaj p1;have hnp:(toHp h).np=h.1.2.1:=rfl
 have hpw:(toHp h).pw=h.1.1:=rfl
 have hjn:(j:Int)<h.1.2.1:=by rw [<-hnp];omega
 have hcB:confB h.1.1 h.1.2.1=true:=by rw [<-zaO];exact p1
 generalize hG:h.2.2.1.getD j PG0=G at hpg hub hsm hok
 obtain ⟨gk,gs,gu,gp,_⟩:=G;have hub:gk=1\/gk=2->0<=gu/\gu<=1000:=hub
 have hsm:gk=1->_:=hsm
 have hk:(P.pgAt (toHp h) (j:Int)).kind=gk:=by rw [hpg];rfl
 have hu:(P.pgAt (toHp h) (j:Int)).used=gu:=by rw [hpg];rfl
 have hkc:(gk=0\/gk=3)/\gu=0\/gk=1\/gk=2:=by
  unfold P.zbq at hok;have e:(toPg (gk,gs,gu,gp,())).kind=gk:=rfl
  have e2:(toPg (gk,gs,gu,gp,())).used=gu:=rfl
  rw [e]at hok;by_cases k0:gk=0
  · rw [if_pos k0]at hok;unfold P.zpx at hok;have:=qar hok
    rw [e2]at this;exact .inl ⟨.inl k0,this.2.1⟩
  · by_cases k1:gk=1
    · exact .inr (.inl k1)
    · by_cases k2:gk=2
      · exact .inr (.inr k2)
      · by_cases k3:gk=3
        · rw [if_neg k0,if_neg k1,if_neg k2,if_pos k3]at hok;unfold P.zdW at hok;have:=qar (qbi.1 hok).1
          rw [e2]at this;exact .inl ⟨.inr k3,this.1⟩
        · rw [if_neg k0,if_neg k1,if_neg k2,if_neg k3]at hok;cases hok
 have step:∀ o:Nat,zcc (h,(j:Int),()) (o:Int)=cond (decide ((o:Int)<gu)) ((F_page_Address (h.1,(j:Int),(o:Int),())).bind fun r=>(F_object_At (h,r.1.1,())).bind fun q=>
  cond (errB (xP r q)) (some (.inl (xP r q,none))) ((F_header_Size (q.1.1,())).bind fun u=>some (.inl (xP r q,some (IntKind.i64.wrap ((o:Int)+u.1.1)))))) (some (.inr ())):=fun o=>by
  rw [zvP];dsimp only;rw [zam.2 ⟨by omega,by omega⟩,qai,qad]
  have:h.2.2.1.getD j (0,0,0,0,())=(gk,gs,gu,gp,()):=hG
  rw [this]
 have up:∀ (f o:Nat),gu.toNat-o<=f->(o=0\/gk=1)->o<=2000->(gk=1\/gk=2)->∃ n L,zcw (zcc (h,(j:Int),())) n (o:Int)=some L/\okL L=true/\L.length<=f+1/\zwN (toHp h) (P.zck (toHp h) j (decide (gk=2)) gu.toNat o) L:=by
  intro f;induction f with
  | zero=>
   intro o hf ho ho2 hk12;refine ⟨1,[],?_,rfl,by simp,?_⟩
   · simp only [zcw];rw [step o,qaj (by have:=hub hk12;omega)];rfl
   · rw [P.zbS (by omega)];exact ⟨rfl,by simp⟩
  | succ f ih=>
   intro o hf ho ho2 hk12;have hgu:=hub hk12;by_cases hlt:o<gu.toNat
   · have hop:(o:Int)<h.1.1:=by
      rcases ho with rfl | k1
      · rw [<-hpw];omega
      · have h2:=(hsm k1).2.1.2;have e2:(toPg (gk,gs,gu,gp,())).used=gu:=rfl
        rw [e2]at h2;rw [<-hpw];omega
     have hA:=zgk h.1.1 h.1.2.1 (j:Int) (o:Int) hcB ⟨by omega,hjn,by omega,hop⟩
     obtain ⟨ead,-⟩:=P.zdN p1 (p:=(j:Int)) (o:=(o:Int)) (qab ⟨by omega,hjn,by omega,by rw [hpw];exact hop⟩)
     obtain ⟨e19,epo,eok⟩:=at_page h1 (j:=j) (o:=(o:Int)) hjn ⟨by omega,by rw [hpw];exact hop⟩
     have hab:=P.zln (toHp h).pw (toHp h).np j o;rw [ead]at hab;have hq:=zgL h hw _ hab;generalize ha:4096+(j:Int)*(toHp h).pw+(o:Int)=a at *
     have ha':4096+(j:Int)*h.1.1+(o:Int)=a:=ha
     rw [ha']at hA;obtain ⟨⟨⟨⟨k',n,m,_⟩,e,_⟩,_⟩,hF,he,hH⟩:=hq;have hA2:F_page_Address (h.1,(j:Int),(o:Int),())=some ((a,0,()),()):=hA
     have ek:(P.atH (toHp h) a).k=k':=(congrArg P.Hd.k hH).symm
     have en:(P.atH (toHp h) a).n=n:=(congrArg P.Hd.n hH).symm
     have em:(P.atH (toHp h) a).m=m:=(congrArg P.Hd.m hH).symm
     have he:e=P.atE (toHp h) a:=he
     have hx:xP ((a,0,()),()) (((k',n,m,()),e,()),())=itm (toHp h) a:=by
      unfold xP itm;rw [ek,en,em,<-he]
     have hst:=step o;rw [qab (by omega),qai,hA2,qac,hF,qac,hx,zj6]at hst
     by_cases e0:P.atE (toHp h) a=0
     · rw [qab e0]at hst;simp only [qbV,qag]at hst;obtain ⟨-,a2,a3,a4,a5,a6⟩:=P.zdT e0;rw [ek,en,em]at a2;rw [em]at a3 a4;rw [en]at a5 a6;rw [zeV k' n m ⟨a3,a4⟩,qac,P.zbs a2]at hst;have w:IntKind.i64.wrap ((o:Int)+(n+1))=((o+(n.toNat+1):Nat):Int):=by
        show W _=_
        rw [W_id (by omega)];omega
       dsimp only at hst
       rw [w]at hst;have hes:errB (itm (toHp h) a)=false:=by rw [zj6,qab e0];rfl
       rcases hk12 with k1 | k2
       · obtain ⟨N,L,g1,g2,g3,g4⟩:=ih (o+(n.toNat+1)) (by omega) (.inr k1) (by omega) (.inl k1)
         have hdf:decide (gk=2)=false:=qaj (by omega)
         rw [hdf]at g4;refine ⟨N+1,itm (toHp h) a::L,?_,zwf hes g2,by simp;omega,?_⟩
         · simp only [zcw];rw [hst];dsimp only;rw [g1];rfl
         · rw [hdf];have hws:=P.zdg (h:=toHp h) (i:=(j:Int)) (u:=gu.toNat) (o:=o) hlt (by rw [ead];exact e0)
           rw [ead,en]at hws;rw [hws];exact g4.cons e0
       · have ho0:o=0:=by omega
         subst ho0;have hdt:decide (gk=2)=true:=qab k2
         have hfull:gu=n+1:=by
          have hB:P.atB (toHp h) a=true:=by
           unfold P.atE at e0;rw [if_pos h1]at e0;split at e0
           · cases hb:P.atB (toHp h) a with
             | true=>rfl
             | false=>rw [hb]at e0;simp at e0
           · omega
          unfold P.atB at hB;rw [epo,hk,hu]at hB;rw [if_neg (by omega)]at hB
          simp only [qae,qaa]at hB;have hn2:(P.atH (toHp h) a).n=P.dN (P.zap (toHp h) a):=by unfold P.atH;rw [if_pos e0];rfl
          rw [en]at hn2;omega
         refine ⟨2,[itm (toHp h) a],?_,rfl,by simp,?_⟩
         · simp only [zcw];rw [hst];dsimp only;rw [step,qaj (by omega)];rfl
         · rw [hdt];have hws:=P.zdU (h:=toHp h) (i:=(j:Int)) (u:=gu.toNat) (o:=0) hlt (by rw [ead];exact e0)
           rw [ead]at hws;rw [hws];exact ⟨rfl,by simpa using e0⟩
     · rw [qaj e0]at hst;simp only [Bool.not_false,qai]at hst;refine ⟨1,[itm (toHp h) a],?_,rfl,by simp,?_⟩
       · simp only [zcw];rw [hst]
       · rw [P.zdb hlt (by rw [ead];exact e0)]
         exact ⟨[],a,rfl,by simp,e19.resolve_left e0⟩
   · refine ⟨1,[],?_,rfl,by simp,?_⟩
     · simp only [zcw];rw [step o,qaj (by omega)];rfl
     · rw [P.zbS hlt];exact ⟨rfl,by simp⟩
 rcases hkc with ⟨k03,hu0⟩ | hk12
 · refine ⟨[],?_,by simp,.inl ?_⟩
   · unfold listP;have:zcw (zcc (h,(j:Int),())) 1 ((0:Nat):Int)=some []:=by
      simp only [zcw];rw [step 0,qaj (by omega)];rfl
     rw [show (0:Int)=((0:Nat):Int) from rfl,zpm this];rfl
   · obtain ⟨e1,e2⟩:=P.zfn h1 hin (by rw [hk];exact k03)
     rw [e1,e2];exact ⟨rfl,rfl,by simp⟩
 · obtain ⟨n,L,g1,g2,g3,g4⟩:=up 1001 0 (by have:=hub hk12;omega) (.inl rfl) (by omega) hk12
   refine ⟨L,?_,g3,?_⟩
   · unfold listP;rw [show (0:Int)=((0:Nat):Int) from rfl,zpm g1,qac,g2];rfl
   · have hW:P.zcI (toHp h) (j:Int)=P.zck (toHp h) j (decide (gk=2)) gu.toNat 0:=by
      unfold P.zcI;rw [hk,hu]
     have hnk:¬((P.pgAt (toHp h) (j:Int)).kind=0\/(P.pgAt (toHp h) (j:Int)).kind=3):=by rw [hk];omega
     rw [<-hW]at g4;cases hq:P.zcI (toHp h) (j:Int) with
     | none=>
      rw [hq]at g4;exact .inr ⟨(P.zoI h1 hin hnk hq).1,g4⟩
     | some l=>
      rw [hq]at g4;obtain ⟨e1,e2⟩:=P.zg0 h1 hin hnk hq;rw [e1,e2];exact .inl ⟨rfl,g4.1,g4.2⟩
end Go.VI
namespace Go.VI
open Go Go.Proofs
theorem lenH_eq(d:Pden psH):lenH d=(d.1.2.2.1.length:Int):=by kernel_rfl
theorem zwj(d:Pden psH)(n v:Int):nextH d n v=IntKind.i64.wrap (v+1):=by kernel_rfl
theorem zmD{h:P.Hp}:∀ {l:List Int},(∀ x∈l,P.atE h x=0)->zec (l.map (itm h))=false
 | [],_=>rfl
 | [a],hl=>by
  show errB (itm h a)=false
  rw [zj6,qab (hl a (by simp))];rfl
 | a::b::l,hl=>zmD (l:=b::l) fun x hx=>hl x (qaD _ hx)
def znN(h:P.Hp)(k:Nat):List Int:=(List.range' k (h.pages.length-k)).flatMap fun (t:Nat)=>P.zaB h t
theorem X_listH(h:HpD)(hw:HpW h):∃ L,listH (h,())=some L/\L.length<=100000/\(
 (P.okH (toHp h)=false/\L=[xErr]) \/
 (P.okH (toHp h)=true/\P.zb9 (toHp h)=0/\L=(P.zat (toHp h)).map (itm (toHp h))/\∀ x∈P.zat (toHp h),P.atE (toHp h) x=0) \/
 (P.okH (toHp h)=true/\P.zb9 (toHp h)=19/\∃ (l:List Int) (a:Int),L=l.map (itm (toHp h))++[itm (toHp h) a]/\(∀ x∈l,P.atE (toHp h) x=0)/\P.atE (toHp h) a=19)):=by
 obtain ⟨⟨⟨b,_⟩,_⟩,hF,hb⟩:=zb4 h hw;have hb:b=P.okH (toHp h):=hb
 subst hb;unfold listH;dsimp only;rw [hF,qac,lenH_eq];dsimp only;cases h1:P.okH (toHp h) with
 | false=>exact ⟨[xErr],rfl,by simp,.inl ⟨rfl,rfl⟩⟩
 | true=>
 simp only [qai];have hlm:(toHp h).pages.length=h.2.2.1.length:=qak ..
 obtain ⟨p1,p2,p3,p4,p5,p6⟩:=P.za2 (zg4 h1);have cp:=P.zaj p1;have hn64:h.2.2.1.length<=64:=by omega
 have up:∀ (f k:Nat),k+f=h.2.2.1.length->∃ L,pagesH (h,()) (h.2.2.1.length:Int) (f+1) (k:Int)=some L/\L.length<=1002*f /\
  (((∀ t,k<=t->t<h.2.2.1.length->P.zbj (toHp h) (t:Nat)=0)/\L=(znN (toHp h) k).map (itm (toHp h))/\∀ x∈znN (toHp h) k,P.atE (toHp h) x=0)\/((∃ t,k<=t/\t<h.2.2.1.length/\¬P.zbj (toHp h) (t:Nat)=0)/\∃ (l:List Int) (a:Int),L=l.map (itm (toHp h))++[itm (toHp h) a]/\(∀ x∈l,P.atE (toHp h) x=0)/\P.atE (toHp h) a=19)):=by
  intro f;induction f with
  | zero=>
   intro k hk;refine ⟨[],?_,by simp,.inl ⟨fun t h1 h2=>by omega,?_,?_⟩⟩
   · simp only [pagesH];rw [qaj (by omega)];rfl
   · unfold znN;rw [show (toHp h).pages.length-k=0 by omega];rfl
   · unfold znN;rw [show (toHp h).pages.length-k=0 by omega];simp
  | succ f ih=>
   intro k hk;obtain ⟨Lp,q1,q2,q3⟩:=zvA h hw h1 k (by omega)
   have w:IntKind.i64.wrap ((k:Int)+1)=((k+1:Nat):Int):=by
    show W _=_
    rw [W_id (by omega)];omega
   have hst:pagesH (h,()) (h.2.2.1.length:Int) (f+1+1) (k:Int)=cond (zec Lp) (some Lp) ((pagesH (h,()) (h.2.2.1.length:Int) (f+1) ((k+1:Nat):Int)).map (Lp ++ ·)):=by
    rw [pagesH,qab (by omega),qai]
    dsimp only;rw [q1,qac,zwj,w]
   rcases q3 with ⟨e0,eL,eA⟩ | ⟨e19,l,a,eL,eA,ea⟩
   · obtain ⟨L,g1,g2,g3⟩:=ih (k+1) (by omega)
     rw [eL,zmD eA,qag,g1,<-eL]at hst;have hfr:znN (toHp h) k=P.zaB (toHp h) (k:Nat)++znN (toHp h) (k+1):=by
      unfold znN;rw [show (toHp h).pages.length-k=((toHp h).pages.length-(k+1))+1 by omega,qcp];rfl
     refine ⟨Lp++L,hst,by simp;omega,?_⟩
     rcases g3 with ⟨z1,z2,z3⟩ | ⟨⟨t,t1,t2,t3⟩,l,a,z2,z3,z4⟩
     · refine .inl ⟨fun t t1 t2=>?_,by rw [hfr,qbP,eL,z2],fun x hx=>?_⟩
       · by_cases hh:t=k
         · subst hh;exact e0
         · exact z1 t (by omega) t2
       · rw [hfr]at hx;rcases qao.1 hx with hx | hx
         · exact eA x hx
         · exact z3 x hx
     · refine .inr ⟨⟨t,by omega,t2,t3⟩,P.zaB (toHp h) (k:Nat)++l,a,by rw [eL,z2];simp,fun x hx=>?_,z4⟩
       rcases qao.1 hx with hx | hx
       · exact eA x hx
       · exact z3 x hx
   · have he:zec Lp=true:=by
      rw [eL,zd5,zj6,qaj (by omega)];rfl
     rw [he,qai]at hst;exact ⟨Lp,hst,by omega,.inr ⟨⟨k,by omega,by omega,by omega⟩,l,a,eL,eA,ea⟩⟩
 obtain ⟨L,g1,g2,g3⟩:=up h.2.2.1.length 0 (by omega)
 have hf0:znN (toHp h) 0=P.zbC (toHp h) (toHp h).pages.length:=by
  unfold znN P.zbC;rw [List.range_eq_range',Nat.sub_zero]
 refine ⟨L,g1,by omega,.inr ?_⟩
 rcases g3 with ⟨z1,z2,z3⟩ | ⟨⟨t,t1,t2,t3⟩,l,a,z2,z3,z4⟩
 · obtain ⟨s1,s2⟩:=P.zdh h1 (fun t ht=>z1 t (by omega) (by rw [<-hlm];exact ht))
   refine .inl ⟨trivial,s1,?_,?_⟩
   · rw [s2,<-hf0];exact z2
   · rw [s2,<-hf0];exact z3
 · obtain ⟨s1,s2⟩:=P.zox h1 (by rw [hlm];exact t2) t3
   exact .inr ⟨trivial,s1,l,a,z2,z3,z4⟩
end Go.VI
namespace Go.VI
open Go Go.Proofs
abbrev LS:=Unit×(List Int×Unit)×(List Int×Unit)×(Int×Unit)×(Unit×Unit)×Unit
def lf(kp:(Int×Int×Int×Unit)×Unit->Option ((Bool×Unit)×Unit))(y:Tden tsW)(x:LS):Option (LS⊕LS) :=
 bif y.2.1.2.1 != 0 then some (Sum.inr ((),(x.2.1.1,()),([],()),(y.2.1.2.1,()),((),()),()))
 else (kp ((y.2.1.1.1,y.2.1.1.2.1,y.2.1.1.2.2.1,()),())).bind fun (r:(Bool×Unit)×Unit)=>
  bif bif r.1.1 then zaS (x.2.1.1.length + [y.1].length) 8 else true then
   bif r.1.1 then some (Sum.inl ((),(x.2.1.1++[y.1],()),(x.2.2.1.1,()),(x.2.2.2.1.1,()),((),()),()))
   else some (Sum.inl ((),(x.2.1.1,()),(x.2.2.1.1,()),(x.2.2.2.1.1,()),((),()),()))
  else none
theorem lf_ok{h:P.Hp}{kp:(Int×Int×Int×Unit)×Unit->Option ((Bool×Unit)×Unit)}{kb:Int->Bool}(hk:∀ k n m,kp ((k,n,m,()),())=some ((kb k,()),())){R:List (Tden tsW)}:∀ (l acc:List Int) (c:List Int) (e:Int),(∀ x∈l,P.atE h x=0)->acc.length+l.length<=200000 ->
 zhr (lf kp) (l.map (itm h)++R) ((),(acc,()),(c,()),(e,()),((),()),())=zhr (lf kp) R ((),(acc++l.filter (fun a=>kb (P.atH h a).k),()),(c,()),(e,()),((),()),())
 | [],acc,c,e,_,_=>by simp
 | a::l,acc,c,e,ha,hl=>by
  have h0:=ha a (by simp)
  have he:(P.atE h a != 0)=false:=by rw [h0];rfl
  have hst:lf kp (itm h a) ((),(acc,()),(c,()),(e,()),((),()),())=some (.inl ((),(acc++[a].filter (fun a=>kb (P.atH h a).k),()),(c,()),(e,()),((),()),())):=by
   unfold lf itm;dsimp only;rw [he,qag,hk,qac];have hs:zaS (acc.length+1) 8=true:=zaq.2 (by simp at hl;omega)
   cases hb:kb (P.atH h a).k with
   | true=>simp [hs,hb]
   | false=>simp [hb]
  simp only [qa0,qaJ,zhr];rw [hst];dsimp only;rw [lf_ok hk l _ c e (fun x hx=>ha x (by simp [hx])) (by have:=qbM (fun a=>kb (P.atH h a).k) [a];simp at hl this ⊢;omega)]
  rw [qaG,<-qct];rfl
theorem zw2{h:P.Hp}{kp:(Int×Int×Int×Unit)×Unit->Option ((Bool×Unit)×Unit)}{kb:Int->Bool}(hk:∀ k n m,kp ((k,n,m,()),())=some ((kb k,()),())){l:List Int}(hl:∀ x∈l,P.atE h x=0)(hn:l.length<=200000):
 zhr (lf kp) (l.map (itm h)) ((),([],()),([],()),(0,()),((),()),())=some (.inl ((),(l.filter (fun a=>kb (P.atH h a).k),()),([],()),(0,()),((),()),())):=by
 have:=lf_ok hk (R:=[]) l [] [] 0 hl (by simpa using hn)
 rw [qa1]at this;rw [this];rfl
theorem zw1{h:P.Hp}{kp:(Int×Int×Int×Unit)×Unit->Option ((Bool×Unit)×Unit)}{kb:Int->Bool}(hk:∀ k n m,kp ((k,n,m,()),())=some ((kb k,()),())){l:List Int}{y:Tden tsW}(hy:y.2.1.2.1≠0)(hl:∀ x∈l,P.atE h x=0)(hn:l.length<=200000):
 zhr (lf kp) (l.map (itm h)++[y]) ((),([],()),([],()),(0,()),((),()),())=some (.inr ((),(l.filter (fun a=>kb (P.atH h a).k),()),([],()),(y.2.1.2.1,()),((),()),())):=by
 rw [lf_ok hk (R:=[y]) l [] [] 0 hl (by simpa using hn)]
 have:(y.2.1.2.1 != 0)=true:=by simpa using hy
 simp only [zhr,lf,this,qai,qaV]
theorem anyK(k n m:Int):F_walk_isAny ((k,n,m,()),())=some ((true,()),()):=by rw [zno]
theorem objK(k n m:Int):F_walk_isObject ((k,n,m,()),())=some ((k != 0,()),()):=by rw [zjx]
theorem objs_eq(h:P.Hp)(l:List Int):l.filter (fun a=>(P.atH h a).k != 0)=P.zb7 h l:=by
 unfold P.zb7;congr 1
 funext a
 by_cases e:(P.atH h a).k=0 <;> simp [e]
theorem ztI(h:HpD)(hw:HpW h):F_walk_list_c_walk_inHeap_S1_walk_isObject (h,())=some ((P.zaf (toHp h),P.zb9 (toHp h),()),(h,())):=by
 have hnf:F_walk_list_c_walk_inHeap_S1_walk_isObject (h,())=((listH (h,())).bind fun L=>zhr (lf F_walk_isObject) L ((),([],()),([],()),(0,()),((),()),())).bind fun r=>Sum.elim (fun (x:LS)=>some ((x.2.1.1,0,()),(h,()))) (fun (y:LS)=>some ((y.2.2.1.1,y.2.2.2.1.1,()),(h,()))) r:=by
  rw [zbJ];rfl
 obtain ⟨L,h1,h2,h3⟩:=X_listH h hw;rw [hnf,h1,qac];rcases h3 with ⟨b1,b2⟩ | ⟨b1,b2,b3,b4⟩ | ⟨b1,b2,l,a,b3,b4,b5⟩
 · obtain ⟨e1,e2⟩:=P.zmm b1;rw [b2];unfold P.zaf;rw [e1,e2];rfl
 · rw [b3,zw2 (kb:=fun k=>k != 0) objK b4 (by rw [b3]at h2;simp at h2;omega),qac,b2]
   rw [objs_eq];rfl
 · rw [b3,zw1 (kb:=fun k=>k != 0) objK (y:=itm (toHp h) a) (by show P.atE (toHp h) a≠0;omega) b4 (by rw [b3]at h2;simp at h2;omega),qac]
   have hV:P.zat (toHp h)=[]:=by unfold P.zb9 at b2;unfold P.zat;rw [if_pos b1]at b2 ⊢;split at b2 <;> simp_all
   unfold P.zaf;rw [hV,b2];show some (([],P.atE (toHp h) a,()),(h,()))=_
   rw [b5];rfl
theorem zl7(h:HpD)(hw:HpW h):F_walk_Objects (h,())=some ((P.zaf (toHp h),P.zb9 (toHp h),()),()):=by
 rw [zkF];dsimp only
 rw [zay,zlM];dsimp only;rw [qac];dsimp only;rw [ztI h hw];rfl
theorem zrk(h:HpD)(hw:HpW h)(i:Int):F_walk_Page (h,i,())=some ((P.zaB (toHp h) i,P.zbj (toHp h) i,()),()):=by
 rw [zoP];dsimp only
 rw [zay];obtain ⟨⟨⟨b,_⟩,_⟩,hF,hb⟩:=zb4 h hw;have hb:b=P.okH (toHp h):=hb
 subst hb;rw [hF,qac];dsimp only;cases h1:P.okH (toHp h) with
 | false=>
  obtain ⟨e1,e2⟩:=P.znk (i:=i) h1
  rw [e1,e2];rfl
 | true=>
 simp only [qbV,qag];have hlm:(toHp h).pages.length=h.2.2.1.length:=qak ..
 by_cases hr:i<0\/(h.2.2.1.length:Int)<=i
 · obtain ⟨e1,e2⟩:=P.znj (i:=i) h1 (by rw [hlm];exact hr)
   rw [e1,e2];rcases hr with hr | hr
   · rw [qab hr];rfl
   · by_cases hi:i<0
     · rw [qab hi];rfl
     · rw [qaj hi,qab (show i >= (h.2.2.1.length:Int) from hr)];rfl
 rw [qaj (show ¬i<0 by omega),qaj (show ¬i >= (h.2.2.1.length:Int) by omega),zlL]
 dsimp only;simp only [qag,qac];obtain ⟨j,rfl⟩:=qaT (show 0<=i by omega)
 have hnf:F_walk_list_c_walk_inPage_S1_walk_isAny (h,(j:Int),())=((listP (h,(j:Int),())).bind fun L=>zhr (lf F_walk_isAny) L ((),([],()),([],()),(0,()),((),()),())).bind fun r=>Sum.elim (fun (x:LS)=>some ((x.2.1.1,0,()),(h,(j:Int),()))) (fun (y:LS)=>some ((y.2.2.1.1,y.2.2.2.1.1,()),(h,(j:Int),()))) r:=by
  rw [zbW];rfl
 obtain ⟨L,g1,g2,g3⟩:=zvA h hw h1 j (by omega)
 rw [zay,hnf,g1,qac];rcases g3 with ⟨b2,b3,b4⟩ | ⟨b2,l,a,b3,b4,b5⟩
 · rw [b3,zw2 anyK b4 (by rw [b3]at g2;simp at g2;omega),qac,b2]
   simp
 · rw [b3,zw1 anyK (y:=itm (toHp h) a) (by show P.atE (toHp h) a≠0;omega) b4 (by rw [b3]at g2;simp at g2;omega),qac]
   have hV:P.zaB (toHp h) j=[]:=by
    unfold P.zbj at b2;unfold P.zaB
    rw [if_pos h1]at b2 ⊢
    split at b2
    · omega
    · rename_i q;rw [if_neg q];split at b2
      · omega
      · rename_i q2;rw [if_neg q2];cases hq:P.zcI (toHp h) j with
        | none=>rfl
        | some l=>rw [hq]at b2;simp at b2
   rw [hV,b2];show some (([],P.atE (toHp h) a,()),())=_
   rw [b5]
end Go.VI
namespace Go.VI
open Go Go.Proofs
abbrev CnT:=Int×Int×Int×Int×Int×Unit
def cs(h:P.Hp)(c:CnT)(a:Int):CnT:=if (P.atH h a).k=0 then (c.1,c.2.1,W (c.2.2.1+1),W (c.2.2.2.1+((P.atH h a).n+1)),c.2.2.2.2.1,()) else (W (c.1+1),W (c.2.1+((P.atH h a).n+1)),c.2.2.1,c.2.2.2.1,c.2.2.2.2.1,())
abbrev CS:=Unit×Unit×CnT×(Int×Unit)×CnT×Unit
def cf(y:Tden tsW)(x:CS):Option (CS⊕CS) :=
 bif y.2.1.2.1 != 0 then some (Sum.inr ((),(),(0,0,0,0,0,()),(y.2.1.2.1,()),(x.2.2.2.2.1.1,x.2.2.2.2.1.2.1,x.2.2.2.2.1.2.2.1,x.2.2.2.2.1.2.2.2.1,x.2.2.2.2.1.2.2.2.2.1,()),()))
 else (F_header_Size ((y.2.1.1.1,y.2.1.1.2.1,y.2.1.1.2.2.1,()),())).bind
  fun (r:(Int×Unit)×Unit)=>(F_walk_isObject ((y.2.1.1.1,y.2.1.1.2.1,y.2.1.1.2.2.1,()),())).bind
  fun (r_1:(Bool×Unit)×Unit)=>
  bif r_1.1.1 then some (Sum.inl ((),(),(x.2.2.1.1,x.2.2.1.2.1,x.2.2.1.2.2.1,x.2.2.1.2.2.2.1,x.2.2.1.2.2.2.2.1,()),(x.2.2.2.1.1,()),(W (x.2.2.2.2.1.1+1),W (x.2.2.2.2.1.2.1+r.1.1),x.2.2.2.2.1.2.2.1,x.2.2.2.2.1.2.2.2.1,x.2.2.2.2.1.2.2.2.2.1,()),()))
  else some (Sum.inl ((),(),(x.2.2.1.1,x.2.2.1.2.1,x.2.2.1.2.2.1,x.2.2.1.2.2.2.1,x.2.2.1.2.2.2.2.1,()),(x.2.2.2.1.1,()),(x.2.2.2.2.1.1,x.2.2.2.2.1.2.1,W (x.2.2.2.2.1.2.2.1+1),W (x.2.2.2.2.1.2.2.2.1+r.1.1),x.2.2.2.2.1.2.2.2.2.1,()),()))
end Go.VI
namespace Go.VI
open Go Go.Proofs
theorem zqx(h:P.Hp):(P.zaf h).length<=4096:=by
 unfold P.zaf P.zb7;exact qaF (qbM _ _) (P.zcW h)
end Go.VI
namespace Go.VI
open Go Go.Proofs
theorem zif(h:P.Hp)(i:Int):(P.zaB h i).length<=64:=by
 cases h1:P.okH h with
 | false=>rw [(P.znk (i:=i) h1).2];simp
 | true=>exact P.zfo h1
end Go.VI
namespace Go.VI.P
open Go
theorem zow{sz:Int->Int}{a b:Int}(hb:b=a+sz a):∀ {l:List Int} {x E:Int},Tile sz x E l->a∈l->b∈l->Tile (fun y=>if y=a then sz a+sz b else sz y) x E (l.filter fun y=>decide (¬y=b))
 | [],x,E,h,ha,_=>by cases ha
 | q::r,x,E,h,ha,hbm=>by
  obtain ⟨h1,h2,h3⟩:=h;by_cases e:q=a
  · subst e;have hne:¬q=b:=by omega
    rw [List.filter_cons_of_pos (by exact qab hne)]
    have hbr:b∈r:=by
     rcases qas.1 hbm with c | c
     · exact absurd c.symm hne
     · exact c
    cases r with
    | nil=>cases hbr
    | cons q2 r2=>
     obtain ⟨g1,g2,g3⟩:=h3;have e2:q2=b:=by omega
     subst e2;rw [List.filter_cons_of_neg (by simp)]
     have hr:∀ y∈r2,q2+sz q2<=y:=fun y hy=>(zeA (by rw [<-g1]at g3;exact g3) y hy).1
     rw [List.filter_eq_self.2 fun y hy=>qab (by have:=hr y hy;omega)]
     refine ⟨h1,?_,?_⟩
     · simp only [if_true];omega
     · simp only [if_true];rw [show x+(sz q+sz q2)=x+sz q+sz q2 by omega]
       exact zcV (fun y hy=>by rw [if_neg];have:=hr y hy;omega) g3
  · have har:a∈r:=by
     rcases qas.1 ha with c | c
     · exact absurd c.symm e
     · exact c
    have t:=zeA h3 a har;have hne:¬q=b:=by omega
    have hbr:b∈r:=by
     rcases qas.1 hbm with c | c
     · exact absurd c.symm hne
     · exact c
    rw [List.filter_cons_of_pos (by exact qab hne)]
    refine ⟨h1,?_,?_⟩
    · simp only [if_neg e];exact h2
    · simp only [if_neg e];exact zow hb h3 har hbr
theorem zk2{p:Int->Bool}{f g:Nat->List Int}:∀ (l:List Nat),(∀ k∈l,g k=(f k).filter p)->l.flatMap g=(l.flatMap f).filter p
 | [],_=>rfl
 | k::l,h=>by
  rw [List.flatMap_cons,List.flatMap_cons,qct,h k (qaX ..),zk2 l fun j hj=>h j (qaD _ hj)]
theorem join{h:Hp}(G:Good h){a b:Int}(ha:a∈zat h)(hb:b∈zat h)(hab:b=a+osz h a)(hpage:(a-4096) / h.pw=(b-4096) / h.pw):
 zaD 0 (osz h a+osz h b-1) 0=true/\zgE h a 0 (osz h a+osz h b-1) 0=0/\zb9 (zjG h a 0 (osz h a+osz h b-1) 0)=0/\zat (zjG h a 0 (osz h a+osz h b-1) 0)=(zat h).filter fun y=>decide (¬y=b):=by
 have hok:=G.ok;obtain ⟨p1,p2,p3,p4,p5,p6,p7⟩:=zan hok;have c:=zaj p1;obtain ⟨k,hk,hak⟩:=(zaA hok G.pg).1 ha;obtain ⟨k2,hk2,hbk⟩:=(zaA hok G.pg).1 hb;obtain ⟨j,g,ba⟩:=zaU hok hk hak;obtain ⟨j2,g2,bb⟩:=zaU hok hk2 hbk;have ea:=ba.ad;have eb:=bb.ad;have ja:=ba.jl;have jb:=bb.jl;have e1:(a-4096) / h.pw=k:=by
  rw [ea,show 4096+(k:Int)*h.pw+j-4096=j+(k:Int)*h.pw by omega,qcD _ _ (by omega),qcC (by omega) ja];omega
 have e2:(b-4096) / h.pw=k2:=by
  rw [eb,show 4096+(k2:Int)*h.pw+j2-4096=j2+(k2:Int)*h.pw by omega,qcD _ _ (by omega),qcC (by omega) jb];omega
 obtain rfl:k=k2:=by omega
 have hgg:g2=g:=by have:=bb.pg;rw [ba.pg]at this;injection this with this;exact this.symm
 subst hgg;have pa:=ba.pos;have pb:=bb.pos;have hkd:=bb.kd;have h1:g2.kind=1/\j2+osz h b<=g2.used/\g2.used<=h.pw:=by
  rcases hkd with q | q
  · exact q
  · omega
 obtain ⟨t1,t2,t3,t4⟩:=zcY hok ba.pg h1.1 (G.pg k hk);have hv:zaD 0 (osz h a+osz h b-1) 0=true:=zgS (by omega)
 have hb1:=bb.wl;have hlenL:=zep (k:=0) (n:=osz h a+osz h b-1) (m:=0)
 have hoA:okA h.words.length a (zch 0 (osz h a+osz h b-1) 0).length=true:=zaM.2 (by omega)
 have hE:zgE h a 0 (osz h a+osz h b-1) 0=0:=by
  unfold zgE;rw [if_pos ⟨hv,hok⟩];unfold ze3;rw [if_pos hoA]
 refine ⟨hv,hE,?_⟩;have hV:zjG h a 0 (osz h a+osz h b-1) 0={ h with words:=zaz h.words a (zch 0 (osz h a+osz h b-1) 0) }:=by
  unfold zjG;rw [if_pos hE]
 rw [hV];obtain ⟨l1,l2,l3⟩:=zkS (k:=0) (m:=0) (n:=osz h a+osz h b-1) (by omega) hoA
 have okX:okH { h with words:=zaz h.words a (zch 0 (osz h a+osz h b-1) 0) }=true:=by
  rw [zg3 (zcB hoA)];exact hok
 generalize hH:({ h with words:=zaz h.words a (zch 0 (osz h a+osz h b-1) 0) }:Hp)=H at *
 have eW:H.words=zaz h.words a (zch 0 (osz h a+osz h b-1) 0):=by rw [<-hH]
 have eP:H.pages=h.pages:=by rw [<-hH]
 have epw:H.pw=h.pw:=by rw [<-hH]
 rw [<-eW]at l1 l3;have hwA:zap H a=(zcU 0 (osz h a+osz h b-1) 0).toNat:=by rw [zaF pa.2,l1]
 have hwb:=zkc hv (by omega)
 obtain ⟨d1,d2,d3,d4⟩:=zjW hv (by omega) (x:=(zcU 0 (osz h a+osz h b-1) 0).toNat) (by omega)
 rw [<-hwA]at d1 d2 d3 d4;have hne:¬a=b:=by omega
 have hout:∀ x∈zat h,¬x=a->¬x=b->zap H x=zap h x:=fun x hx n1 n2=>by
  obtain ⟨i0,-,hx0⟩:=(zaA hok G.pg).1 hx;obtain ⟨xi,xj,xg,bx⟩:=zb8 (zaG hx);have px:=bx.pos;have q1:=zdi G hx ha n1;have q2:=zdi G hx hb n2;rw [zaF px.2,zaF px.2,l3 x (by omega)]
 have pages:∀ t:Nat,t<h.pages.length->zbj H t=0/\zaB H t=(zaB h t).filter fun y=>decide (¬y=b):=fun t ht=>by
  by_cases e:t=k
  · subst e;refine zdA okX (by rw [eP];exact ba.pg) h1.1 t1 (by rw [epw];exact t2) (sz:=fun y=>if y=a then osz h a+osz h b else osz h y) (by rw [epw];exact zow hab t3 hak hbk) fun q hq=>?_
    obtain ⟨hq1,hq2⟩:=qbC.1 hq;have hq2:¬q=b:=qar hq2
    by_cases eq:q=a
    · subst eq;refine ⟨d1,?_⟩;simp only [if_true];omega
    · rw [hout q ((zaA hok G.pg).2 ⟨t,ht,hq1⟩) eq hq2];simp only [if_neg eq];exact t4 q hq1
  · have hnot:∀ x∈zaB h t,¬x=a/\¬x=b:=fun x hx=>by
     obtain ⟨xj,xg,bx⟩:=zaU hok ht hx;have ox:=bx.oi;have oa:=ba.oi;have ob:=bb.oi;constructor
     · intro q;subst q;omega
     · intro q;subst q;omega
    have hg:h.pages[t]?=some h.pages[t]:=qal ht
    obtain ⟨r1,r2⟩:=zgY hok okX epw hg (by rw [eP];exact hg) rfl rfl (G.pg t ht) fun x hx=>hout x ((zaA hok G.pg).2 ⟨t,ht,hx⟩) (hnot x hx).1 (hnot x hx).2
    exact ⟨r1,by rw [r2,List.filter_eq_self.2 fun x hx=>qab (hnot x hx).2]⟩
 have eL:H.pages.length=h.pages.length:=by rw [eP]
 obtain ⟨s1,s2⟩:=zdh okX (by rw [eL];exact fun t ht=>(pages t ht).1)
 obtain ⟨r1,r2⟩:=zdh hok G.pg;refine ⟨s1,?_⟩;rw [s2,r2,eL];exact zk2 _ fun t ht=>(pages t (qbw.1 ht)).2
end Go.VI.P
namespace Go.VI
open Go Go.Proofs
theorem zrf(h:HpD)(hw:HpW h){x:Int}(hx:P.atE (toHp h) x=0):∃ k n m e,F_r05_At (h,x,())=some (((k,n,m,()),e,()),())/\F_r03_Size ((k,n,m,()),())=some ((P.osz (toHp h) x,()),())/\4096<=x/\x<=100004096/\1<=P.osz (toHp h) x/\P.osz (toHp h) x<=256:=by
 obtain ⟨i,j,g,b⟩:=P.zb8 hx;have p1:=b.pos;have p2:=b.wl;have p3:(toHp h).words.length<=100000000:=hw.wl
 obtain ⟨⟨⟨⟨(k:Int),(n:Int),(m:Int),_⟩,(e:Int),_⟩,_⟩,hF,-,hH⟩:=zf0 h hw x (by omega)
 dsimp only at hH
 obtain ⟨-,a2,a3,a4,a5,a6⟩:=P.zdT hx;have ek:(P.atH (toHp h) x).k=k:=(congrArg P.Hd.k hH).symm
 have en:(P.atH (toHp h) x).n=n:=(congrArg P.Hd.n hH).symm
 have em:(P.atH (toHp h) x).m=m:=(congrArg P.Hd.m hH).symm
 rw [ek,en,em]at a2;rw [em]at a3 a4;have eo:P.osz (toHp h) x=n+1:=by unfold P.osz;rw [en]
 have v:=P.zaE a2;exact ⟨k,n,m,e,hF,by rw [zcA k n m ⟨a3,a4⟩,P.zbs a2,eo],p1.2,by omega,p1.1,by omega⟩
end Go.VI
namespace Go.VI
open Go Go.Proofs
abbrev Z3:Int×Int×Int×Unit:=(0,0,0,())
abbrev FX:=(Int×Unit)×Unit×(Int×Int×Int×Unit)×Unit
abbrev FY:=Unit×Unit×(Int×Int×Int×Unit)×Unit⊕Unit×Unit×(Int×Int×Int×Unit)×Unit
theorem zkf{n:Nat}{g:FX->Option (FX⊕FY)}(hn:n<=1000000000)(h:∀ k:Nat,k<n->Tot (fun r=>r = .inl (((k:Int)+1,()),(),Z3,())) (g (((k:Int),()),(),Z3,()))):
 Tot (fun (r:FY)=>r = .inr ((),(),Z3,())) (rl FX FY (fun x=>bif decide (x.1.1<(n:Int)) then g x else some (Sum.inr (Sum.inr ((),(),(x.2.2.1.1,x.2.2.1.2.1,x.2.2.1.2.2.1,()),())))) ((0,()),(),Z3,())):=by
 refine zas (fun x=>∃ k:Nat,x=(((k:Int),()),(),Z3,())/\k<=n) (fun x=>((n:Int)-x.1.1).toNat) ⟨0,rfl,by omega⟩ ?_
 rintro _ ⟨k,rfl,hk⟩;dsimp only;refine zac (fun h1=>?_) fun h1=>zab rfl
 simp only [qaa]at h1;refine (h k (by omega)).mono ?_
 rintro _ rfl;exact ⟨⟨k+1,by rw [show ((k+1:Nat):Int)=(k:Int)+1 by omega],by omega⟩,by dsimp only;omega⟩
theorem zp0:Tot (fun r=>r.1.1=Z3) (F_cmp_Or_audit_Finding ([Z3,Z3],())):=by
 rw [zcM];dsimp only
 refine zad (P:=fun r=>r = .inr ((),(),Z3,())) (zkf (n:=2) (by omega) fun k hk=>?_) ?_
 · have hk2:k=0\/k=1:=by omega
   rcases hk2 with rfl | rfl
   · exact zae (by decide) (zac (fun c=>by simp at c) fun _=>zab (by rw [W_id (by dsimp only;omega)]))
   · exact zae (by decide) (zac (fun c=>by simp at c) fun _=>zab (by rw [W_id (by dsimp only;omega)]))
 · rintro _ rfl;exact zab rfl
abbrev PtD:=Int×(Int×Int×Int×Unit)×Unit
def ofHd(x:P.Hd):Int×Int×Int×Unit:=(x.k,x.n,x.m,())
def mkp(h:HpD)(x:Int):PtD:=(x,ofHd (P.atH (toHp h) x),())
theorem zpv{α:Type}{f:Int->α}{l:List Int}{k:Nat}{d:α}(hk:k<l.length):(l.map f).getD k d=f (l.getD k 0):=by
 rw [qaA,qbr,getD_some hk];rfl
theorem zfN(h:HpD)(hw:HpW h)(i:Int)(he:P.zbj (toHp h) i=0):Tot (fun r=>r.1.1=(P.zaB (toHp h) i).map (mkp h)/\r.1.2.1=0) (F_audit_partsOf (h,i,())):=by
 rw [zjC];dsimp only
 simp only [zay];rw [zrk h hw i,qac,he];dsimp only;have hax:∀ x∈P.zaB (toHp h) i,P.atE (toHp h) x=0:=fun x hx=>P.zbD hx
 have hll:=zif (toHp h) i;generalize P.zaB (toHp h) i=l at *
 refine zac (fun c=>by simp at c) fun _=>?_
 refine zad (P:=fun r=>∃ y,r = .inr y/\y.2.1.1=l.map (mkp h)) (zas (fun x=>∃ k:Nat,x.1.2.2.2.1=(k:Int)/\k<=l.length/\x.2.1.1=(l.take k).map (mkp h)) (fun x=>((l.length:Int)-x.1.2.2.2.1).toNat) ⟨0,rfl,by omega,rfl⟩ ?_) ?_
 · rintro ⟨⟨q1,q2,q3,(k':Int),_⟩,⟨(acc:List PtD),_⟩,_⟩ ⟨k,e1,e2,e3⟩;dsimp only at e1 e3 ⊢
   subst e1;refine zac (fun h4=>?_) fun h4=>zab ?_
   · simp only [qaa]at h4;have hk:k<l.length:=by omega
     have w:W ((k:Int)+1)=((k+1:Nat):Int):=by rw [W_id (by omega)];omega
     rw [w,qad];have hxa:=hax _ (zbu (d:=0) hk)
     obtain ⟨-,-,-,-,-,-,b1,b2,-,-⟩:=zrf h hw hxa;refine zae (zam.2 ⟨by omega,h4⟩) (zad (zgL h hw (l.getD k 0) (by omega)) ?_)
     rintro ⟨⟨(hd:Int×Int×Int×Unit),(e':Int),_⟩,_⟩ ⟨he',hH⟩;dsimp only at he' hH ⊢
     rw [hxa]at he'
     subst he'
     have hd2:hd=ofHd (P.atH (toHp h) (l.getD k 0)):=by rw [<-hH];rfl
     have hacc:acc.length<=64:=by rw [e3,qak,qax];omega
     refine zac (fun c=>by simp at c) fun _=>zae (zaq.2 (by rw [qbz];omega)) (zab ?_)
     simp only [qat];refine ⟨⟨k+1,rfl,by omega,?_⟩,by omega⟩
     rw [P.zbt (getD_some hk),qbP,<-e3,hd2];rfl
   · simp only [qaf]at h4;simp only [qaq];rw [qbc (by omega)]at e3
     exact ⟨_,rfl,e3⟩
 · rintro _ ⟨⟨_,⟨y,_⟩,_⟩,rfl,hy⟩;exact zab ⟨hy,rfl⟩
theorem zlr(pw np kind k n m:Int)(hm:0<=m/\m<4294967296):F_audit_belongs ((pw,np,()),kind,(k,n,m,()),())=some ((bif kind == 2 then k != 0 else decide (P.zaT k n m<=P.zdX pw np),()),()):=by
 rw [zjD];dsimp only
 rw [zeV k n m hm,zew];cases (kind == 2) <;> rfl
theorem zfO(h:HpD)(i:Nat)(hi:i<h.2.2.1.length)(l:List Int)(hl:l.length<=100000)(hm:∀ x∈l,0<=(P.atH (toHp h) x).m/\(P.atH (toHp h) x).m<4294967296)
 (hb:∀ x∈l,(bif (h.2.2.1.getD i PG0).1 == 2 then (P.atH (toHp h) x).k != 0 else decide (P.zaT (P.atH (toHp h) x).k (P.atH (toHp h) x).n (P.atH (toHp h) x).m<=P.zdX h.1.1 h.1.2.1))=true) :
 Tot (fun r=>r.1.1=Z3) (F_audit_checkClasses (h,(i:Int),l.map (mkp h),())):=by
 rw [zfu];dsimp only
 have hll:(l.map (mkp h)).length=l.length:=qak ..
 refine zad (P:=fun r=>r = .inr ((),(),Z3,())) (zkf (n:=(l.map (mkp h)).length) (by omega) fun k hk=>?_) ?_
 · have hk':k<l.length:=by omega
   rw [qad,qad,zpv hk',W_id (n:=(k:Int)+1) (by omega)]
   refine zae (zam.2 ⟨by dsimp only;omega,by dsimp only;omega⟩) (zae (zam.2 ⟨by omega,by omega⟩) ?_)
   unfold mkp ofHd;dsimp only;rw [zlr _ _ _ _ _ _ (hm _ (zbu hk')),qac,hb _ (zbu hk')];exact zac (fun c=>by simp at c) fun _=>zab rfl
 · rintro _ rfl;exact zab rfl
theorem zfM(h:HpD)(a:Int)(h0:4096<=a)(h1:a<4096+(h.2.1.length:Int))(hl:h.2.1.length<=100000000):F_audit_word (h,a,())=some ((P.zao (toHp h).words a,()),()):=by
 rw [zny];dsimp only
 rw [U_id (n:=a-4096) (by omega),zam.2 (show 0<=a-4096/\a-4096<(h.2.1.length:Int) by omega),qai]
 have e:P.zao (toHp h).words a=h.2.1.getD (a-4096).toNat 0:=by
  unfold P.zao;rw [if_pos (P.zaM.2 (by show _/\_<=4096+((h.2.1.length:Nat):Int);omega))];rfl
 rw [e]
theorem zjq(h:HpD)(hc:confB h.1.1 h.1.2.1=true)(hn:(h.2.2.1.length:Int)=h.1.2.1)(i:Nat)(hi:i<h.2.2.1.length)(n:Int)(h0:0<=n)(h1:n<=4)(hk:n=if (h.2.2.1.getD i PG0).1=2 then P.zax h.1.1 h.1.2.1 (h.2.2.1.getD i PG0).2.2.1 else if (h.2.2.1.getD i PG0).1=3 then 0 else 1):
 F_audit_span (h,(i:Int),())=some ((4096+(i:Int)*h.1.1,4096+(i:Int)*h.1.1+n*h.1.1,()),()):=by
 have c2:=za6.1 hc;have k1:0<=n*h.1.1:=qa4 h0 (by omega)
 have k2:n*h.1.1<=4*64:=qcl h1 (by omega) (by omega) (by omega)
 have k3:0<=(i:Int)*h.1.1:=qa4 (by omega) (by omega)
 have k4:(i:Int)*h.1.1<=64*64:=qcl (by omega) (by omega) (by omega) (by omega)
 rw [znz];dsimp only
 rw [zam.2 (show 0<=(i:Int)/\(i:Int)<(h.2.2.1.length:Int) by omega),qai,qad,zgK,zgk _ _ _ _ hc (by omega),qbO]
 simp only [qac];generalize (h.2.2.1.getD i PG0)=g at *
 by_cases e2:g.1=2
 · rw [if_pos e2]at hk;rw [<-hk,show (g.1 == 2)=true by simpa using e2,qai,W_id (n:=n*h.1.1) (by omega),U_id (n:=n*h.1.1) (by omega),U_id (by omega)]
 · rw [if_neg e2]at hk;rw [show (g.1 == 2)=false by simpa using e2,qag]
   by_cases e3:g.1=3
   · rw [if_pos e3]at hk;rw [show (g.1 == 3)=true by simpa using e3,qai,<-hk,W_id (n:=n*h.1.1) (by omega),U_id (n:=n*h.1.1) (by omega),U_id (by omega)]
   · rw [if_neg e3]at hk;rw [show (g.1 == 3)=false by simpa using e3,qag,<-hk,W_id (n:=n*h.1.1) (by omega),U_id (n:=n*h.1.1) (by omega),U_id (by omega)]
theorem zpW(h:HpD)(x p:Int)(hx:P.atE (toHp h) x=0)(h0:0<=x/\x<=100004096)(hp:x<=p/\p<x+P.zcb (toHp h) x):F_audit_part_uses (mkp h x,p,())=some ((true,()),()):=by
 obtain ⟨-,a2,a3,a4,a5,a6⟩:=P.zdT hx;have v:=P.zaE a2;rw [zd2];unfold mkp ofHd;dsimp only;unfold P.zcb at hp;rw [P.zbs a2]at hp;rw [qab (show p >= x by omega),qai]
 by_cases e:(P.atH (toHp h) x).k=0
 · rw [if_pos e]at hp;rw [show ((P.atH (toHp h) x).k != 0)=false by simpa using e,qag,U_id (by omega),U_id (by omega),qab (by omega)]
 · rw [if_neg e]at hp;rw [show ((P.atH (toHp h) x).k != 0)=true by simpa using e,qai,U_id (by omega),U_id (by omega),qab (by omega)]
end Go.VI
namespace Go.VI
open Go Go.Proofs
theorem zjN(k n m i:Int)(hm:0<=m/\m<4294967296):Tot (fun r=>r.1.1=P.ptrB k n m i) (F_header_Pointer ((k,n,m,()),i,())):=by
 rw [ziv];dsimp only
 rw [zde k n m hm,qac];dsimp only;simp only [cor];unfold P.ptrB;refine zac (fun h=>zab ?_) fun h=>?_
 · symm
   simp only [qaU,qap,qaa]at h;rcases h with h | h | h
   · rw [h];rfl
   · rw [qaj (show ¬0<=i by omega)];simp
   · rw [qaj (show ¬i<n by omega)];simp
 simp only [qaL,qaw,qaf]at h;obtain ⟨hv,h0,h1⟩:=h;have c:=P.zaE hv;rw [hv,qab (show 0<=i by omega),qab (show i<n by omega)]
 refine zae ?_ (zab ?_)
 · rw [qaj h0];cases (k == 2) <;> cases (k == 1) <;> rfl
 simp only [qaS];by_cases k2:k=2
 · subst k2;rfl
 by_cases k1:k=1
 · subst k1;obtain ⟨mm,rfl⟩:=qaT hm.1;obtain ⟨j,rfl⟩:=qaT (show 0<=i by omega)
   have hmin:min j IntKind.u32.bits=j:=by
    have:IntKind.u32.bits=32:=rfl
    have:=(c.2.2.2.2.1 rfl).1
    omega
   have hp:0<2 ^ j:=Nat.pow_pos (by omega)
   have e1:(2:Int) ^ j=((2 ^ j:Nat):Int):=by rw [qcn];rfl
   have hle:mm / 2 ^ j<=mm:=Nat.div_le_self _ _
   have e:=zmP (mm / 2 ^ j) 1 (by omega) (by omega)
   rw [Nat.and_one_is_mod]at e;have key:zdm IntKind.u32 (fun (x1 x2:BitVec IntKind.u32.bits)=>x1 &&& x2) ((mm:Int).fdiv (2 ^ min (Int.toNat (j:Int)) IntKind.u32.bits)) 1=((mm / 2 ^ j % 2:Nat):Int):=by
    rw [qad,hmin,e1,zdM mm (2 ^ j) hp];exact e
   simp only [qad]at key;simp only [qad];rw [key,Nat.testBit_eq_decide_div_mod_eq];have:(((1:Int) == 2)=false):=rfl
   rw [this,Bool.false_or];have:(((1:Int) == 1)=true):=rfl
   rw [this,qai];generalize mm / 2 ^ j % 2=z
   rw [qbe];simp
   omega
 · have e1:(k == 2)=false:=by simp [k2]
   have e2:(k == 1)=false:=by simp [k1]
   rw [e1,e2,qaj k2,qaj k1];rfl
theorem ziT(k n m:Int)(hm:0<=m/\m<4294967296)(hn:n<=1000000):Tot (fun r=>r.1.1=P.zel k n m) (F_header_Pointers ((k,n,m,()),())):=by
 rw [zhf];dsimp only
 rw [zde k n m hm,qac];dsimp only;cases hv:P.zaD k n m
 · rw [P.zut hv];exact zac (fun _=>zab rfl) fun c=>by cases c
 · have c:=P.zaE hv;rw [P.zus hv];refine zac (fun c=>by cases c) fun _=>?_
   refine zad (P:=fun r=>r.2.1.1=P.zdk k n m n.toNat) (zas (fun x=>∃ j:Nat,x.1.2.1=(j:Int)/\j<=n.toNat/\x.2.1.1=P.zdk k n m j/\x.2.1.1.length<=j) (fun x=>(n-x.1.2.1).toNat) ⟨0,rfl,by omega,rfl,by simp⟩ ?_) fun r hr=>zab hr
   rintro ⟨⟨_,(i:Int),_⟩,⟨(l:List Int),_⟩,_⟩ ⟨j,e1,e2,e3,e4⟩;dsimp only at e1 e2 e3 e4 ⊢
   subst e1;refine zac (fun h=>?_) fun h=>zab ?_
   · simp only [qaa]at h;have w:W ((j:Int)+1)=j+1:=W_id (by omega)
     rw [w];refine zad (zjN k n m j hm) ?_;rintro ⟨⟨(b:Bool),_⟩,_⟩ hb;dsimp only at hb ⊢
     have hs:=P.zkv k n m j;rw [<-hb]at hs;refine zae (zaN fun _=>zaq.2 (by simp;omega)) (zac (fun h2=>zab ?_) fun h2=>zab ?_)
     · rw [if_pos h2]at hs;simp only [qat];exact ⟨⟨j+1,by omega,by omega,by rw [hs,e3],by simp;omega⟩,by omega⟩
     · rw [if_neg (by rw [h2];decide)]at hs
       simp only [qat];exact ⟨⟨j+1,by omega,by omega,by rw [hs,e3],by omega⟩,by omega⟩
   · simp only [qaf]at h;simp only [qaq];rw [e3,show j=n.toNat by omega]
theorem T_less(x y:Int):F_cmp_Less_uint64 (x,y,())=some ((decide (x<y),()),()):=by
 rw [zhg,zgx];simp
theorem zqX{l:List Int}(hp:l.Pairwise (fun a b=>a<b)){s t:Nat}(hst:s<=t)(ht:t<l.length):l.getD s 0<=l.getD t 0:=by
 by_cases e:s=t
 · subst e;exact qcc _
 · have hs:s<l.length:=by omega
   have:=(List.pairwise_iff_getElem.1 hp) s t hs ht (by omega)
   rw [qaA,qaA,qal hs,qal ht];exact Int.le_of_lt this
theorem zwL(l:List Int)(hl:l.length<=1000000)(hp:l.Pairwise (fun a b=>a<b))(v:Int):Tot (fun r=>(r.1.2.1=true↔v∈l)) (F_slices_BinarySearch_uint64 (l,v,())):=by
 rw [zdp];dsimp only
 refine zad (P:=fun r=>∃ a:Nat,r.1.1=(a:Int)/\a<=l.length/\(∀ t,t<a->l.getD t 0<v)/\∀ t,a<=t->t<l.length->v<=l.getD t 0) (zas (fun x=>∃ a b:Nat,x.1.1=(a:Int)/\x.1.2.1=(b:Int)/\a<=b/\b<=l.length/\(∀ t,t<a->l.getD t 0<v)/\∀ t,b<=t->t<l.length->v<=l.getD t 0) (fun x=>(x.1.2.1-x.1.1).toNat) ⟨0,l.length,rfl,rfl,by omega,by omega,fun t h=>by omega,fun t h1 h2=>by omega⟩ ?_) ?_
 · rintro ⟨⟨(i:Int),(j:Int),_⟩,_⟩ ⟨a,b,e1,e2,e3,e4,e5,e6⟩;dsimp only at e1 e2 ⊢
   subst e1 e2;refine zac (fun h1=>?_) fun h1=>zab ?_
   · simp only [qaa]at h1;have d1:(2:Int) ^ min (Int.toNat 1) IntKind.u64.bits=2:=by decide
     have hmid:W ((U (W ((a:Int)+(b:Int)))).fdiv (2 ^ min (Int.toNat 1) IntKind.u64.bits))=(((a+b) / 2:Nat):Int):=by
      rw [d1,W_id (n:=(a:Int)+b) (by omega),U_id (by omega),Int.fdiv_eq_ediv_of_nonneg _ (by omega),W_id (by omega)];omega
     rw [hmid];have hm:(a+b) / 2<l.length:=by omega
     have hm2:(a+b) / 2<b:=by omega
     have hm3:a<=(a+b) / 2:=by omega
     generalize (a+b) / 2=c at *
     rw [qad,T_less,qac,W_id (n:=(c:Int)+1) (by omega)]
     dsimp only;refine zae (by decide) (zae (zam.2 ⟨by omega,by omega⟩) (zab ?_))
     simp only [qat];by_cases hlt:l.getD c 0<v
     · rw [qab hlt,qai,qai];exact ⟨⟨c+1,b,by omega,rfl,by omega,e4,fun t ht=>by have:=zqX hp (show t<=c by omega) hm;omega,e6⟩,by omega⟩
     · rw [qaj hlt,qag,qag];exact ⟨⟨a,c,rfl,rfl,by omega,by omega,e5,fun t h1 h2=>by have:=zqX hp h1 h2;omega⟩,by omega⟩
   · simp only [qaf]at h1;simp only [qaq];exact ⟨a,rfl,by omega,e5,fun t h2 h3=>e6 t (by omega) h3⟩
 · rintro ⟨⟨(i:Int),_⟩,_⟩ ⟨a,e1,e2,e3,e4⟩;dsimp only at e1 ⊢
   subst e1;have nan:∀ y:Int,F_slices_isNaN_uint64 (y,())=some ((false,()),()):=fun y=>by rw [zfa];simp
   rw [qad];have hmem:v∈l->a<l.length/\l.getD a 0=v:=fun hv=>by
    obtain ⟨t,ht,e⟩:=qbR.1 hv;have et:l.getD t 0=v:=by rw [qaA,qal ht];exact e
    have h1:¬t<a:=fun c=>by have:=e3 t c;omega
    have h2:=e4 a (qan _) (by omega)
    have h3:=zqX hp (show a<=t by omega) ht
    exact ⟨by omega,by omega⟩
   by_cases h1:a<l.length
   · have hin:inB (a:Int) l.length=true:=zam.2 ⟨by omega,by omega⟩
     have hd:decide ((a:Int)<(l.length:Int))=true:=qab (by omega)
     rw [hin,hd];cases hb:(l.getD a 0 == v) with
     | true=>
      simp only [qai];exact zab ⟨fun _=>by rw [qaE]at hb;rw [<-hb];exact zbu h1,fun _=>rfl⟩
     | false=>
      simp only [qai,qag,nan,qac];exact zab ⟨fun c=>(by cases c),fun hv=>(by have e:=(hmem hv).2;rw [e]at hb;simp at hb)⟩
   · have hd:decide ((a:Int)<(l.length:Int))=false:=qaj (by omega)
     rw [hd];simp only [qai,qag];exact zab ⟨fun c=>(by cases c),fun hv=>absurd (hmem hv).1 h1⟩
theorem zn8(l:List Int)(hl:l.length<=1000000)(hp:l.Pairwise (fun a b=>a<b))(v:Int):Tot (fun r=>(r.1.1=true↔(v=0\/v∈l))) (F_audit_isReference (l,v,())):=by
 rw [zf7];dsimp only
 refine zad (zwL l hl hp v) ?_;rintro ⟨⟨_,(b:Bool),_⟩,_⟩ hb;dsimp only at hb ⊢
 refine zab ?_;cases b with
 | true=>exact ⟨fun _=>.inr (hb.1 rfl),fun _=>rfl⟩
 | false=>
  simp only [qag,qaE];exact ⟨.inl,fun h=>h.resolve_right fun c=>by have:=hb.2 c;cases this⟩
theorem zoa(h:HpD)(hl:h.2.2.1.length<=100000000)(hc:confB h.1.1 h.1.2.1=true)(hn:(P.zaQ (toHp h).pages:Int)<=h.1.2.1 / 4):Tot (fun r=>r.1.1=Z3) (F_audit_checkCrowd (h,())):=by
 have c2:=za6.1 hc;rw [zgz];dsimp only
 have hlm:(toHp h).pages.length=h.2.2.1.length:=qak ..
 refine zad (P:=fun r=>r.1.1=(P.zaQ (toHp h).pages:Int)) (zas (fun x=>∃ k:Nat,x.1.2.1=(k:Int)/\k<=h.2.2.1.length/\x.1.1=(P.zaQ ((toHp h).pages.take k):Int)/\x.1.1<=(k:Int)) (fun x=>((h.2.2.1.length:Int)-x.1.2.1).toNat) ⟨0,rfl,by omega,rfl,by show (0:Int)<=0;omega⟩ ?_) ?_
 · rintro ⟨⟨(s:Int),(k':Int),_⟩,_⟩ ⟨k,e1,e2,e3,e4⟩;dsimp only at e1 e3 e4 ⊢
   subst e1;refine zac (fun h1=>?_) fun h1=>zab ?_
   · simp only [qaa]at h1;have hk:k<h.2.2.1.length:=by omega
     have hs0:0<=s:=by omega
     rw [qad,W_id (n:=(k:Int)+1) (by omega),W_id (n:=s+1) (by omega)]
     have ht:=P.zlg (zbr hk);refine zae (zam.2 ⟨by omega,h1⟩) (zab ?_)
     simp only [qat];generalize hg:h.2.2.1.getD k PG0=g at *
     have ht:P.zaQ ((toHp h).pages.take (k+1))=P.zaQ ((toHp h).pages.take k)+if g.1=1/\0<g.2.2.2.1 then 1 else 0:=ht
     by_cases hq:g.1=1/\0<g.2.2.2.1
     · rw [if_pos hq]at ht;rw [show (g.1 == 1)=true by simpa using hq.1,qab (show g.2.2.2.1 > 0 from hq.2)]
       exact ⟨⟨k+1,by omega,by omega,by simp only [qai];omega,by simp only [qai];omega⟩,by omega⟩
     · rw [if_neg hq]at ht;have:(bif (g.1 == 1) then decide (g.2.2.2.1 > 0) else false)=false:=by
        cases hb:(g.1 == 1) with
        | false=>rfl
        | true=>rw [qai];exact qaj fun c=>hq ⟨by simpa using hb,c⟩
       rw [this];exact ⟨⟨k+1,by omega,by omega,by simp only [qag];omega,by simp only [qag];omega⟩,by omega⟩
   · simp only [qaf]at h1;simp only [qaq];rw [qbc (by omega)]at e3
     exact e3
 · rintro ⟨⟨(s:Int),_⟩,_⟩ e;dsimp only at e ⊢
   refine zae (show (!(4:Int) == 0)=true from by decide) (zac (fun c=>?_) fun _=>zab rfl)
   exfalso
   simp only [qaa]at c;rw [qbE (by omega),W_id (by omega)]at c
   omega
end Go.VI
namespace Go.VI
open Go Go.Proofs
theorem zs4(h:P.Hp):(P.zaf h).Pairwise (fun a b=>a<b) :=
 (P.zdc h).imp_of_mem fun {x y} hx hy hxy=>by
  obtain ⟨i,j,g,b⟩:=P.zai hx;have:=b.pos
  omega
theorem zjL(h:HpD)(hw:HpW h)(G:P.Good (toHp h)):Tot (fun r=>r.1.1=Z3) (F_audit_checkPointers (h,())):=by
 rw [zfb];dsimp only
 simp only [zay];rw [zl7 h hw,qac];dsimp only;have hol:=zqx (toHp h);have hup:=zs4 (toHp h);have hwl:=hw.wl;have hob:∀ x∈P.zaf (toHp h),P.atE (toHp h) x=0/\P.getH (toHp h) x=P.atH (toHp h) x/\∀ i:Int,P.ptrB (P.atH (toHp h) x).k (P.atH (toHp h) x).n (P.atH (toHp h) x).m i=true->P.zao (toHp h).words (x+1+i)=0\/P.zao (toHp h).words (x+1+i)∈P.zaf (toHp h):=fun x hx=>⟨(P.zco hx).1,(P.zqy hx).2,G.ptr x hx⟩
 generalize P.zaf (toHp h)=l at *
 refine zad (P:=fun r=>r = .inr ((),(),Z3,())) (zkf (n:=l.length) (by omega) fun k hk=>?_) ?_
 · rw [qad,W_id (n:=(k:Int)+1) (by omega)]
   obtain ⟨hxa,hxg,hxp⟩:=hob _ (zbu (d:=0) hk)
   obtain ⟨-,-,-,-,-,-,b1,b2,-,-⟩:=zrf h hw hxa;obtain ⟨i0,j0,g0,bg⟩:=P.zb8 hxa;have bwl:=bg.wl;have hwe:(toHp h).words.length=h.2.1.length:=rfl
   obtain ⟨-,a2,a3,a4,a5,a6⟩:=P.zdT hxa;unfold P.osz at bwl;generalize l.getD k 0=x at *
   refine zae (zam.2 ⟨by dsimp only;omega,by dsimp only;omega⟩) (zad (zp1 h hw x (by omega)) ?_)
   rintro ⟨⟨⟨(hk':Int),(n:Int),(m:Int),_⟩,(e':Int),_⟩,_⟩ ⟨-,hH⟩;dsimp only at hH ⊢
   rw [hxg]at hH;have ek:(P.atH (toHp h) x).k=hk':=(congrArg P.Hd.k hH).symm
   have en:(P.atH (toHp h) x).n=n:=(congrArg P.Hd.n hH).symm
   have em:(P.atH (toHp h) x).m=m:=(congrArg P.Hd.m hH).symm
   rw [ek,en,em]at hxp;rw [en]at bwl a5 a6;rw [em]at a3 a4;refine zad (ziT hk' n m ⟨a3,a4⟩ (by omega)) ?_
   rintro ⟨⟨(ps:List Int),_⟩,_⟩ hps;have hps:ps=P.zel hk' n m:=hps
   have hpm:∀ i∈ps,P.ptrB hk' n m i=true:=fun i hi=>P.zku (by rw [<-hps];exact hi)
   have hpl:ps.length<=1000000:=by
    rw [hps];unfold P.zel
    split
    · unfold P.zdk;have:=qbM (fun i=>P.ptrB hk' n m i) ((List.range n.toNat).map Int.ofNat)
      rw [qak,qcr]at this;omega
    · simp
   dsimp only;refine zad (P:=fun r=>r = .inr ((),(),Z3,())) (zkf (n:=ps.length) (by omega) fun t ht=>?_) ?_
   · rw [qad,W_id (n:=(t:Int)+1) (by omega)]
     have hpi:=hpm _ (zbu (d:=0) ht)
     generalize ps.getD t 0=i at *
     obtain ⟨-,i1,i2⟩:=P.zkw hpi;dsimp only;rw [U_id (n:=x+1) (by omega),U_id (n:=i) (by omega),U_id (n:=x+1+i) (by omega),zfM h (x+1+i) (by omega) (by omega) hwl,qac]
     refine zae (zam.2 ⟨by omega,by omega⟩) (zad (zn8 l (by omega) hup _) ?_)
     rintro ⟨⟨(b:Bool),_⟩,_⟩ hb;dsimp only at hb ⊢
     have hb:=hb.2 (hxp i hpi);subst hb;exact zac (fun c=>by simp at c) fun _=>zab rfl
   · rintro _ rfl;exact zab rfl
 · rintro _ rfl;exact zab rfl
namespace P
def zbQ(h:Hp)(g:Pg):Int:=if g.kind=2 then zax h.pw h.np g.used else if g.kind=3 then 0 else 1
theorem zm7{h:Hp}(G:Good h){k:Nat}{g:Pg}(hg:h.pages[k]?=some g):0<=zbQ h g/\zbQ h g<=4/\(k+zbQ h g)*h.pw<=h.np*h.pw/\∀ p:Int,4096+(k:Int)*h.pw<=p->p<4096+(k:Int)*h.pw+zbQ h g*h.pw ->
 (∃ x∈zaB h k,x<=p/\p<x+zcb h x)\/zao h.words p=0:=by
 have hok:=G.ok;obtain ⟨p1,p2,p3,p4,p5,p6,p7⟩:=zan hok;have c:=zaj p1;have hk:=(qah.1 hg).1;have hm:=zaI _ _ _ _ p7 g (qav hg);obtain ⟨m1,m2,m3,m4,m5,m6,m7,m8,m9⟩:=hm;have big:g.kind=2->1<=zax h.pw h.np g.used/\zax h.pw h.np g.used<=4/\((k:Int)+zax h.pw h.np g.used<=h.np)/\∀ t:Nat,k<t->(t:Int)<k+zax h.pw h.np g.used->∃ y,h.pages[t]?=some y/\y.kind=3:=fun e=>by
  obtain ⟨u1,u2,u3,u4⟩:=zeo hok hg e (G.pg k hk);obtain ⟨n1,n2,n3,n4⟩:=zfv (m7 e);obtain ⟨j,g',b⟩:=zaU hok hk (x:=4096+(k:Int)*h.pw) (by rw [u1];exact qau.2 rfl)
  have hgg:g'=g:=by have:=b.pg;rw [hg]at this;injection this with this;exact this.symm
  subst hgg;obtain ⟨v1,v2,v3,v4⟩:=b.upto;have hps:zdl h g'=zax h.pw h.np g'.used:=by unfold zdl;rw [if_pos e]
  rw [hps]at v1 v3 v4;refine ⟨v1,n2,?_,v4⟩;by_cases e1:zax h.pw h.np g'.used=1
  · omega
  · obtain ⟨y,y1,y2⟩:=v4 (k+(zax h.pw h.np g'.used).toNat-1) (by omega) (by omega)
    have:=(qah.1 y1).1
    omega
 have hs:0<=zbQ h g/\zbQ h g<=4/\(k:Int)+zbQ h g<=h.np:=by
  unfold zbQ;by_cases e2:g.kind=2
  · rw [if_pos e2];have:=big e2;omega
  · rw [if_neg e2];split <;> omega
 refine ⟨hs.1,hs.2.1,qaK hs.2.2 (by omega),fun p q1 q2=>?_⟩
 rw [show 4096+(k:Int)*h.pw+zbQ h g*h.pw=4096+((k:Int)+zbQ h g)*h.pw by rw [qa7];omega]at q2
 have hle:((k:Int)+zbQ h g)*h.pw<=h.np*h.pw:=qaK hs.2.2 (by omega)
 have hk0:0<=(k:Int)*h.pw:=qa4 (by omega) (by omega)
 rcases G.zero p (by omega) (by omega) with ⟨x,hx,x1,x2⟩ | h0
 · left
   obtain ⟨k2,hk2,hxk⟩:=(zaA hok G.pg).1 hx;obtain ⟨j,g2,b⟩:=zaU hok hk2 hxk;obtain ⟨v1,v2,v3,v4⟩:=b.upto;have hu:zcb h x<=osz h x:=by
    have hp:=b.pos.1;have hxe:=zaG hx;obtain ⟨-,a2,-⟩:=zdT hxe;unfold zcb;split
    · exact hp
    · rw [zbs a2];unfold osz;omega
   have key:k2=k:=by
    have l1:(k2:Int)*h.pw<((k:Int)+zbQ h g)*h.pw:=by omega
    have l2:(k:Int)*h.pw<((k2:Int)+zdl h g2)*h.pw:=by omega
    have l1:=qb6 l1 (by omega)
    have l2:=qb6 l2 (by omega)
    refine qaY fun hne=>?_
    by_cases hlt:k2<k
    · obtain ⟨y,y1,y2⟩:=v4 k hlt l2;rw [hg]at y1;injection y1 with y1
      subst y1;unfold zbQ at l1 q2;rw [if_neg (by omega),if_pos y2,qbO]at q2
      omega
    · have e2:g.kind=2:=qaY fun e2=>by
       unfold zbQ at l1;rw [if_neg e2]at l1;split at l1 <;> omega
      have hsp:zbQ h g=zax h.pw h.np g.used:=by unfold zbQ;rw [if_pos e2]
      obtain ⟨-,-,-,t4⟩:=big e2;obtain ⟨y,y1,y2⟩:=t4 k2 (by omega) (by omega)
      have:=b.pg
      rw [y1]at this;injection this with this
      subst this;have:=b.kd
      omega
   subst key;exact ⟨x,hxk,x1,by omega⟩
 · exact .inr h0
end P
end Go.VI
namespace Go.VI
open Go Go.Proofs
namespace P
structure PgOk (h:Hp) (k:Nat):Prop where
 ok:okH h=true
 pg:zbj h k=0
 sp:∀ g:Pg,h.pages[k]?=some g->g.kind=0\/g.space=h.space
 cls:∀ g:Pg,h.pages[k]?=some g->∀ x∈zaB h k,(g.kind=1->zaT (atH h x).k (atH h x).n (atH h x).m<=zdX h.pw h.np)/\(g.kind=2->¬(atH h x).k=0)
 use:∀ g:Pg,h.pages[k]?=some g->0<=zbQ h g/\zbQ h g<=4/\(k+zbQ h g)*h.pw<=h.np*h.pw/\∀ p:Int,4096+(k:Int)*h.pw<=p->p<4096+(k:Int)*h.pw+zbQ h g*h.pw ->
  (∃ x∈zaB h k,x<=p/\p<x+zcb h x)\/zao h.words p=0
theorem pgOk_of{h:Hp}(G:Good h){k:Nat}(hk:k<h.pages.length):PgOk h k :=
 ⟨G.ok,G.pg k hk,fun g hg=>G.sp k g hg,fun g hg=>G.cls k g hg,fun g hg=>zm7 G hg⟩
end P
theorem zt6(d):∃ b,F_audit_part_uses d=some ((b,()),()):=by
 rw [zd2];exact ⟨_,rfl⟩
theorem zpX(h:HpD)(hw:HpW h)(k:Nat)(hk:k<h.2.2.1.length)(Q:P.PgOk (toHp h) k):Tot (fun r=>r.1.1=Z3) (F_audit_checkDirt (h,(k:Int),(P.zaB (toHp h) k).map (mkp h),())):=by
 have hok:=Q.ok;obtain ⟨p1,p2,p3,p4,p5,p6,p7⟩:=P.zan hok;have c:=P.zaj p1;have c1:16<=h.1.1/\h.1.1<=64:=⟨c.1,c.2.1⟩
 have hc:confB h.1.1 h.1.2.1=true:=by rw [<-zaO];exact p1
 have hlm:(toHp h).pages.length=h.2.2.1.length:=qak ..
 have hpn:(h.2.2.1.length:Int)=h.1.2.1:=by rw [<-hlm];exact p3
 have hwe:((h.2.1.length:Nat):Int)=h.1.2.1*h.1.1:=p2
 have hwl:=hw.wl;have hat:(toHp h).pages[k]?=some (toPg (h.2.2.1.getD k PG0)):=zbr hk
 obtain ⟨s1,s2,s3,s4⟩:=Q.use _ hat;have hmul:((k:Int)+P.zbQ (toHp h) (toPg (h.2.2.1.getD k PG0)))*h.1.1=(k:Int)*h.1.1+P.zbQ (toHp h) (toPg (h.2.2.1.getD k PG0))*h.1.1:=qa7 ..
 have s3:((k:Int)+P.zbQ (toHp h) (toPg (h.2.2.1.getD k PG0)))*h.1.1<=h.1.2.1*h.1.1:=s3
 rw [hmul]at s3;have s4:∀ p:Int,4096+(k:Int)*h.1.1<=p->p<4096+(k:Int)*h.1.1+P.zbQ (toHp h) (toPg (h.2.2.1.getD k PG0))*h.1.1->(∃ x∈P.zaB (toHp h) k,x<=p/\p<x+P.zcb (toHp h) x)\/P.zao (toHp h).words p=0:=s4
 have hll:=zif (toHp h) (k:Int);have hax:∀ x∈P.zaB (toHp h) k,P.atE (toHp h) x=0:=fun x hx=>P.zbD hx
 rw [zd4];dsimp only
 simp only [zay];rw [zjq h hc hpn k hk (P.zbQ (toHp h) (toPg (h.2.2.1.getD k PG0))) s1 s2 rfl,qac];dsimp only;generalize P.zbQ (toHp h) (toPg (h.2.2.1.getD k PG0))=n at *
 generalize P.zaB (toHp h) k=l at *
 have k0:0<=(k:Int)*h.1.1:=qa4 (by omega) (by omega)
 have k1:0<=n*h.1.1:=qa4 s1 (by omega)
 generalize (k:Int)*h.1.1=s at *
 generalize n*h.1.1=z at *
 have hll2:(l.map (mkp h)).length=l.length:=qak ..
 refine zad (P:=fun r=>r = .inr ((),(),Z3,())) (zas (fun x=>∃ a:Int,x=((a,()),(),Z3,())/\4096+s<=a/\a<=4096+s+z) (fun x=>(4096+s+z-x.1.1).toNat) ⟨_,rfl,by omega,by omega⟩ ?_) ?_
 · rintro _ ⟨a,rfl,a1,a2⟩;dsimp only;refine zac (fun h4=>?_) fun h4=>zab rfl
   simp only [qaa]at h4;rw [zfM h a (by omega) (by omega) hwl,qac,U_id (n:=a+1) (by omega)]
   dsimp only;refine zac (fun h5=>zab ⟨⟨a+1,rfl,by omega,by omega⟩,by dsimp only;omega⟩) fun h5=>?_
   simp only [qaR,ne_eq]at h5;rcases s4 a (by omega) (by omega) with ⟨x,hx,x1,x2⟩ | h0
   · obtain ⟨t0,ht0,hxt⟩:=qbR.1 hx;have hxt:l.getD t0 0=x:=by rw [qaA,qal ht0];exact hxt
     obtain ⟨-,-,-,-,-,-,b1,b2,-,-⟩:=zrf h hw (hax x hx);refine zad (P:=fun r=>∃ y,r = .inl y) (zas (fun x=>∃ t:Nat,x.1.1=(t:Int)/\t<=t0) (fun x=>((t0:Int)+1-x.1.1).toNat) ⟨0,rfl,by omega⟩ ?_) ?_
     · rintro ⟨⟨(t':Int),_⟩,_⟩ ⟨t,e1,e2⟩;dsimp only at e1 ⊢
       subst e1;rw [qad,zpv (show t<l.length by omega),W_id (n:=(t:Int)+1) (by omega),qab (show (t:Int)<((l.map (mkp h)).length:Int) by omega),qai]
       refine zae (zam.2 ⟨by omega,by omega⟩) ?_
       by_cases e:t=t0
       · subst e;rw [hxt];refine zad (P:=fun r=>r.1.1=true) ⟨_,zpW h x a (hax x hx) ⟨by omega,by omega⟩ ⟨x1,x2⟩,rfl⟩ ?_
         rintro ⟨⟨(b:Bool),_⟩,_⟩ hb;have hb:b=true:=hb
         subst hb;exact zac (fun _=>zab ⟨_,rfl⟩) fun c=>by cases c
       · obtain ⟨b,hb⟩:=zt6 (mkp h (l.getD t 0),a,());refine zad (P:=fun _=>True) ⟨_,hb,trivial⟩ ?_
         rintro ⟨⟨(b:Bool),_⟩,_⟩ -;exact zac (fun _=>zab ⟨_,rfl⟩) fun _=>zab ⟨⟨t+1,by dsimp only;omega,by omega⟩,by dsimp only;omega⟩
     · rintro _ ⟨y,rfl⟩;exact zab ⟨⟨a+1,rfl,by omega,by omega⟩,by dsimp only;omega⟩
   · exact absurd h0 h5
 · rintro _ rfl;exact zab rfl
theorem zjr(h:HpD)(hw:HpW h)(k:Nat)(hk:k<h.2.2.1.length)(Q:P.PgOk (toHp h) k):Tot (fun r=>r.1.1=Z3) (F_audit_checkPage (h,(k:Int),())):=by
 have hok:=Q.ok;have hlm:(toHp h).pages.length=h.2.2.1.length:=qak ..
 have hat:(toHp h).pages[k]?=some (toPg (h.2.2.1.getD k PG0)):=zbr hk
 have hpe:=Q.pg;have hsp:=Q.sp _ hat;have hcls:=Q.cls _ hat;have hll:=zif (toHp h) (k:Int);have hax:∀ x∈P.zaB (toHp h) k,P.atE (toHp h) x=0:=fun x hx=>P.zbD hx
 have hdirt:=zpX h hw k hk Q;rw [zd3];dsimp only
 simp only [zay];rw [qad];refine zae (zam.2 ⟨by omega,by omega⟩) (zac (fun c=>?_) fun _=>?_)
 · exfalso
   generalize h.2.2.1.getD k PG0=g at *
   have hsp:g.1=0\/g.2.1=h.2.2.2.1:=hsp
   cases h0:(g.1 != 0) with
   | false=>rw [h0]at c;cases c
   | true=>
    rw [h0]at c;simp only [qai,qaC,ne_eq]at c h0;exact hsp.elim h0 c
 refine zad (zfN h hw k hpe) ?_;rintro ⟨⟨(ps:List PtD),(e:Int),_⟩,_⟩ ⟨hps,he⟩;dsimp only at hps he ⊢
 subst he hps;refine zac (fun c=>by simp at c) fun _=>zad (zfO h k hk _ (by omega) (fun x hx=>by obtain ⟨-,-,a3,a4,-⟩:=P.zdT (hax x hx);exact ⟨a3,a4⟩) fun x hx=>?_) ?_
 · have hq:=hcls x hx;obtain ⟨j,g',b⟩:=P.zaU hok (by omega) hx
   have hkd:=b.kd;have hgg:g'=toPg (h.2.2.1.getD k PG0):=by have:=b.pg;rw [hat]at this;injection this with this;exact this.symm
   subst hgg;generalize h.2.2.1.getD k PG0=g at *
   have q1:g.1=1->P.zaT (P.atH (toHp h) x).k (P.atH (toHp h) x).n (P.atH (toHp h) x).m<=P.zdX h.1.1 h.1.2.1:=hq.1
   have q2:g.1=2->¬(P.atH (toHp h) x).k=0:=hq.2
   have kd:g.1=1\/g.1=2:=hkd.elim (fun a=>.inl a.1) fun a=>.inr a.1
   by_cases e2:g.1=2
   · rw [show (g.1 == 2)=true by simpa using e2,qai];simpa using q2 e2
   · rw [show (g.1 == 2)=false by simpa using e2,qag];exact qab (q1 (by omega))
 rintro ⟨⟨f1,_⟩,_⟩ hf;have hf:f1=Z3:=hf
 subst hf;refine zad hdirt ?_;rintro ⟨⟨f2,_⟩,_⟩ hf;have hf:f2=Z3:=hf
 subst hf;refine zad zp0 ?_;rintro ⟨⟨f3,_⟩,_⟩ hf;have hf:f3=Z3:=hf
 subst hf;exact zab rfl
theorem zob(h:HpD)(hw:HpW h)(G:P.Good (toHp h)):Tot (fun r=>r.1.1=Z3) (F_audit_Check (h,())):=by
 have hok:=G.ok;obtain ⟨p1,p2,p3,p4,p5,p6,p7⟩:=P.zan hok;have hc:confB h.1.1 h.1.2.1=true:=by rw [<-zaO];exact p1
 have hpl:=hw.pl;have hptr:=zjL h hw G;have hcr:=zoa h hpl hc G.crowd;rw [zeb];dsimp only
 simp only [zay];refine zad (zb4 h hw) ?_;rintro ⟨⟨(b:Bool),_⟩,_⟩ hb;have hb:b=P.okH (toHp h):=hb
 rw [hok]at hb;subst hb;refine zac (fun c=>by cases c) fun _=>zad (P:=fun r=>r = .inr ((),(),Z3,())) (zkf (n:=h.2.2.1.length) (by omega) fun k hk=>?_) ?_
 · refine zad (zjr h hw k hk (P.pgOk_of G (by rw [show (toHp h).pages.length=h.2.2.1.length from qak ..];exact hk))) ?_
   rintro ⟨⟨f3,_⟩,_⟩ hf;have hf:f3=Z3:=hf
   subst hf;exact zac (fun c=>by simp at c) fun _=>zab (by rw [W_id (by dsimp only;omega)])
 · rintro _ rfl;simp only [qaq];refine zad hptr ?_;rintro ⟨⟨f1,_⟩,_⟩ hf;have hf:f1=Z3:=hf
   subst hf;refine zad hcr ?_;rintro ⟨⟨f2,_⟩,_⟩ hf;have hf:f2=Z3:=hf
   subst hf;refine zad zp0 ?_;rintro ⟨⟨f3,_⟩,_⟩ hf;have hf:f3=Z3:=hf
   subst hf;exact zab rfl
theorem zpY(h:HpD)(hw:HpW h)(G:P.Good (toHp h)):Tot (fun r=>r.1.1=true) (F_audit_Good (h,())):=by
 rw [znA];dsimp only
 simp only [zay];refine zad (zob h hw G) ?_;rintro ⟨⟨f1,_⟩,_⟩ hf;have hf:f1=Z3:=hf
 subst hf;exact zab rfl
end Go.VI
namespace Go.VI
open Go Go.Proofs
theorem zlu:F_l09_awake ()=some ((true,()),()):=by
 refine zu0 ?_;rw [zpc];dsimp only
 refine zad (zpV 16 8 (by decide)) ?_
 rintro ⟨⟨(v:HpD),(e:Int),_⟩,_⟩ ⟨h1,h2⟩;dsimp only at h1 h2 ⊢
 have hn:P.zl2 16 8=⟨16,8,List.replicate 128 0,List.replicate 8 P.Pg.zero,0,-1⟩:=(P.znD (pw:=16) (np:=8) (by decide)).1.trans rfl
 have G:P.Good (toHp v):=by rw [h1];exact (P.zmF (by decide)).1
 have hw:HpW v:=by
  have e1:v.2.1.length=(toHp v).words.length:=rfl
  have e2:v.2.2.1.length=(toHp v).pages.length:=(qak ..).symm
  rw [h1,hn]at e1 e2;simp only [qa2]at e1 e2;exact ⟨by omega,by omega,h2⟩
 simp only [zay];refine zad (zpY v hw G) ?_;rintro ⟨⟨(b:Bool),_⟩,_⟩ hb;have hb:b=true:=hb
 subst hb;refine zac (fun _=>?_) fun c=>by cases c
 refine zad (P:=fun r=>r.1.1=(1,0,0,())) ?_ ?_
 · rw [zeb];dsimp only
   have hw0:HpW H0:=⟨by decide,by decide,fun x hx=>by cases hx⟩
   refine zad (zb4 H0 hw0) ?_;rintro ⟨⟨(b:Bool),_⟩,_⟩ hb;have hb:b=P.okH (toHp H0):=hb
   have hf:P.okH (toHp H0)=false:=by decide
   rw [hf]at hb;subst hb;exact zac (fun _=>zab rfl) fun c=>by cases c
 · rintro ⟨⟨f,_⟩,_⟩ hf;have hf:f=(1,0,0,()):=hf
   subst hf;exact zab rfl
end Go.VI
namespace Go.VI
open Go Go.Proofs
namespace P
theorem zuA{h h':Hp}(G:Good h)(ok':okH h'=true)(epw:h'.pw=h.pw)(enp:h'.np=h.np)(eP:h'.pages=h.pages)(eS:h'.space=h.space){i:Nat}{gi:Pg}(hgi:h.pages[i]?=some gi)(hi0:gi.kind=0){A:Int}(hA0:4096+(i:Int)*h.pw<=A)(hA1:A<4096+((i:Int)+1)*h.pw)
 (hload:∀ p:Int,¬p=A->4096<=p->zao h'.words p=zao h.words p) {k:Nat} (hk:k<h.pages.length) (hki:¬k=i):PgOk h' k:=by
 have hok:=G.ok;obtain ⟨p1,p2,p3,p4,p5,p6,p7⟩:=zan hok;have c:=zaj p1;have hg:h.pages[k]?=some h.pages[k]:=qal hk
 generalize h.pages[k]=g at hg
 have hx:∀ x∈zaB h k,zap h' x=zap h x:=fun x hx=>by
  obtain ⟨j,g',b⟩:=zaU hok hk hx;have e:=b.ad;have ej:=b.jl;have ne:¬x=A:=fun q=>by
   have l1:(k:Int)*h.pw<((i:Int)+1)*h.pw:=by omega
   have l2:(i:Int)*h.pw<((k:Int)+1)*h.pw:=by rw [qa7 ((k:Int)),qa5];omega
   have l1:=qb6 l1 (by omega)
   have l2:=qb6 l2 (by omega)
   omega
  have hp:=b.pos.2;rw [zaF hp,zaF hp,hload x ne hp]
 obtain ⟨r1,r2⟩:=zgY hok ok' epw hg (by rw [eP];exact hg) rfl rfl (G.pg k hk) hx
 have hat:∀ x∈zaB h k,atH h' x=atH h x:=fun x hxm=>zun (zbD hxm) (zbD (by rw [r2];exact hxm)) (hx x hxm)
 refine ⟨ok',r1,fun g2 hg2=>?_,fun g2 hg2 x hxm=>?_,fun g2 hg2=>?_⟩
 · rw [eP]at hg2;rw [eS];exact G.sp k g2 hg2
 · rw [eP]at hg2;rw [r2]at hxm;rw [hat x hxm,epw,enp];exact G.cls k g2 hg2 x hxm
 · rw [eP]at hg2;have hs:zbQ h' g2=zbQ h g2:=by unfold zbQ;rw [epw,enp]
   obtain ⟨s1,s2,s3,s4⟩:=zm7 G hg2;rw [hs,epw,enp];refine ⟨s1,s2,s3,fun p q1 q2=>?_⟩
   have hne:¬p=A:=fun q=>by
    rw [show 4096+(k:Int)*h.pw+zbQ h g2*h.pw=4096+((k:Int)+zbQ h g2)*h.pw by rw [qa7];omega]at q2
    have l1:(k:Int)*h.pw<((i:Int)+1)*h.pw:=by omega
    have l2:(i:Int)*h.pw<((k:Int)+zbQ h g2)*h.pw:=by omega
    have l1:=qb6 l1 (by omega)
    have l2:=qb6 l2 (by omega)
    have hm:=zaI _ _ _ _ p7 g2 (qav hg2);have e2:g2.kind=2:=qaY fun e2=>by
     unfold zbQ at l2;rw [if_neg e2]at l2;split at l2 <;> omega
    have hsp:zbQ h g2=zax h.pw h.np g2.used:=by unfold zbQ;rw [if_pos e2]
    obtain ⟨u1,u2,u3,u4⟩:=zeo hok hg2 e2 (G.pg k hk);obtain ⟨j,g',b⟩:=zaU hok hk (x:=4096+(k:Int)*h.pw) (by rw [u1];exact qau.2 rfl)
    have hgg:g'=g2:=by have:=b.pg;rw [hg2]at this;injection this with this;exact this.symm
    subst hgg;obtain ⟨v1,v2,v3,v4⟩:=b.upto;have hps:zdl h g'=zax h.pw h.np g'.used:=by unfold zdl;rw [if_pos e2]
    rw [hps]at v4;obtain ⟨y,y1,y2⟩:=v4 i (by omega) (by omega)
    rw [hgi]at y1;injection y1 with y1
    subst y1;omega
   have hp0:0<=(k:Int)*h.pw:=qa4 (by omega) (by omega)
   rw [hload p hne (by omega),r2]
   rcases s4 p q1 q2 with ⟨x,x1,x2,x3⟩ | h0
   · exact .inl ⟨x,x1,x2,by unfold zcb at x3 ⊢;rw [hat x x1];exact x3⟩
   · exact .inr h0
end P
theorem zwM(f:Int×Int×Int×Unit)(hf:¬f.1=0):Tot (fun r=>r.1.1=f) (F_cmp_Or_audit_Finding ([Z3,f],())):=by
 obtain ⟨f1,f2,f3,_⟩:=f;have hf:¬f1=0:=hf
 have hne:(f1 == 0)=false:=by simpa using hf
 rw [zcM];dsimp only
 refine zad (P:=fun r=>r = .inl ((),(),(f1,f2,f3,()),())) (zas (fun x=>x=((0,()),(),Z3,())\/x=((1,()),(),Z3,())) (fun x=>(1-x.1.1).toNat) (.inl rfl) ?_) ?_
 · rintro _ (rfl | rfl)
   · refine zac (fun _=>zae rfl (zac (fun c=>by simp at c) fun _=>zab ⟨.inr rfl,by decide⟩)) fun c=>by simp at c
   · refine zac (fun _=>zae rfl (zac (fun _=>zab rfl) fun c=>?_)) fun c=>by simp at c
     exfalso
     have c:(!(f1 == 0&&(f2 == 0&&(f3 == 0&&true))))=false:=c
     rw [hne]at c;cases c
 · rintro _ rfl;exact zab rfl
theorem zn9(h:HpD)(hw:HpW h)(hok:P.okH (toHp h)=true)(i:Nat)(hi:i<h.2.2.1.length)(h0:(h.2.2.1.getD i PG0).1=0)(o:Int)(ho:0<=o/\o<h.1.1)
 (hz:∀ p:Int,4096+(i:Int)*h.1.1<=p->p<4096+(i:Int)*h.1.1+o->P.zao (toHp h).words p=0) (hd:¬P.zao (toHp h).words (4096+(i:Int)*h.1.1+o)=0) :
 Tot (fun r=>r.1.1=(4,(i:Int),4096+(i:Int)*h.1.1+o,())) (F_audit_checkPage (h,(i:Int),())):=by
 obtain ⟨p1,p2,p3,p4,p5,p6,p7⟩:=P.zan hok;have c:=P.zaj p1;have c1:16<=h.1.1/\h.1.1<=64:=⟨c.1,c.2.1⟩
 have c3:8<=h.1.2.1/\h.1.2.1<=64:=⟨c.2.2.2.1,c.2.2.2.2⟩
 have hc:confB h.1.1 h.1.2.1=true:=by rw [<-zaO];exact p1
 have hlm:(toHp h).pages.length=h.2.2.1.length:=qak ..
 have hpn:(h.2.2.1.length:Int)=h.1.2.1:=by rw [<-hlm];exact p3
 have hwe:((h.2.1.length:Nat):Int)=h.1.2.1*h.1.1:=p2
 have hwl:=hw.wl;have hat:(toHp h).pages[i]?=some (toPg (h.2.2.1.getD i PG0)):=zbr hi
 obtain ⟨n1,n2⟩:=P.zaY hok hat (.inl h0);have k0:0<=(i:Int)*h.1.1:=qa4 (by omega) (by omega)
 have k2:(i:Int)*h.1.1+h.1.1<=h.1.2.1*h.1.1:=by
  have:((i:Int)+1)*h.1.1<=h.1.2.1*h.1.1:=qaK (by omega) (by omega)
  rw [qa7,qa5]at this;exact this
 have hof:P.ofI h.1.1 h.1.2.1 (4096+(i:Int)*h.1.1+o)=i:=by
  obtain ⟨q1,q2,q3⟩:=P.zim (p:=(i:Int)) (o:=o) p1 (by unfold P.inPg;exact qab ⟨by omega,by show (i:Int)<h.1.2.1;omega,by omega,by show o<h.1.1;omega⟩)
  obtain ⟨o1,-,-⟩:=P.zg5 p1 q1;exact o1.trans q2
 rw [zd3];dsimp only
 simp only [zay];rw [qad,h0];refine zae (zam.2 ⟨by omega,by omega⟩) (zac (fun c=>by cases c) fun _=>?_)
 refine zad (zfN h hw i n1) ?_;rintro ⟨⟨(ps:List PtD),(e:Int),_⟩,_⟩ ⟨hps,he⟩;dsimp only at hps he ⊢
 rw [n2]at hps;subst he hps;refine zac (fun c=>by simp at c) fun _=>zad (zfO h i hi [] (by decide) (fun x hx=>by cases hx) fun x hx=>by cases hx) ?_
 rintro ⟨⟨f1,_⟩,_⟩ hf;have hf:f1=Z3:=hf
 subst hf;refine zad (P:=fun r=>r.1.1=(4,(i:Int),4096+(i:Int)*h.1.1+o,())) ?_ ?_
 · rw [zd4];dsimp only
   simp only [zay];rw [zjq h hc hpn i hi 1 (by decide) (by decide) (by rw [h0];rfl),qac,qa5]
   dsimp only;generalize hsd:(i:Int)*h.1.1=s at *
   refine zad (P:=fun r=>r = .inl ((),(),(4,(i:Int),4096+s+o,()),())) (zas (fun x=>∃ a:Int,x=((a,()),(),Z3,())/\4096+s<=a/\a<=4096+s+o) (fun x=>(4096+s+o+1-x.1.1).toNat) ⟨_,rfl,by omega,by omega⟩ ?_) ?_
   · rintro _ ⟨a,rfl,a1,a2⟩;dsimp only;rw [qab (show a<4096+s+h.1.1 by omega),qai,zfM h a (by omega) (by omega) hwl,qac,U_id (n:=a+1) (by omega)]
     dsimp only;refine zac (fun h5=>?_) fun h5=>?_
     · simp only [qaE]at h5;have:¬a=4096+s+o:=fun q=>hd (by rw [<-q];exact h5)
       exact zab ⟨⟨a+1,rfl,by omega,by omega⟩,by dsimp only;omega⟩
     · simp only [qaR,ne_eq]at h5;have:a=4096+s+o:=qaY fun q=>h5 (hz a a1 (by omega))
       subst this;refine zad (P:=fun r=>∃ y,r = .inr y) (zas (fun x=>x.1.1=0) (fun _=>0) rfl ?_) ?_
       · rintro ⟨⟨(t:Int),_⟩,_⟩ e1;dsimp only at e1 ⊢
         subst e1;exact zac (fun c=>by simp at c) fun _=>zab ⟨_,rfl⟩
       · rintro _ ⟨y,rfl⟩;simp only [qaq];rw [zhh];dsimp only;rw [zpZ _ _ _ (by omega),hof]
         exact zab rfl
   · rintro _ rfl;exact zab rfl
 · rintro ⟨⟨f2,_⟩,_⟩ hf;have hf:f2=(4,(i:Int),4096+(i:Int)*h.1.1+o,()):=hf
   subst hf;refine zad (zwM _ (show ¬(4:Int)=0 by decide)) ?_
   rintro ⟨⟨f3,_⟩,_⟩ hf;have hf:f3=(4,(i:Int),4096+(i:Int)*h.1.1+o,()):=hf
   subst hf;exact zab rfl
theorem zr4(d:Int)(n:Int)(h0:1<=n)(h1:n<=4096):∃ i:Nat,(W (d.tmod n+n)).tmod n=(i:Int)/\(i:Int)<n:=by
 have t1:=qcu d (show 0<n by omega)
 have t2 : -n<d.tmod n:=Int.lt_tmod_of_pos d (by omega)
 rw [W_id (by omega)]
 have t3:=Int.tmod_nonneg n (a:=d.tmod n+n) (by omega)
 have t4:=qcu (d.tmod n+n) (show 0<n by omega)
 exact ⟨((d.tmod n+n).tmod n).toNat,by omega,by omega⟩
theorem zrP(tape:List Int)(at1 at2 v:Int)(hv:0<=v/\v<18446744073709551616):F_l09_AuditDirt (tape,at1,at2,v,())=some ((true,()),()):=by
 refine zu0 ?_;rw [zjA];dsimp only
 refine zad (zrx tape) ?_;rintro ⟨⟨(d:WdD),_⟩,_⟩ ⟨n,hm⟩;have hw:=hm.hw;have G:=(P.made_gw n _ hm.made hm.n400).good;obtain ⟨(h:HpD),(st:List Int),(wk:List Int),_⟩:=d;have G:P.Good (toHp h):=G;have hw:HpW h:=hw;clear hm;dsimp only;have hok:=G.ok;obtain ⟨p1,p2,p3,p4,p5,p6,p7⟩:=P.zan hok;have c:=P.zaj p1;have c1:16<=h.1.1/\h.1.1<=64:=⟨c.1,c.2.1⟩
 have c3:8<=h.1.2.1/\h.1.2.1<=64:=⟨c.2.2.2.1,c.2.2.2.2⟩
 have hlm:(toHp h).pages.length=h.2.2.1.length:=qak ..
 have hpn:(h.2.2.1.length:Int)=h.1.2.1:=by rw [<-hlm];exact p3
 have hwe:((h.2.1.length:Nat):Int)=h.1.2.1*h.1.1:=p2
 have hwl:=hw.wl;obtain ⟨i,hi,hil⟩:=zr4 at1 (h.2.2.1.length:Int) (by omega) (by omega)
 obtain ⟨o,ho,hol⟩:=zr4 at2 h.1.1 (by omega) (by omega)
 rw [hi,ho];have hn0:(!(h.2.2.1.length:Int) == 0)=true:=by rw [qaR.2 (show (h.2.2.1.length:Int)≠0 by omega)];rfl
 have hp0:(!h.1.1 == 0)=true:=by rw [qaR.2 (show h.1.1≠0 by omega)];rfl
 have hin:inB (i:Int) h.2.2.1.length=true:=zam.2 ⟨by omega,hil⟩
 simp only [hn0,hp0,hin,qai,qad];have hk:i<h.2.2.1.length:=by omega
 have hat:(toHp h).pages[i]?=some (toPg (h.2.2.1.getD i PG0)):=zbr hk
 refine zac (fun _=>?_) fun hq=>?_
 · rw [zlu];exact zab rfl
 have h0:(h.2.2.1.getD i PG0).1=0/\¬v=0:=by
  cases hb:((h.2.2.1.getD i PG0).1 != 0) with
  | true=>rw [hb]at hq;cases hq
  | false=>
   rw [hb]at hq;simp only [qag,qaR,ne_eq]at hq;exact ⟨by simpa using hb,hq⟩
 have k0:0<=(i:Int)*h.1.1:=qa4 (by omega) (by omega)
 have k2:(i:Int)*h.1.1+h.1.1<=h.1.2.1*h.1.1:=by
  have:((i:Int)+1)*h.1.1<=h.1.2.1*h.1.1:=qaK (by omega) (by omega)
  rw [qa7,qa5]at this;exact this
 have hA:P.za7 h.1.1 h.1.2.1 i o=4096+(i:Int)*h.1.1+o:=(P.zdN p1 (by unfold P.inPg;exact qab ⟨by omega,by show (i:Int)<h.1.2.1;omega,by omega,hol⟩)).1
 refine zad (zeS h.1.1 h.1.2.1 i o) ?_;rintro ⟨⟨(A:Int),(e:Int),_⟩,_⟩ ⟨hA2,-⟩;have hA2:A=4096+(i:Int)*h.1.1+o:=hA2.trans hA
 dsimp only;obtain ⟨s1,s2,s3,s4⟩:=P.zm7 G hat;have hsp:P.zbQ (toHp h) (toPg (h.2.2.1.getD i PG0))=1:=by
  unfold P.zbQ;rw [if_neg (by show ¬(h.2.2.1.getD i PG0).1=2;omega),if_neg (by show ¬(h.2.2.1.getD i PG0).1=3;omega)]
 have hz:∀ p:Int,4096+(i:Int)*h.1.1<=p->p<4096+(i:Int)*h.1.1+h.1.1->P.zao (toHp h).words p=0:=fun p q1 q2=>by
  rcases s4 p q1 (by rw [hsp,qa5];exact q2) with ⟨x,x1,-⟩ | hz
  · rw [(P.zaY hok hat (.inl h0.1)).2]at x1;cases x1
  · exact hz
 rw [U_id (n:=A-4096) (by omega),zlu]
 refine zae (zaq.2 (by omega)) (zae (zam.2 ⟨by omega,by omega⟩) ?_)
 rw [qac];dsimp only;refine zac (fun _=>?_) fun c=>by cases c
 obtain ⟨j,hj⟩:∃ j:Nat,A-4096=(j:Int):=⟨(A-4096).toNat,by omega⟩
 rw [hj,qad];have hjl:j<h.2.1.length:=by omega
 generalize hh':(((h.1.1,h.1.2.1,()),h.2.1.set j v,h.2.2.1,h.2.2.2.1,h.2.2.2.2.1,()):HpD)=h'
 have e1:h'.1=h.1:=by rw [<-hh']
 have e2:h'.2.1=h.2.1.set j v:=by rw [<-hh']
 have e3:h'.2.2.1=h.2.2.1:=by rw [<-hh']
 have eT:toHp h'={ toHp h with words:=h.2.1.set j v }:=by rw [<-hh'];rfl
 have ok':P.okH (toHp h')=true:=by rw [eT,P.zg3 (by rw [List.length_set];rfl)];exact hok
 have hw':HpW h':=⟨by rw [e2,List.length_set];exact hw.wl,by rw [e3];exact hw.pl,by rw [e2];exact WBo.set hw.wb hv⟩
 have hld:∀ p:Int,¬p=A->4096<=p->P.zao (toHp h').words p=P.zao (toHp h).words p:=fun p q1 q2=>by
  rw [eT,P.zbK _ q2,P.zbK _ q2];show ((h.2.1.set j v)[(p-4096).toNat]?).getD 0=(h.2.1[(p-4096).toNat]?).getD 0
  rw [qbu (by omega)]
 have hldA:P.zao (toHp h').words A=v:=by
  rw [eT,P.zbK _ (by omega)]
  show ((h.2.1.set j v)[(A-4096).toNat]?).getD 0=v
  rw [hj,qad,qcq hjl];rfl
 have hAi:A<4096+((i:Int)+1)*h.1.1:=by rw [qa7,qa5];omega
 have hck:Tot (fun r=>r.1.1=(4,(i:Int),A,())) (F_audit_Check (h',())):=by
  rw [zeb];dsimp only
  simp only [zay];refine zad (zb4 h' hw') ?_;rintro ⟨⟨(b:Bool),_⟩,_⟩ hb;have hb:b=P.okH (toHp h'):=hb
  rw [ok']at hb;subst hb;refine zac (fun c=>by cases c) fun _=>zad (P:=fun r=>r = .inl ((),(),(4,(i:Int),A,()),())) (zas (fun x=>∃ k:Nat,x=(((k:Int),()),(),Z3,())/\k<=i) (fun x=>((i:Int)+1-x.1.1).toNat) ⟨0,rfl,by omega⟩ ?_) ?_
  · rintro _ ⟨k,rfl,hki⟩;dsimp only;rw [e3,qab (show (k:Int)<(h.2.2.1.length:Int) by omega),qai,W_id (n:=(k:Int)+1) (by omega)]
    by_cases e:k=i
    · subst e;refine zad (P:=fun r=>r.1.1=(4,(k:Int),A,())) ?_ ?_
      · have:=zn9 h' hw' ok' k (by rw [e3];exact hk) (by rw [e3];exact h0.1) o (by rw [e1];omega) (fun p q1 q2=>by rw [e1]at q1 q2;rw [hld p (by omega) (by omega)];exact hz p q1 (by omega)) (by rw [e1,<-hA2,hldA];exact h0.2)
        rw [e1,<-hA2]at this;exact this
      · rintro ⟨⟨f3,_⟩,_⟩ hf;have hf:f3=(4,(k:Int),A,()):=hf
        subst hf;exact zac (fun _=>zab rfl) fun c=>by cases c
    · have Q:P.PgOk (toHp h') k:=P.zuA G ok' (by rw [eT]) (by rw [eT]) (by rw [eT]) (by rw [eT]) hat h0.1 (A:=A) (by show 4096+(i:Int)*h.1.1<=A;omega) hAi hld (by rw [hlm];omega) e
      refine zad (zjr h' hw' k (by rw [e3];omega) Q) ?_
      rintro ⟨⟨f3,_⟩,_⟩ hf;have hf:f3=Z3:=hf
      subst hf;exact zac (fun c=>by simp at c) fun _=>zab ⟨⟨k+1,by rw [show ((k+1:Nat):Int)=(k:Int)+1 by omega],by omega⟩,by dsimp only;omega⟩
  · rintro _ rfl;exact zab rfl
 refine zad hck ?_;rintro ⟨⟨f3,_⟩,_⟩ hf;have hf:f3=(4,(i:Int),A,()):=hf
 subst hf;refine zab ?_;simp
theorem L_AuditDirtu(d)(h:wfP E_l09_AuditDirt.ps d):F_l09_AuditDirt d=some ((true,()),()):=by
 obtain ⟨tape,a,b,v,_⟩:=d;obtain ⟨-,-,-,hv,-⟩:=h;exact zrP tape a b v (wf_u hv)
end Go.VI
