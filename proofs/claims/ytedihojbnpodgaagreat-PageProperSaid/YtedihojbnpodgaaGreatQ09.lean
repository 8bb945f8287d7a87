import Derived.Test.YtedihojbnpodgaaGreatQ07
import Derived.Test.YtedihojbnpodgaaGreatQ08
set_option linter.unusedSimpArgs false
set_option linter.unusedVariables false
set_option maxRecDepth 100000
set_option maxHeartbeats 4000000
namespace Go.VI.P
open Go
open Go.RowKit
theorem pinned_word {h:Hp} {x:Wk} {os:List Int} {D:Nat->Int->Prop} (G:Good h) (C:CI h x os D) {k:Nat} {g0:Pg} (hg:h.pages[k]?=some g0) (h1:g0.kind=1) (hp:0 < g0.pins) {c:Int} (hc:c∈pageV h k) :
 okD (wordAt (endH x) c)=true/\(dN (wordAt (endH x) c):Int)+1=osz h c/\(c∈objectsV h->¬c∈x.queue->dK (wordAt (endH x) c)=0/\∀ j,1<=j->j < osz h c->loadV (endH x).words (c+j)=0)/\((¬c∈objectsV h\/c∈x.queue)->wordAt (endH x) c=wordAt h c):=by
 have I:=C.inv
 have hcf:=I.conf
 have hkl:=(List.getElem?_eq_some_iff.1 hg).1
 have E:=end_pages G C hg
 obtain ⟨f1,f2⟩:=fill_facts C
 obtain ⟨t1,t2,t3,t4⟩:=small_tile G.ok hg h1 (G.pg k hkl)
 obtain ⟨m1,m2,m3⟩:=tile_mem t3 c hc
 obtain ⟨d1,d2⟩:=t4 c hc
 have hcs:c∈startsV h:=(starts_mem G.ok G.pg).2 ⟨k,hkl,hc⟩
 have hbk:bs h k=4096+(k:Int)*h.pw:=rfl
 have hld:∀ p,c<=p->p < c+osz h c->loadV (endH x).words p=loadV (fillW x).h.words p:=fun p z1 z2=>by
  rw [end_words C hkl (by omega) (by omega),(E.k1 h1 hp).1];rfl
 have h4:4096<=c:=(at_bd (startsV_at hcs)).1
 by_cases ho:c∈objectsV h
 · obtain ⟨i,j,g,b⟩:=objects_begin ho
   have hik:i=k:=bs_uniq (h:=h) (by omega) (obj_on b).1 (obj_on b).2 (by omega) (by omega)
   subst hik
   have hgg:g=g0:=by have:=b.pg;rw [hg] at this;injection this with this;exact this.symm
   subst hgg
   by_cases hq:c∈x.queue
   · have hw:wordAt (endH x) c=wordAt h c:=by
      have:=queue_words G C hq (j:=0) (by omega) (by rw [(old_ev ho (I.kept ho hq)).2.1];omega)
      rw [Int.add_zero] at this
      rw [word_load h4,word_load h4,this]
      have:=I.kept ho hq
      unfold evWd at this
      rw [this]
     exact ⟨by rw [hw];exact d1,by rw [hw];exact d2.symm,fun _ c2=>absurd hq c2,fun _=>hw⟩
   · have hb:=(fill_iff C b).2 ⟨h1,hp,hq⟩
     obtain ⟨w1,w2⟩:=f2 c ho hb
     have hv:validB 0 (atH h c).n 0=true:=valid_plain (.inl rfl) (at_in (startsV_at hcs)).2.2.2.2.1 (at_in (startsV_at hcs)).2.2.2.2.2 rfl
     have hwb:=word_bd hv (by omega)
     have hwd:wordAt (endH x) c=(wordV 0 (atH h c).n 0).toNat:=by rw [word_load h4,hld c (by omega) (by omega),w1,(enc_ok hv).1]
     obtain ⟨e1,e2,e3,e4⟩:=word_dec hv (by omega) (x:=(wordV 0 (atH h c).n 0).toNat) (by omega)
     rw [<-hwd] at e1 e2 e3
     refine ⟨e1,by rw [e3];rfl,fun _ _=>⟨by omega,fun j j0 j1=>?_⟩,fun c2=>?_⟩
     · rw [hld (c+j) (by omega) (by omega)];exact w2 j j0 j1
     · rcases c2 with c2 | c2
       · exact absurd ho c2
       · exact absurd c2 hq
 · have hout:∀ a∈objectsV h,c < a\/a+osz h a<=c:=fun a ha=>by
    have hne:c≠a:=fun e=>ho (e ▸ ha)
    have:=starts_apart G hcs (obj_start.1 ha).1 hne
    omega
   have hw:wordAt (endH x) c=wordAt h c:=by
    rw [word_load h4,word_load h4,hld c (by omega) (by omega),f1 c (fun a ha _=>hout a ha),C.ot c hout fun k2 y hy hk2=>?_]
    refine Decidable.by_contra fun z=>?_
    have:=bs_uniq (h:=h) (p:=c) (by omega) (k:=k2) (k':=k) (by omega) (by omega) (by omega) (by omega)
    subst this
    rw [hg] at hy;injection hy with hy;subst hy;omega
   exact ⟨by rw [hw];exact d1,by rw [hw];exact d2.symm,fun c2=>absurd c2 ho,fun _=>hw⟩
theorem end_layout {h:Hp} {x:Wk} {os:List Int} {D:Nat->Int->Prop} (G:Good h) (C:CI h x os D) :
 (∀ k:Nat,k < h.pages.length->pageE (endH x) k=0/\∀ c∈pageV (endH x) k,(c∈x.queue/\bs h k<=c/\c < bs h k+h.pw)\/∃ g0,h.pages[k]?=some g0/\g0.kind=1/\0 < g0.pins/\c∈pageV h k/\¬c∈x.queue) /\
 (∀ (k:Nat) (g0:Pg),h.pages[k]?=some g0->g0.kind=1->0 < g0.pins->pageV (endH x) k=pageV h k) /\
 (∀ q∈x.queue,∃ k:Nat,k < h.pages.length/\q∈pageV (endH x) k):=by
 have I:=C.inv
 have hcf:=I.conf
 have ok:=end_ok G C
 obtain ⟨s1,s2,s3,s4,s5,s6⟩:=end_same I
 have p7:=(okH_parts I.ok).2.2.2.2.2.2
 have hq0:∀ q∈x.queue,4096<=q/\wordAt (endH x) q=(evWd x q).toNat:=fun q hq=>by
  have hb:=I.queue_bd hq
  refine ⟨hb.1,?_⟩
  obtain ⟨t,ht,e⟩:=List.mem_iff_getElem.1 hq
  have hlen:=C.len
  have hqq:x.queue[t]?=some q:=by rw [List.getElem?_eq_getElem ht,e]
  obtain ⟨z1,-,-,-⟩:=C.size (List.getElem?_eq_getElem (show t < os.length by omega)) hqq
  have hos:=C.oin _ (List.getElem_mem (show t < os.length by omega))
  obtain ⟨i,j,g,b⟩:=objects_begin hos
  have:=queue_words G C hq (j:=0) (by omega) (by rw [z1];have:=b.pos;omega)
  rw [Int.add_zero] at this
  rw [word_load hb.1,this];rfl
 have hqd:∀ q∈x.queue,okD (wordAt (endH x) q)=true/\(dN (wordAt (endH x) q):Int)+1=evN x q:=fun q hq=>by
  obtain ⟨t,ht,e⟩:=List.mem_iff_getElem.1 hq
  have hlen:=C.len
  have hqq:x.queue[t]?=some q:=by rw [List.getElem?_eq_getElem ht,e]
  obtain ⟨-,-,z3,-⟩:=C.size (List.getElem?_eq_getElem (show t < os.length by omega)) hqq
  rw [(hq0 q hq).2]
  exact ⟨z3,by rw [(evN_ok z3).1]⟩
 have hbk:∀ k:Nat,4096+(k:Int)*(endH x).pw=bs h k:=fun k=>by rw [s1];rfl
 have htaken:∀ (k:Nat),(k:Int)∈x.taken->∃ l,pageE (endH x) k=0/\pageV (endH x) k=l/\∀ q,q∈l↔q∈x.queue/\bs h k<=q/\q < bs h k+h.pw:=fun k ht=>by
  obtain ⟨k2,g1,g,e0,e1,-⟩:=I.tk _ ht
  obtain rfl:k=k2:=by omega
  obtain ⟨-,-,u,e,e',u0,u1⟩:=(end_pages G C e1).tk ht
  obtain ⟨u',l,t1,t2,t3⟩:=C.tile k ht
  rw [e'] at t1;injection t1 with t1;injection t1 with _ _ t1 _
  subst t1
  obtain ⟨r1,r2⟩:=small_page ok e rfl u0 (by rw [s1];exact u1) (sz:=evN x) (l:=l) (by rw [hbk];exact t2) fun q hq=>by
   obtain ⟨z1,z2⟩:=hqd q ((t3 q).1 hq).1
   exact ⟨z1,by omega⟩
  exact ⟨l,r1,r2,t3⟩
 have hpinned:∀ (k:Nat) (g0:Pg),h.pages[k]?=some g0->g0.kind=1->0 < g0.pins->pageE (endH x) k=0/\pageV (endH x) k=pageV h k:=fun k g0 hg h1 hp=>by
  have hkl:=(List.getElem?_eq_some_iff.1 hg).1
  obtain ⟨t1,t2,t3,t4⟩:=small_tile G.ok hg h1 (G.pg k hkl)
  refine small_page ok ((end_pages G C hg).k1 h1 hp).2 rfl t1 (by rw [s1];exact t2) (sz:=osz h) (by rw [hbk];exact t3) fun c hc=>?_
  obtain ⟨w1,w2,-⟩:=pinned_word G C hg h1 hp hc
  exact ⟨w1,w2.symm⟩
 have hlarge:∀ (k:Nat) (g0:Pg),h.pages[k]?=some g0->g0.kind=2->bs h k∈x.queue->pageE (endH x) k=0/\pageV (endH x) k=[bs h k]:=fun k g0 hg h2 hq=>by
  have hkl:=(List.getElem?_eq_some_iff.1 hg).1
  obtain ⟨t1,t2,t3,t4⟩:=large_one G.ok hg h2 (G.pg k hkl)
  have hob:bs h k∈objectsV h:=by
   rcases I.qs _ hq with c | c
   · exact c
   · exfalso
     obtain ⟨k3,g3,d1,d2,d3,d4,d5,d6,d7⟩:=I.copy c
     have:=bs_uniq (h:=h) (p:=bs h k) (by omega) (k:=k) (k':=k3) (by omega) (by omega) (by have e3:bs h k3=4096+(k3:Int)*h.pw:=rfl;omega) (by have e3:bs h k3=4096+(k3:Int)*h.pw:=rfl;omega)
     subst this
     rw [hg] at d1;injection d1 with d1;subst d1;omega
  have hw:wordAt (endH x) (bs h k)=wordAt h (bs h k):=by
   rw [(hq0 _ hq).2,I.kept hob hq,word_load (hq0 _ hq).1]
  obtain ⟨r1,r2,-⟩:=large_page ok ((end_pages G C hg).k2 h2 hq).2 rfl (by rw [hbk,hw];exact t2) (by rw [hbk,hw];exact t3)
  exact ⟨r1,by rw [r2,hbk]⟩
 refine ⟨fun k hk=>?_,fun k g0 hg h1 hp=>(hpinned k g0 hg h1 hp).2,fun q hq=>?_⟩
 · have hg:h.pages[k]?=some h.pages[k]:=List.getElem?_eq_getElem hk
   generalize h.pages[k]=g0 at hg
   have E:=end_pages G C hg
   rcases (properL_mem _ _ _ _ p7 g0 (List.mem_of_getElem? hg)).2.2.2.2.2.2.2.2 with c | c | c | c
   · by_cases ht:(k:Int)∈x.taken
     · obtain ⟨l,r1,r2,r3⟩:=htaken k ht
       exact ⟨r1,fun q hq=>.inl ((r3 q).1 (by rw [<-r2];exact hq))⟩
     · obtain ⟨r1,r2⟩:=none_page ok (E.k0 ht c).2 (.inl c)
       exact ⟨r1,fun q hq=>by rw [r2] at hq;cases hq⟩
   · by_cases hp:0 < g0.pins
     · obtain ⟨r1,r2⟩:=hpinned k g0 hg c hp
       refine ⟨r1,fun q hq=>?_⟩
       rw [r2] at hq
       by_cases hqq:q∈x.queue
       · left
         obtain ⟨t1,t2,t3,t4⟩:=small_tile G.ok hg c (G.pg k hk)
         have:=tile_mem t3 q hq
         refine ⟨hqq,?_⟩
         unfold bs;omega
       · exact .inr ⟨g0,hg,c,hp,hq,hqq⟩
     · obtain ⟨r1,r2⟩:=none_page ok (E.k1' c hp).2 (.inl rfl)
       exact ⟨r1,fun q hq=>by rw [r2] at hq;cases hq⟩
   · by_cases hq:bs h k∈x.queue
     · obtain ⟨r1,r2⟩:=hlarge k g0 hg c hq
       refine ⟨r1,fun q hq2=>?_⟩
       rw [r2] at hq2
       rw [List.mem_singleton.1 hq2]
       exact .inl ⟨hq,by omega,by omega⟩
     · obtain ⟨r1,r2⟩:=none_page ok (E.k2' c hq).2 (.inl rfl)
       exact ⟨r1,fun q hq=>by rw [r2] at hq;cases hq⟩
   · by_cases hq:bs h (headAt h.pages k)∈x.queue
     · obtain ⟨r1,r2⟩:=none_page ok (E.k3 c hq).2 (.inr rfl)
       exact ⟨r1,fun q hq=>by rw [r2] at hq;cases hq⟩
     · obtain ⟨r1,r2⟩:=none_page ok (E.k3' c hq).2 (.inl rfl)
       exact ⟨r1,fun q hq=>by rw [r2] at hq;cases hq⟩
 · rcases I.qs q hq with c | c
   · obtain ⟨i,j,g,b⟩:=objects_begin c
     rcases C.kp q hq c i j g b with k2 | ⟨k1,kp⟩
     · have hqb:q=bs h i:=by
        rcases b.kd with ⟨z,-⟩ | ⟨-,z,-⟩
        · omega
        · have:=b.ad;unfold bs;omega
       refine ⟨i,b.il,?_⟩
       rw [(hlarge i g b.pg k2 (by rw [<-hqb];exact hq)).2]
       exact List.mem_singleton.2 hqb
     · obtain ⟨k',hk',hx⟩:=(starts_mem G.ok G.pg).1 (obj_start.1 c).1
       obtain ⟨j',g',b'⟩:=page_begins G.ok hk' hx
       have:k'=i:=by have h1:=b.oi;have h2:=b'.oi;omega
       subst this
       exact ⟨k',hk',by rw [(hpinned k' g b.pg k1 kp).2];exact hx⟩
   · obtain ⟨k,g,d1,d2,d3,d4,d5⟩:=c
     obtain ⟨k3,y0,y3,l0,l1,l2,l3,l4,l5,l6⟩:=I.tk _ d1
     obtain rfl:k=k3:=by omega
     rw [d2] at l3;injection l3 with l3;subst l3
     rw [I.pw] at d3 d5
     obtain ⟨l,r1,r2,r3⟩:=htaken k d1
     have:=(evN_ok d4).1
     refine ⟨k,(List.getElem?_eq_some_iff.1 l1).1,?_⟩
     rw [r2]
     exact (r3 q).2 ⟨hq,by unfold bs;omega,by unfold bs;omega⟩
theorem good_end {h:Hp} {x:Wk} {os:List Int} (G:Good h) (C:CI h x os (fun t _=>t < os.length)) :
 Good (endH x)/\(∀ c,c∈objectsV (endH x)↔c∈x.queue)/\(∀ (i:Nat) (o q:Int),os[i]?=some o->x.queue[i]?=some q->atH (endH x) q=atH h o/\∀ j,0<=j->j < (atH h o).n->loadV (endH x).words (q+1+j)=loadV x.h.words (q+1+j)):=by
 have I:=C.inv
 have hcf:=I.conf
 have ok:=end_ok G C
 obtain ⟨s1,s2,s3,s4,s5,s6⟩:=end_same I
 have p7:=(okH_parts I.ok).2.2.2.2.2.2
 have hc:=(okH_parts I.ok).1
 obtain ⟨l1,l2,l3⟩:=end_layout G C
 have hlen:=C.len
 have hidx:∀ q∈x.queue,∃ (i:Nat) (o:Int),os[i]?=some o/\x.queue[i]?=some q:=fun q hq=>by
  obtain ⟨t,ht,e⟩:=List.mem_iff_getElem.1 hq
  exact ⟨t,os[t],List.getElem?_eq_getElem (by omega),by rw [List.getElem?_eq_getElem ht,e]⟩
 have hpe:∀ k:Nat,k < (endH x).pages.length->pageE (endH x) k=0:=fun k hk=>(l1 k (by omega)).1
 have hst:∀ c,c∈startsV (endH x)↔∃ k:Nat,k < h.pages.length/\c∈pageV (endH x) k:=fun c=>by rw [starts_mem ok hpe,s4]
 have hat:∀ (i:Nat) (o q:Int),os[i]?=some o->x.queue[i]?=some q->atH (endH x) q=atH h o:=fun i o q h1 h2=>by
  have hqm:=List.mem_of_getElem? h2
  have hob:=C.oin o (List.mem_of_getElem? h1)
  obtain ⟨z1,z2,z3,z4⟩:=C.size h1 h2
  have e1:=startsV_at ((hst q).2 (l3 q hqm))
  obtain ⟨i5,j5,g5,b5⟩:=begins e1
  obtain ⟨i6,j6,g6,b6⟩:=objects_begin hob
  have hb:=I.queue_bd hqm
  have hw:=queue_words G C hqm (j:=0) (by omega) (by rw [z1];have:=b6.pos;omega)
  rw [Int.add_zero] at hw
  have:wordAt (endH x) q=wordAt h o:=by rw [word_load hb.1,hw];exact z4
  rw [b5.hd,b6.hd,this]
 have hpin:∀ (k:Nat) (g0:Pg),h.pages[k]?=some g0->g0.kind=1->0 < g0.pins->∀ c∈pageV h k,(c∈objectsV h->¬c∈x.queue->(atH (endH x) c).k=0/\(atH (endH x) c).n=(atH h c).n/\∀ j,1<=j->j < osz h c->loadV (endH x).words (c+j)=0)/\((¬c∈objectsV h\/c∈x.queue)->atH (endH x) c=atH h c):=fun k g0 hg h1 hp c hcm=>by
  have hkl:=(List.getElem?_eq_some_iff.1 hg).1
  obtain ⟨w1,w2,w3,w4⟩:=pinned_word G C hg h1 hp hcm
  have e1:atE (endH x) c=0:=pageV_at (h:=endH x) (i:=(k:Int)) (by rw [l2 k g0 hg h1 hp];exact hcm)
  obtain ⟨i5,j5,g5,b5⟩:=begins e1
  obtain ⟨i6,j6,g6,b6⟩:=begins (pageV_at hcm)
  refine ⟨fun c1 c2=>?_,fun c1=>by rw [b5.hd,b6.hd,w4 c1]⟩
  obtain ⟨v1,v2⟩:=w3 c1 c2
  refine ⟨?_,?_,v2⟩
  · rw [b5.hd];show (dK (wordAt (endH x) c):Int)=0;omega
  · rw [b5.hd]
    show (dN (wordAt (endH x) c):Int)=(atH h c).n
    unfold osz at w2;omega
 have hob:∀ c,c∈objectsV (endH x)↔c∈x.queue:=fun c=>by
  rw [obj_start,hst]
  constructor
  · rintro ⟨⟨k,hk,hcm⟩,hk0⟩
    rcases (l1 k hk).2 c hcm with q | ⟨g0,hg,h1,hp,hcv,hnq⟩
    · exact q.1
    · exfalso
      obtain ⟨v1,v2⟩:=hpin k g0 hg h1 hp c hcv
      by_cases ho:c∈objectsV h
      · exact hk0 (v1 ho hnq).1
      · rw [v2 (.inl ho)] at hk0
        exact ho (obj_start.2 ⟨(starts_mem G.ok G.pg).2 ⟨k,hk,hcv⟩,hk0⟩)
  · intro hq
    obtain ⟨i,o,h1,h2⟩:=hidx c hq
    refine ⟨l3 c hq,?_⟩
    rw [hat i o c h1 h2]
    exact (objectsV_at (C.oin o (List.mem_of_getElem? h1))).2
 have hfw:∀ (i:Nat) (o q:Int),os[i]?=some o->x.queue[i]?=some q->∀ j,0<=j->j < (atH h o).n->loadV (endH x).words (q+1+j)=loadV x.h.words (q+1+j):=fun i o q h1 h2 j j0 j1=>by
  obtain ⟨z1,-,-,-⟩:=C.size h1 h2
  have:=queue_words G C (List.mem_of_getElem? h2) (j:=j+1) (by omega) (by rw [z1];unfold osz;omega)
  rwa [show q+(j+1)=q+1+j from by omega] at this
 have hback:∀ (k:Nat) (y:Pg),(endH x).pages[k]?=some y->∃ g0,h.pages[k]?=some g0:=fun k y hy=>by
  have:=(List.getElem?_eq_some_iff.1 hy).1
  exact ⟨h.pages[k],List.getElem?_eq_getElem (by omega)⟩
 refine ⟨⟨ok,fun k y hy=>?_,hpe,fun k y hy c hcm=>?_,fun p p0 p1=>?_,fun a ha i hi=>?_,?_⟩,hob,fun i o q h1 h2=>⟨hat i o q h1 h2,hfw i o q h1 h2⟩⟩
 ·
  obtain ⟨g0,hg⟩:=hback k y hy
  have E:=end_pages G C hg
  rw [s3]
  rcases (properL_mem _ _ _ _ p7 g0 (List.mem_of_getElem? hg)).2.2.2.2.2.2.2.2 with c | c | c | c
  · by_cases ht:(k:Int)∈x.taken
    · obtain ⟨-,-,u,e,-⟩:=E.tk ht
      rw [e] at hy;injection hy with hy;subst hy;exact .inr rfl
    · rw [(E.k0 ht c).2] at hy;injection hy with hy;subst hy;exact .inl c
  · by_cases hp:0 < g0.pins
    · rw [(E.k1 c hp).2] at hy;injection hy with hy;subst hy;exact .inr rfl
    · rw [(E.k1' c hp).2] at hy;injection hy with hy;subst hy;exact .inl rfl
  · by_cases hq:bs h k∈x.queue
    · rw [(E.k2 c hq).2] at hy;injection hy with hy;subst hy;exact .inr rfl
    · rw [(E.k2' c hq).2] at hy;injection hy with hy;subst hy;exact .inl rfl
  · by_cases hq:bs h (headAt h.pages k)∈x.queue
    · rw [(E.k3 c hq).2] at hy;injection hy with hy;subst hy;exact .inr rfl
    · rw [(E.k3' c hq).2] at hy;injection hy with hy;subst hy;exact .inl rfl
 ·
  obtain ⟨g0,hg⟩:=hback k y hy
  have hk:=(List.getElem?_eq_some_iff.1 hg).1
  have E:=end_pages G C hg
  have hce:atE (endH x) c=0:=pageV_at hcm
  rw [s1,s2]
  rcases (l1 k hk).2 c hcm with ⟨hq,hr1,hr2⟩ | ⟨g1,hg1,h1,hp,hcv,hnq⟩
  · obtain ⟨i,o,i1,i2⟩:=hidx c hq
    have hoo:=C.oin o (List.mem_of_getElem? i1)
    obtain ⟨i6,j6,g6,b6⟩:=objects_begin hoo
    have hocl:∀ (kk:Nat) (gg:Pg),h.pages[kk]?=some gg->o∈pageV h kk->(gg.kind=1->sizeV (atH h o).k (atH h o).n (atH h o).m<=smallV h.pw h.np):=fun kk gg hgg hom=>(G.cls kk gg hgg o hom).1
    rw [hat i o c i1 i2]
    refine ⟨fun hy1=>?_,fun _=>(objectsV_at hoo).2⟩
    obtain ⟨k',hk',hom⟩:=(starts_mem G.ok G.pg).1 (obj_start.1 hoo).1
    obtain ⟨j',g',b'⟩:=page_begins G.ok hk' hom
    refine hocl k' g' b'.pg hom ?_
    rcases C.plc i o c i1 i2 with e | ⟨-,-,-,e⟩
    · subst e
      have:k'=k:=bs_uniq (h:=h) (by omega) (obj_on b').1 (obj_on b').2 hr1 hr2
      subst this
      have hgg:g'=g0:=by have:=b'.pg;rw [hg] at this;injection this with this;exact this.symm
      subst hgg
      rcases b'.kd with ⟨z,-⟩ | ⟨z,-⟩
      · exact z
      · exfalso
        by_cases hqq:bs h k'∈x.queue
        · rw [(E.k2 z hqq).2] at hy;injection hy with hy;subst hy;cases hy1
        · rw [(E.k2' z hqq).2] at hy;injection hy with hy;subst hy;cases hy1
    · exact e _ _ _ b'
  · rw [hg] at hg1;injection hg1 with hg1;subst hg1
    obtain ⟨v1,v2⟩:=hpin k g0 hg h1 hp c hcv
    have hcl:=(G.cls k g0 hg c hcv).1 h1
    refine ⟨fun _=>?_,fun hy2=>?_⟩
    · by_cases ho:c∈objectsV h
      · obtain ⟨w1,w2,-⟩:=v1 ho hnq
        have hvv:=(at_in hce).2.1
        rw [size_ok hvv,w2]
        rw [size_ok (at_in (pageV_at hcv)).2.1] at hcl
        exact hcl
      · rw [v2 (.inl ho)];exact hcl
    · rw [(E.k1 h1 hp).2] at hy;injection hy with hy;subst hy;cases hy2
 ·
  rw [s1,s2] at p1
  obtain ⟨k,t,e,hk,ht⟩:=page_split hc p0 p1
  have hkl:k < h.pages.length:=by omega
  have hb1:bs h k<=p:=by unfold bs;omega
  have hb2:p < bs h k+h.pw:=by unfold bs;omega
  have hg:h.pages[k]?=some h.pages[k]:=List.getElem?_eq_getElem hkl
  generalize h.pages[k]=g0 at hg
  have E:=end_pages G C hg
  have hW:=end_words C hkl hb1 hb2
  obtain ⟨f1,f2⟩:=fill_facts C
  have gen:frB (fillW x) k=false->¬g0.kind=0->(∀ c∈objectsV h,c<=p->p < c+osz h c->¬c∈x.queue->∃ (kc:Nat) (gc:Pg),h.pages[kc]?=some gc/\gc.kind=1/\0 < gc.pins/\c∈pageV h kc)->(∀ c∈pageV h k,¬c∈objectsV h->g0.kind=1/\0 < g0.pins) ->
   (∃ c∈startsV (endH x),c<=p/\p < c+usedZ (endH x) c)\/loadV (endH x).words p=0:=fun hnf hk0 hgo hfil=>by
   by_cases hobj:∃ c∈objectsV h,c<=p/\p < c+osz h c
   · obtain ⟨c,hco,c1,c2⟩:=hobj
     by_cases hq:c∈x.queue
     · left
       refine ⟨c,(hst c).2 (l3 c hq),c1,?_⟩
       obtain ⟨i,o,i1,i2⟩:=hidx c hq
       have ha:=hat i o c i1 i2
       have hok1:=(obj_start.1 ((hob c).2 hq)).2
       have hv:=(at_in (startsV_at ((hst c).2 (l3 c hq)))).2.1
       have hn:(atH (endH x) c).n+1=osz h c:=by
        obtain ⟨z1,-,-,-⟩:=C.size i1 i2
        rw [(old_ev hco (I.kept hco hq)).2.1] at z1
        rw [ha,z1];rfl
       unfold usedZ
       rw [if_neg hok1,size_ok hv,hn];exact c2
     · obtain ⟨kc,gc,hgc,g1,g2,hcv⟩:=hgo c hco c1 c2 hq
       obtain ⟨v1,v2,v3⟩:=(hpin kc gc hgc g1 g2 c hcv).1 hco hq
       by_cases ep:p=c
       · left
         refine ⟨c,(hst c).2 ⟨kc,(List.getElem?_eq_some_iff.1 hgc).1,by rw [l2 kc gc hgc g1 g2];exact hcv⟩,c1,?_⟩
         unfold usedZ
         rw [if_pos v1];omega
       · right
         have:=v3 (p - c) (by omega) (by omega)
         rwa [show c+(p - c)=p from by omega] at this
   · have hno:∀ a∈objectsV h,p < a\/a+osz h a<=p:=fun a ha=>by
      refine Decidable.by_contra fun z=>hobj ⟨a,ha,by omega,by omega⟩
     have hx:loadV (endH x).words p=loadV h.words p:=by
      rw [hW,hnf]
      show loadV (fillW x).h.words p=_
      rw [f1 p (fun a ha _=>hno a ha),C.ot p hno fun k2 y hy hk2=>?_]
      refine Decidable.by_contra fun z=>?_
      have:=bs_uniq (h:=h) (p:=p) (by omega) (k:=k2) (k':=k) (by omega) (by omega) hb1 hb2
      subst this
      rw [hg] at hy;injection hy with hy;subst hy;exact hk0 hk2
     rcases G.zero p p0 (by omega) with ⟨c,hcs,c1,c2⟩ | e0
     · left
       have hcn:¬c∈objectsV h:=fun ho=>by
        have hz:=usedZ_osz (startsV_at hcs)
        have:=hno c ho
        omega
       have hck:(atH h c).k=0:=Decidable.by_contra fun z=>hcn (obj_start.2 ⟨hcs,z⟩)
       have hpc:p=c:=by unfold usedZ at c2;rw [if_pos hck] at c2;omega
       obtain ⟨k',hk',hcv⟩:=(starts_mem G.ok G.pg).1 hcs
       obtain ⟨j',g',b'⟩:=page_begins G.ok hk' hcv
       have:k'=k:=bs_uniq (h:=h) (by omega) (obj_on b').1 (obj_on b').2 (by omega) (by omega)
       subst this
       obtain ⟨g1,g2⟩:=hfil c hcv hcn
       refine ⟨c,(hst c).2 ⟨k',hk',by rw [l2 k' g0 hg g1 g2];exact hcv⟩,c1,?_⟩
       unfold usedZ
       rw [(hpin k' g0 hg g1 g2 c hcv).2 (.inl hcn),if_pos hck];omega
     · right;rw [hx];exact e0
  rcases (properL_mem _ _ _ _ p7 g0 (List.mem_of_getElem? hg)).2.2.2.2.2.2.2.2 with c | c | c | c
  · have hxz:(¬(k:Int)∈x.taken\/∃ g,x.h.pages[k]?=some g/\bs h k+g.used<=p)->loadV (endH x).words p=0:=fun hz=>by
     rw [hW]
     split
     · rfl
     · rw [f1 p fun a ha _=>?_]
       · exact C.fr k g0 p hg c hb1 hb2 hz
       · obtain ⟨i3,j3,g3,b3⟩:=objects_begin ha
         have:=begins_free b3 hg c
         unfold bs at hb1 hb2
         omega
    by_cases ht:(k:Int)∈x.taken
    · obtain ⟨u,l,t1,t2,t3⟩:=C.tile k ht
      by_cases hu:bs h k+u<=p
      · exact .inr (hxz (.inr ⟨_,t1,hu⟩))
      · left
        obtain ⟨q,hq,q1,q2⟩:=tile_cover t2 hb1 (by omega)
        have hqq:=((t3 q).1 hq).1
        refine ⟨q,(hst q).2 (l3 q hqq),q1,?_⟩
        obtain ⟨i,o,i1,i2⟩:=hidx q hqq
        have hv:=(at_in (startsV_at ((hst q).2 (l3 q hqq)))).2.1
        unfold usedZ
        rw [if_neg (obj_start.1 ((hob q).2 hqq)).2,size_ok hv,hat i o q i1 i2]
        obtain ⟨z1,-,-,-⟩:=C.size i1 i2
        rw [z1] at q2
        exact q2
    · exact .inr (hxz (.inl ht))
  · by_cases hp:0 < g0.pins
    · refine gen (E.k1 c hp).1 (by omega) (fun a ha a1 a2 _=>?_) fun a _ _=>⟨c,hp⟩
      obtain ⟨k',hk',hav⟩:=(starts_mem G.ok G.pg).1 (obj_start.1 ha).1
      obtain ⟨j',g',b'⟩:=page_begins G.ok hk' hav
      have hon:=obj_on b'
      obtain ⟨u1,u2,u3,u4⟩:=b'.upto
      have hkk:k'=k:=by
       have hlo:¬k < k':=fun z=>by have:=bs_lt (h:=h) (by omega) z;omega
       refine Decidable.by_contra fun z=>?_
       have hlt:k' < k:=by omega
       have hhi:(k:Int) < k'+pspan h g':=by
        refine Decidable.by_contra fun z2=>?_
        have:((k':Int)+pspan h g')*h.pw<=(k:Int)*h.pw:=Int.mul_le_mul_of_nonneg_right (by omega) (by omega)
        unfold bs at hb1;omega
       obtain ⟨y,y1,y2⟩:=u4 k hlt hhi
       rw [hg] at y1;injection y1 with y1;subst y1;omega
      subst hkk
      exact ⟨k',g0,hg,c,hp,hav⟩
    · right;rw [hW,(E.k1' c hp).1];rfl
  · by_cases hq:bs h k∈x.queue
    · refine gen (E.k2 c hq).1 (by omega) (fun a ha a1 a2 hnq=>?_) fun a hav hno=>?_
      · exfalso
        obtain ⟨t1,t2,t3,t4⟩:=large_one G.ok hg c (G.pg k hkl)
        obtain ⟨k',hk',hav⟩:=(starts_mem G.ok G.pg).1 (obj_start.1 ha).1
        obtain ⟨j',g',b'⟩:=page_begins G.ok hk' hav
        have hon:=obj_on b'
        obtain ⟨u1,u2,u3,u4⟩:=b'.upto
        have hkk:k'=k:=by
         have hlo:¬k < k':=fun z=>by have:=bs_lt (h:=h) (by omega) z;omega
         refine Decidable.by_contra fun z=>?_
         have hlt:k' < k:=by omega
         have hhi:(k:Int) < k'+pspan h g':=by
          refine Decidable.by_contra fun z2=>?_
          have:((k':Int)+pspan h g')*h.pw<=(k:Int)*h.pw:=Int.mul_le_mul_of_nonneg_right (by omega) (by omega)
          unfold bs at hb1;omega
         obtain ⟨y,y1,y2⟩:=u4 k hlt hhi
         rw [hg] at y1;injection y1 with y1;subst y1;omega
        subst hkk
        rw [t1] at hav
        rw [List.mem_singleton.1 hav] at hnq
        exact hnq hq
      · exfalso
        exact hno (obj_start.2 ⟨(starts_mem G.ok G.pg).2 ⟨k,hkl,hav⟩,(G.cls k g0 hg a hav).2 c⟩)
    · right;rw [hW,(E.k2' c hq).1];rfl
  · by_cases hq:bs h (headAt h.pages k)∈x.queue
    · obtain ⟨r1,r2⟩:=none_page G.ok hg (.inr c)
      refine gen (E.k3 c hq).1 (by omega) (fun a ha a1 a2 hnq=>?_) fun a hav hno=>by rw [r2] at hav;cases hav
      exfalso
      obtain ⟨l,yl,l1',l2',l3',l4'⟩:=tail_head I.ok hg c
      rw [l2'] at hq
      obtain ⟨k',hk',hav⟩:=(starts_mem G.ok G.pg).1 (obj_start.1 ha).1
      obtain ⟨j',g',b'⟩:=page_begins G.ok hk' hav
      have hon:=obj_on b'
      obtain ⟨u1,u2,u3,u4⟩:=b'.upto
      have hkd:g'.kind=1\/g'.kind=2:=by rcases b'.kd with ⟨z,-⟩ | ⟨z,-⟩ <;> omega
      have hne:k'≠k:=fun z=>by subst z;have:=b'.pg;rw [hg] at this;injection this with this;subst this;omega
      have hlo:¬k < k':=fun z=>by have:=bs_lt (h:=h) (by omega) z;omega
      have hlt:k' < k:=by omega
      have hhi:(k:Int) < k'+pspan h g':=by
       refine Decidable.by_contra fun z2=>?_
       have:((k':Int)+pspan h g')*h.pw<=(k:Int)*h.pw:=Int.mul_le_mul_of_nonneg_right (by omega) (by omega)
       unfold bs at hb1;omega
      have hhd:headAt h.pages k=k':=by
       obtain ⟨d,rfl⟩:∃ d,k=k'+d:=⟨k - k',by omega⟩
       refine headAt_is (by rw [getD_at b'.pg];omega) d fun t2 w1 w2=>?_
       obtain ⟨y',y1',y2'⟩:=u4 t2 w1 (by omega)
       rw [getD_at y1'];exact y2'
      rw [hhd] at l2'
      subst l2'
      have hgg:g'=yl:=by have:=b'.pg;rw [l3'] at this;injection this with this;exact this.symm
      subst hgg
      have hab:a=bs h k':=by
       rcases b'.kd with ⟨z,-⟩ | ⟨-,z,-⟩
       · omega
       · have:=b'.ad;unfold bs;omega
      rw [<-hab] at hq
      exact hnq hq
    · right;rw [hW,(E.k3' c hq).1];rfl
 ·
  have hq:=(hob a).1 ha
  obtain ⟨t,o,i1,i2⟩:=hidx a hq
  rw [hat t o a i1 i2] at hi
  obtain ⟨-,z0,z1⟩:=ptr_lt hi
  rw [hfw t o a i1 i2 i z0 z1,hob]
  rcases (C.fl t o a i1 i2 i z0 z1).1 (List.getElem?_eq_some_iff.1 i1).1 hi with ⟨-,e⟩ | ⟨t2,-,e⟩
  · exact .inl e
  · exact .inr (List.mem_of_getElem? e)
 ·
  rw [s2]
  have:=crowd_le h.pages (endH x).pages s4.symm fun k a b ha hb hbk=>by
   have E:=end_pages G C ha
   rcases (properL_mem _ _ _ _ p7 a (List.mem_of_getElem? ha)).2.2.2.2.2.2.2.2 with c | c | c | c
   · by_cases ht:(k:Int)∈x.taken
     · obtain ⟨-,-,u,e,-⟩:=E.tk ht
       rw [e] at hb;injection hb with hb;subst hb;exact absurd hbk.2 (by show ¬(0:Int) < 0;decide)
     · rw [(E.k0 ht c).2] at hb;injection hb with hb;subst hb;omega
   · by_cases hp:0 < a.pins
     · exact ⟨c,hp⟩
     · rw [(E.k1' c hp).2] at hb;injection hb with hb;subst hb;exact absurd hbk.1 (by decide)
   · by_cases hq:bs h k∈x.queue
     · rw [(E.k2 c hq).2] at hb;injection hb with hb;subst hb;exact absurd hbk.1 (by show ¬(2:Int)=1;decide)
     · rw [(E.k2' c hq).2] at hb;injection hb with hb;subst hb;exact absurd hbk.1 (by decide)
   · by_cases hq:bs h (headAt h.pages k)∈x.queue
     · rw [(E.k3 c hq).2] at hb;injection hb with hb;subst hb;exact absurd hbk.1 (by show ¬(3:Int)=1;decide)
     · rw [(E.k3' c hq).2] at hb;injection hb with hb;subst hb;exact absurd hbk.1 (by decide)
  have:=G.crowd
  omega
theorem coll_facts {h:Hp} {st wk:List Int} (G:Good h) (hwb:WB h.words) (hst:∀ a∈st,a=0\/a∈objectsV h) (hE:collE h st wk=0):∃ os,CI h (collX h st wk) os (fun t _=>t < os.length)/\collH h st wk=endH (collX h st wk) /\
 (collS h st).length=st.length/\(∀ (i:Nat) (r w:Int),st[i]?=some r->(collS h st)[i]?=some w->Fw os (collX h st wk).queue r w):=by
 obtain ⟨e1,e2⟩:(collR h st).2.2=0/\(collA h st).2=0:=by
  unfold collE at hE
  rw [if_pos G.ok] at hE
  split at hE
  · by_cases c:(collR h st).2.2=0
    · rw [if_pos c] at hE;exact ⟨c,hE⟩
    · rw [if_neg c] at hE;exact absurd hE c
  · exact absurd hE (by decide)
 obtain ⟨os1,out,C1,r1,r2,r3,⟨m1,r4⟩,⟨m2,r5⟩,r6⟩:=CI_roots st (beginW h) [] [] (fun _ _=>False) (CI.begin G hwb) hst e1
 have C2:CI h (collR h st).1 os1 (fun t _=>t < 0):=C1.congr (fun i j d=>by omega) (fun i o _ j _=>⟨fun d=>d.elim,fun d=>by omega⟩)
 obtain ⟨os,C3,⟨m3,q1⟩,⟨m4,q2⟩⟩:=CI_all G ((objectsV h).length+1) (collR h st).1 0 os1 C2 (by show (rootsGo (beginW h) [] st).1.sc=_;rw [r6];rfl) (by omega) (by omega) e2
 refine ⟨os,⟨C3.inv.reports _ _ _ _ _ _ _,C3.len,C3.dl,C3.oin,C3.qnd,C3.seen,C3.plc,C3.hd,C3.fl,C3.un,C3.ot,C3.fr,C3.tile,C3.ppg,C3.kp,C3.wb⟩,rfl,?_,fun i r w h1 h2=>?_⟩
 · show (rootsGo (beginW h) [] st).2.1.length=_
   rw [r1];simpa using r2
 · have h2:(rootsGo (beginW h) [] st).2.1[i]?=some w:=h2
   rw [r1,List.nil_append] at h2
   exact (r3 i r w h1 h2).more ⟨_,q1⟩ ⟨_,q2⟩
theorem coll_good:CollGood:=by
 intro x G hE
 obtain ⟨os,C,eH,eL,eF⟩:=coll_facts G.good G.wb G.st hE
 obtain ⟨g1,g2,-⟩:=good_end G.good C
 have hq:∀ r w,Fw os (collX x.h x.st x.wk).queue r w->w=0\/w∈objectsV (collH x.h x.st x.wk):=fun r w hf=>by
  rw [eH,g2]
  rcases hf with ⟨-,e⟩ | ⟨t,-,e⟩
  · exact .inl e
  · exact .inr (List.mem_of_getElem? e)
 refine ⟨by show Good (collH x.h x.st x.wk);rw [eH];exact g1,?_,fun a ha=>?_,fun a ha=>?_⟩
 · show WB (collH x.h x.st x.wk).words
   exact frWs_wb _ (fill_wb _ _ C.wb) _
 · have ha:a∈collS x.h x.st:=ha
   obtain ⟨i,hi,e⟩:=List.mem_iff_getElem.1 ha
   exact hq _ a (eF i x.st[i] a (List.getElem?_eq_getElem (by omega)) (by rw [List.getElem?_eq_getElem hi,e]))
 · have ha:a∈x.wk.map (leftV (collA x.h x.st).1):=ha
   obtain ⟨r,hr,e⟩:=List.mem_map.1 ha
   rw [<-e]
   show leftV (collA x.h x.st).1 r=0\/leftV (collA x.h x.st).1 r∈objectsV (collH x.h x.st x.wk)
   unfold leftV
   by_cases c:r=0
   · rw [if_pos c];exact .inl rfl
   rw [if_neg c]
   have hro:=(G.wk r hr).resolve_left c
   rw [eH,g2]
   show afterV (collX x.h x.st x.wk) r=0\/afterV (collX x.h x.st x.wk) r∈_
   unfold afterV
   by_cases c1:r∈(collX x.h x.st x.wk).queue
   · rw [if_pos c1];exact .inr c1
   rw [if_neg c1]
   by_cases c2:okT (evWd (collX x.h x.st x.wk) r).toNat=true
   · have hin:=(C.seen r hro).2 (.inr c2)
     obtain ⟨t,ht,e2⟩:=List.mem_iff_getElem.1 hin
     have hlen:=C.len
     have hos:os[t]?=some r:=by rw [List.getElem?_eq_getElem ht,e2]
     have hqq:(collX x.h x.st x.wk).queue[t]?=some (collX x.h x.st x.wk).queue[t]:=List.getElem?_eq_getElem (by omega)
     rcases C.plc t r _ hos hqq with q | ⟨-,q,-⟩
     · exact absurd (by rw [<-q];exact List.getElem_mem _) c1
     · right;rw [q];exact List.getElem_mem _
   · left;exact tgt_no (by simpa using c2)
theorem made_gw (n:Nat) (x:Wd) (hm:Made n x) (hn:n<=400):GW x:=made_good coll_good n x hm hn
end Go.VI.P
namespace Go.VI
open Go
namespace P
theorem no_tail_after {h:Hp} (hok:okH h=true) {j:Nat} {g g':Pg} (hg:h.pages[j]?=some g) (h0:g.kind=0) (hg':h.pages[j+1]?=some g'):¬g'.kind=3:=by
 have p7:=(okH_parts hok).2.2.2.2.2.2
 have hj:=(List.getElem?_eq_some_iff.1 hg).1
 have hj':=(List.getElem?_eq_some_iff.1 hg').1
 have a1:=proper_at p7 j (by omega)
 have a2:=proper_at p7 (j+1) (by omega)
 have d0:=due_nonneg h.pw h.np h.pages j
 have step:∀ {x:Pg} {r:List Pg} {due:Int},stepP h.pw h.np x r due≠none->(x.kind=3↔0 < due):=fun {x r due} hs=>by
  unfold stepP at hs
  by_cases c:¬(x.kind=3↔0 < due)\/x.space < 0\/1 < x.space\/pinsB x.pins=false
  · rw [if_pos c] at hs;exact absurd rfl hs
  · exact Classical.not_not.1 fun c1=>c (.inl c1)
 have s1:stepP h.pw h.np g (h.pages.drop (j+1)) (dueAt h.pw h.np h.pages j)≠none:=fun c=>by
  rw [proper_bad hg c] at a1;cases a1
 have s2:stepP h.pw h.np g' (h.pages.drop (j+1+1)) (dueAt h.pw h.np h.pages (j+1))≠none:=fun c=>by
  rw [proper_bad hg' c] at a2;cases a2
 have e1:=step s1
 have e2:=step s2
 have e3:dueAt h.pw h.np h.pages (j+1)=max 0 (dueAt h.pw h.np h.pages j - 1):=by
  rw [dueAt,getD_at hg,if_neg (by omega)]
 rw [e3] at e2
 omega
theorem inUse_rep {x:Pg} (h:¬x.kind=0):∀ k:Nat,inUse (List.replicate k x)=k
 | 0=>rfl
 | k+1=>by rw [List.replicate_succ,inUse,inUse_rep h k,if_neg h];omega
end P
theorem and_one (x:Int):0<=bits2 IntKind.i64 (fun (x1 x2:BitVec IntKind.i64.bits)=>x1 &&& x2) x 1/\bits2 IntKind.i64 (fun (x1 x2:BitVec IntKind.i64.bits)=>x1 &&& x2) x 1<=1:=by
 have e:(BitVec.ofInt IntKind.i64.bits x &&& BitVec.ofInt IntKind.i64.bits 1).toNat=(BitVec.ofInt IntKind.i64.bits x).toNat % 2:=by
  rw [BitVec.toNat_and]
  exact Nat.and_one_is_mod _
 show 0<=W _/\W _<=1
 rw [e,W_id (by omega)]
 omega
theorem getD_mid {α:Type} {A C:List α} {b d:α} {i:Nat} (hA:A.length=i):(A ++ b :: C).getD i d=b:=by
 subst hA
 rw [List.getD_eq_getElem?_getD,List.getElem?_append_right (Nat.le_refl _),Nat.sub_self];rfl
theorem set_mid {α:Type} {A C:List α} {b v:α} {i:Nat} (hA:A.length=i):(A ++ b :: C).set i v=A ++ v :: C:=by
 subst hA
 rw [List.set_append_right _ _ (Nat.le_refl _),Nat.sub_self,List.set_cons_zero]
theorem cut3 {α:Type} (ps:List α) (j n:Nat):ps=ps.take j ++ (ps.take (j+n)).drop j ++ ps.drop (j+n):=by
 have e:(ps.take (j+n)).take j=ps.take j:=by rw [List.take_take,Nat.min_eq_left (by omega)]
 rw [<-e,List.take_append_drop,List.take_append_drop]
theorem FreeAt.nat {ps:List PgD} {j n:Nat} (h:FreeAt ps j n):j+n<=ps.length/\∀ m,j<=m->m < j+n->(ps.getD m PG0).1=0:=by
 obtain ⟨-,-,h3,h4⟩:=h
 exact ⟨by omega,fun m a b=>by have:=h4 (m:Int) (by omega) (by omega);rwa [Int.toNat_natCast] at this⟩
theorem free_slice {ps:List PgD} {j n:Nat} (hf:FreeAt ps j n):P.inUse (((ps.take (j+n)).drop j).map toPg)=0:=by
 rw [P.inUse_all,List.all_eq_true]
 intro x hx
 obtain ⟨y,hy,rfl⟩:=List.mem_map.1 hx
 obtain ⟨m,hm,e⟩:=List.mem_iff_getElem.1 hy
 rw [List.length_drop,List.length_take] at hm
 rw [List.getElem_drop,List.getElem_take] at e
 have:=hf.nat.2 (j+m) (by omega) (by omega)
 rw [List.getD_eq_getElem?_getD,List.getElem?_eq_getElem (by omega),Option.getD_some,e] at this
 exact decide_eq_true this
theorem T_page_InUse (ps:List PgD) (hl:ps.length<=100000000):Tot (fun r=>r.1.1=(P.inUse (ps.map toPg):Int)) (F_page_InUse (ps,())):=by
 rw [nf_page_InUse];dsimp only
 refine tot_bind (P:=fun r=>r.1.1=(P.inUse (ps.map toPg):Int)) (tot_loop (fun x=>∃ k:Nat,x.1.2.1=(k:Int)/\k<=ps.length/\x.1.1=(P.inUse ((ps.map toPg).take k):Int)) (fun x=>((ps.length:Int) - x.1.2.1).toNat) ⟨0,rfl,by omega,by simp [P.inUse]⟩ ?_) fun r hr=>tot_some hr
 rintro ⟨⟨(n:Int),(i:Int),_⟩,_⟩ ⟨k,e,hk,e2⟩
 dsimp only at e e2 ⊢
 subst e e2
 have hle:=P.inUse_le ((ps.map toPg).take k)
 rw [List.length_take] at hle
 refine tot_cond (fun h=>?_) fun h=>tot_some ?_
 · simp only [decide_eq_true_eq] at h
   have hk:k < ps.length:=by omega
   have w2:W ((k:Int)+1)=k+1:=W_id (by omega)
   have w1:W ((P.inUse ((ps.map toPg).take k):Int)+1)=P.inUse ((ps.map toPg).take k)+1:=W_id (by omega)
   refine tot_need (inB_iff.2 ⟨by omega,h⟩) (tot_some ?_)
   rw [w1,w2,Int.toNat_natCast]
   simp only [Sum.elim_inl]
   refine ⟨⟨k+1,by omega,by omega,?_⟩,by omega⟩
   rw [P.inUse_take (map_at hk)]
   have:(toPg (ps.getD k PG0)).kind=(ps.getD k PG0).1:=rfl
   rw [this]
   cases hc:((ps.getD k PG0).1 != 0)
   · simp only [bne_eq_false_iff_eq] at hc
     rw [if_pos hc];simp
   · simp only [bne_iff_ne,ne_eq] at hc
     rw [if_neg hc];simp
 · simp only [decide_eq_false_iff_not] at h
   simp only [Sum.elim_inr]
   rw [List.take_of_length_le (by rw [List.length_map];omega)]
theorem T_page_freeFrom (ps:List PgD) (i:Int) (h0:0<=i) (hi:i<=ps.length) (hl:ps.length<=1000000):Tot (fun r=>FreeAt ps i r.1.1) (F_page_freeFrom (ps,i,())):=by
 rw [nf_page_freeFrom];dsimp only
 refine tot_bind (P:=fun r=>FreeAt ps i r.1.1) (tot_loop (fun x=>FreeAt ps i x.1.1) (fun x=>((ps.length:Int) - i - x.1.1).toNat) ⟨h0,by dsimp only;omega,by dsimp only;omega,fun j a b=>by dsimp only at b;omega⟩ ?_) fun r hr=>tot_some hr
 rintro ⟨⟨(n:Int),_⟩,_⟩ ⟨f1,f2,f3,f4⟩
 dsimp only at f1 f2 f3 f4 ⊢
 rw [W_id (n:=i+n) (by omega),W_id (n:=n+1) (by omega)]
 refine tot_need (need_if fun h=>?_) (tot_cond (fun h=>tot_some ?_) fun h=>tot_some ?_)
 · simp only [decide_eq_true_eq] at h;exact inB_iff.2 ⟨by omega,h⟩
 · simp only [cand,Bool.and_eq_true,decide_eq_true_eq,beq_iff_eq] at h
   simp only [Sum.elim_inl]
   exact ⟨⟨f1,by omega,by omega,fun j a b=>if c:j < i+n then f4 j a c else by rw [show j=i+n by omega];exact h.2⟩,by omega⟩
 · simp only [Sum.elim_inr];exact ⟨f1,f2,f3,f4⟩
theorem T_page_Runs (ps:List PgD) (hl:ps.length<=1000000):Tot (fun r=>RunsP ps r.1.1/\r.1.1.length<=ps.length+1) (F_page_Runs (ps,())):=by
 rw [nf_page_Runs];dsimp only
 refine tot_bind (P:=fun r=>RunsP ps r.2.1.1/\r.2.1.1.length<=ps.length+1) (tot_loop (fun x=>0<=x.1.2.1/\x.1.2.1<=(ps.length:Int)+1/\(x.2.1.1.length:Int)<=x.1.2.1/\RunsP ps x.2.1.1) (fun x=>((ps.length:Int)+1 - x.1.2.1).toNat) ⟨by simp,by dsimp only;omega,by simp,fun r hr=>by simp at hr⟩ ?_) fun r hr=>tot_some hr
 rintro ⟨⟨_,(i:Int),_⟩,⟨(rs:List (Int × Int × Unit)),_⟩,_⟩ ⟨h0,h1,h2,h3⟩
 dsimp only at h0 h1 h2 h3 ⊢
 refine tot_cond (fun h=>?_) fun _=>tot_some (by simp only [Sum.elim_inr];exact ⟨h3,by omega⟩)
 simp only [decide_eq_true_eq] at h
 refine tot_bind (T_page_freeFrom ps i h0 (by omega) hl) ?_
 rintro ⟨⟨(n:Int),_⟩,_⟩ hf
 obtain ⟨f1,f2,f3,f4⟩:=id hf
 dsimp only at f1 f2 f3 f4 hf ⊢
 rw [W_id (n:=i+n) (by omega),W_id (n:=i+n+1) (by omega)]
 refine tot_need (need_if fun _=>small_iff.2 (by simp only [List.length_cons,List.length_nil];omega)) (tot_cond (fun h4=>tot_some ?_) fun h4=>tot_some ?_)
 · simp only [decide_eq_true_eq] at h4
   simp only [Sum.elim_inl]
   refine ⟨⟨by omega,by omega,by simp;omega,fun r hr=>?_⟩,by omega⟩
   rcases List.mem_append.1 hr with hr | hr
   · exact h3 r hr
   · simp at hr;subst hr;exact ⟨by dsimp only;omega,hf⟩
 · simp only [Sum.elim_inl]
   exact ⟨⟨by omega,by omega,by omega,h3⟩,by omega⟩
theorem T_page_First (ps:List PgD) (k:Int) (hl:ps.length<=1000000):Tot (fun r=>r.1.1 = -1\/1<=k/\FreeAt ps r.1.1 k) (F_page_First (ps,k,())):=by
 rw [nf_page_First];dsimp only
 refine tot_cond (fun _=>tot_some (.inl rfl)) fun hk=>?_
 simp only [decide_eq_false_iff_not] at hk
 refine tot_bind (T_page_Runs ps hl) ?_
 rintro ⟨⟨(rs:List (Int × Int × Unit)),_⟩,_⟩ ⟨h0,hr⟩
 dsimp only at h0 hr ⊢
 refine tot_bind (P:=fun r=>match r with
  | .inl x=>1<=k/\FreeAt ps x.1.1 k
  | .inr _=>True) (tot_loop (fun x=>0<=x.1.2.1/\x.1.2.1<=(rs.length:Int)) (fun x=>((rs.length:Int) - x.1.2.1).toNat) (by simp) ?_) ?_
 · rintro ⟨⟨(a:Int),(i:Int),_⟩,_⟩ ⟨i0,i1⟩
   dsimp only at i0 i1 ⊢
   refine tot_cond (fun h=>?_) fun _=>tot_some trivial
   simp only [decide_eq_true_eq] at h
   have w1:W (i+1)=i+1:=W_id (by omega)
   rw [w1]
   have hb:inB i rs.length=true:=inB_iff.2 ⟨i0,h⟩
   refine tot_need hb (tot_cond (fun hc=>tot_some ?_) fun _=>tot_some ?_)
   · simp only [decide_eq_true_eq] at hc
     obtain ⟨k1,k2,k3,k4,k5⟩:=h0 _ (getD_mem (d:=(0,0,())) (show i.toNat < rs.length by omega))
     simp only [Sum.elim_inr]
     exact ⟨by omega,k2,by omega,by omega,fun j a b=>k5 j a (by omega)⟩
   · simp only [Sum.elim_inl];omega
 · rintro r hr
   refine tot_sum (fun a ha=>?_) fun b hb=>tot_some (.inl rfl)
   subst ha
   exact tot_some (.inr hr)
theorem T_page_take (ps:List PgD) (j n:Nat) (a1 a2 a3 a4:Int) (hl:ps.length<=1000000) (h1:1<=n) (hf:FreeAt ps j n) :
 Tot (fun r=>r.1.2.1=0/\r.1.1=ps.take j ++ ((a1,a2,a3,a4,()) :: List.replicate (n - 1) (3,a2,0,0,())) ++ ps.drop (j+n)) (F_page_take (ps,(j:Int),(n:Int),(a1,a2,a3,a4,()),())):=by
 obtain ⟨g1,g2⟩:=hf.nat
 rw [nf_page_take];dsimp only
 have w1:W ((ps.length:Int) - n)=ps.length - n:=W_id (by omega)
 have w2:W ((j:Int)+n)=((j+n:Nat):Int):=by rw [W_id (by omega)];omega
 have w3:W ((j:Int)+1)=j+1:=W_id (by omega)
 rw [w1,w2,w3,T_page_within,Option.bind_some,Int.toNat_natCast,Int.toNat_natCast]
 refine tot_cond (fun h=>?_) fun _=>tot_need (decide_eq_true (by omega)) (tot_bind (T_page_InUse _ (by rw [List.length_drop,List.length_take];omega)) ?_)
 · have:decide (0<=(j:Int)/\(j:Int)<=(ps.length:Int) - n)=true:=decide_eq_true (by omega)
   rw [this] at h;cases h
 rintro ⟨⟨(u:Int),_⟩,_⟩ hu
 have hu:u=(P.inUse (((ps.take (j+n)).drop j).map toPg):Int):=hu
 rw [free_slice hf] at hu
 subst hu
 refine tot_cond (fun h=>by simp at h) fun _=>?_
 rw [T_slices_Clone_api_Page ps (by omega),Option.bind_some]
 dsimp only
 refine tot_need (inB_iff.2 ⟨by omega,by omega⟩) (tot_bind (P:=fun r=>r.2.2.1=ps.take j ++ ((a1,a2,a3,a4,()) :: List.replicate (n - 1) (3,a2,0,0,())) ++ ps.drop (j+n)) (tot_loop (fun x=>∃ m:Nat,x.1.1=(j:Int)+1+m/\m+1<=n/\x.2.2.1=ps.take j ++ ((a1,a2,a3,a4,()) :: List.replicate m (3,a2,0,0,())) ++ ps.drop (j+1+m)) (fun x=>((j:Int)+n - x.1.1).toNat) ?_ ?_) fun r hr=>tot_some ⟨rfl,hr⟩)
 · refine ⟨0,by dsimp only;omega,h1,?_⟩
   dsimp only
   have e:ps=ps.take j ++ ps[j]'(by omega) :: ps.drop (j+1):=by rw [<-List.drop_eq_getElem_cons,List.take_append_drop]
   have e2:=congrArg (fun l=>l.set j (a1,a2,a3,a4,())) e
   rw [set_mid (by rw [List.length_take];omega)] at e2
   rw [e2];simp
 · rintro ⟨⟨(i:Int),_⟩,_,(qs:List PgD),_⟩ ⟨m,e1,e2,e3⟩
   dsimp only at e1 e2 e3 ⊢
   subst e1
   have hq:qs.length=ps.length:=by rw [e3];simp only [List.length_append,List.length_take,List.length_cons,List.length_replicate,List.length_drop];omega
   refine tot_cond (fun h=>?_) fun h=>tot_some ?_
   · simp only [decide_eq_true_eq] at h
     rw [W_id (n:=(j:Int)+1+m+1) (by omega)]
     refine tot_need (inB_iff.2 ⟨by omega,by omega⟩) (tot_some ?_)
     simp only [Sum.elim_inl]
     refine ⟨⟨m+1,by omega,by omega,?_⟩,by omega⟩
     rw [e3,show ((j:Int)+1+m).toNat=j+1+m by omega,List.drop_eq_getElem_cons (show j+1+m < ps.length by omega),set_mid (by simp only [List.length_append,List.length_take,List.length_cons,List.length_replicate];omega),List.replicate_succ']
     simp [Nat.add_assoc]
   · simp only [decide_eq_false_iff_not] at h
     simp only [Sum.elim_inr]
     obtain rfl:m=n - 1:=by omega
     rw [e3,show j+1+(n - 1)=j+n by omega]
theorem T_page_Large (pw np:Int) (ps:List PgD) (j n:Nat) (sp w:Int) (hl:ps.length<=1000000) (hn:P.needV pw np w=n) (h1:1<=n) (hf:FreeAt ps j n) (hs:0<=sp/\sp<=1) :
 Tot (fun r=>r.1.2.1=0/\r.1.1=ps.take j ++ ((2,sp,w,0,()) :: List.replicate (n - 1) (3,sp,0,0,())) ++ ps.drop (j+n)) (F_page_Large ((pw,np,()),ps,(j:Int),sp,w,())):=by
 rw [nf_page_Large];dsimp only
 rw [T_page_Need,Option.bind_some,hn]
 dsimp only
 refine tot_cond (fun h=>?_) fun _=>?_
 · simp only [decide_eq_true_eq] at h;omega
 rw [T_page_isSpace,Option.bind_some]
 have:P.spaceB sp=true:=decide_eq_true (by omega)
 rw [this]
 refine tot_cond (fun h=>by cases h) fun _=>tot_bind (T_page_take ps j n 2 sp w 0 hl h1 hf) fun r hr=>tot_some hr
theorem T_page_Free (ps:List PgD) (j n:Nat) (a b:PgD) (hl:ps.length<=1000000) (h1:1<=n) (hn:j+n<=ps.length) (ha:a.1=2) (hb:b.1=3) (hnx:j+n < ps.length->¬(ps.getD (j+n) PG0).1=3) :
 Tot (fun r=>r.1.2.1=0/\r.1.1=ps.take j ++ List.replicate n PG0 ++ ps.drop (j+n)) (F_page_Free (ps.take j ++ (a :: List.replicate (n - 1) b) ++ ps.drop (j+n),(j:Int),())):=by
 have hq:(ps.take j ++ (a :: List.replicate (n - 1) b) ++ ps.drop (j+n)).length=ps.length:=by simp only [List.length_append,List.length_take,List.length_cons,List.length_replicate,List.length_drop];omega
 have hg:(ps.take j ++ (a :: List.replicate (n - 1) b) ++ ps.drop (j+n)).getD j PG0=a:=by
  rw [List.append_assoc,List.cons_append]
  exact getD_mid (by rw [List.length_take];omega)
 have hs:(ps.take j ++ (a :: List.replicate (n - 1) b) ++ ps.drop (j+n)).set j PG0=ps.take j ++ PG0 :: (List.replicate (n - 1) b ++ ps.drop (j+n)):=by
  rw [List.append_assoc,List.cons_append]
  exact set_mid (by rw [List.length_take];omega)
 generalize hQ:ps.take j ++ (a :: List.replicate (n - 1) b) ++ ps.drop (j+n)=qs at hq hg hs ⊢
 rw [nf_page_Free];dsimp only
 have w1:W ((qs.length:Int) - 1)=qs.length - 1:=W_id (by omega)
 have w3:W ((j:Int)+1)=j+1:=W_id (by omega)
 rw [w1,w3,T_page_within,Option.bind_some,Int.toNat_natCast,hg,ha]
 refine tot_cond (fun h=>?_) fun _=>tot_need (inB_iff.2 ⟨by omega,by omega⟩) (tot_cond (fun h=>by cases h) fun _=>?_)
 · have:decide (0<=(j:Int)/\(j:Int)<=(qs.length:Int) - 1)=true:=decide_eq_true (by omega)
   rw [this] at h;cases h
 rw [T_slices_Clone_api_Page qs (by omega),Option.bind_some]
 dsimp only
 refine tot_need (inB_iff.2 ⟨by omega,by omega⟩) (tot_bind (P:=fun r=>r.2.2.1=ps.take j ++ List.replicate n PG0 ++ ps.drop (j+n)) (tot_loop (fun x=>∃ m:Nat,x.1.1=(j:Int)+1+m/\m+1<=n/\x.2.2.1=(ps.take j ++ List.replicate (m+1) PG0) ++ (List.replicate (n - 1 - m) b ++ ps.drop (j+n))) (fun x=>((j:Int)+n - x.1.1).toNat) ?_ ?_) fun r hr=>tot_some ⟨rfl,hr⟩)
 · refine ⟨0,by dsimp only;omega,h1,?_⟩
   dsimp only
   rw [hs];simp [List.replicate_succ]
 · rintro ⟨⟨(i:Int),_⟩,_,(xs:List PgD),_⟩ ⟨m,e1,e2,e3⟩
   dsimp only at e1 e2 e3 ⊢
   subst e1
   have hx:xs.length=ps.length:=by rw [e3];simp only [List.length_append,List.length_take,List.length_replicate,List.length_drop];omega
   have hA:(ps.take j ++ List.replicate (m+1) PG0).length=j+1+m:=by simp only [List.length_append,List.length_take,List.length_replicate];omega
   rw [W_id (n:=(j:Int)+1+m+1) (by omega),show ((j:Int)+1+m).toNat=j+1+m by omega]
   refine tot_need ?_ (tot_cond (fun h=>?_) fun h=>tot_some ?_)
   · simp only [beq_self_eq_true,cond_true]
     refine need_if fun h=>?_
     simp only [decide_eq_true_eq] at h
     exact inB_iff.2 ⟨by omega,h⟩
   · simp only [beq_self_eq_true,cond_true,cand,Bool.and_eq_true,decide_eq_true_eq,beq_iff_eq] at h
     obtain ⟨k1,k2⟩:=h
     refine tot_need (inB_iff.2 ⟨by omega,k1⟩) (tot_some ?_)
     simp only [Sum.elim_inl]
     have hm:m+1 < n:=by
      refine Decidable.by_contra fun c=>?_
      have e4:n - 1 - m=0:=by omega
      have e5:j+1+m=j+n:=by omega
      rw [e3,e4,List.replicate_zero,List.nil_append,List.getD_eq_getElem?_getD,List.getElem?_append_right (by omega),hA,Nat.sub_self,List.getElem?_drop,Nat.add_zero,<-List.getD_eq_getElem?_getD] at k2
      exact hnx (by omega) k2
     refine ⟨⟨m+1,by omega,by omega,?_⟩,by omega⟩
     rw [e3,show n - 1 - m=(n - 1 - (m+1))+1 by omega,List.replicate_succ (n:=n - 1 - (m+1)),List.cons_append,set_mid hA,List.replicate_succ' (n:=m+1)]
     simp
   · simp only [beq_self_eq_true,cond_true,cand,Bool.and_eq_false_iff,decide_eq_false_iff_not] at h
     simp only [Sum.elim_inr]
     have hm:m+1=n:=by
      refine Decidable.by_contra fun c=>?_
      rcases h with h | h
      · omega
      · rw [e3,show n - 1 - m=(n - 1 - (m+1))+1 by omega,List.replicate_succ (n:=n - 1 - (m+1)),List.cons_append,getD_mid hA,hb] at h
        cases h
     rw [e3,hm,show n - 1 - m=0 by omega,List.replicate_zero,List.nil_append]
end Go.VI
namespace Go.VI
open Go
theorem T_l04_awake:F_l04_awake ()=some ((true,()),()):=by
 refine law_key ?_
 have hc:confB 16 8=true:=by decide
 have hA:F_arena_New (128,())=some ((List.replicate 128 0,0,()),()):=by
  rw [nf_arena_New];rfl
 have hN:F_page_New ((16,8,()),())=some ((((16,8,()),List.replicate 128 0,List.replicate 8 PG0,0,-1,()),0,()),()):=by
  rw [nf_page_New];dsimp only
  rw [T_page_ValidConf,Option.bind_some,hc,T_page_size,Option.bind_some,show W (16*8)=128 from by decide]
  simp only [Bool.not_true,cond_false]
  rw [hA];rfl
 have hD:F_page_Address ((16,8,()),1,2,())=some ((4114,0,()),()):=by
  rw [nf_page_Address];dsimp only
  rw [T_page_ValidConf,Option.bind_some,hc,T_page_within,Option.bind_some,T_page_within,Option.bind_some]
  decide
 have hL:F_page_Limit ((16,8,()),())=some ((2,()),()):=by
  rw [nf_page_Limit];dsimp only
  rw [T_page_ValidConf,Option.bind_some,hc]
  decide
 rw [nf_l04_awake];dsimp only
 rw [nf_l04_conf];dsimp only [Option.bind_some]
 rw [hN,Option.bind_some,hD,Option.bind_some,hL]
 dsimp only [Option.bind_some]
 refine tot_cond (fun _=>tot_cond (fun _=>tot_cond (fun _=>tot_cond (fun _=>?_) fun h=>by simp at h) fun h=>by simp at h) fun h=>by simp at h) fun h=>by simp at h
 refine tot_bind (T_page_Proper ((16,8,()),List.replicate 128 0,List.replicate 8 PG0,0,-1,()) ⟨by simp,by simp,P.WB.zeros 128⟩) ?_
 rintro ⟨⟨(b:Bool),_⟩,_⟩ hb
 have hb:b=P.okH (toHp ((16,8,()),List.replicate 128 0,List.replicate 8 PG0,0,-1,())):=hb
 have:b=true:=by rw [hb];decide +kernel
 subst this
 exact tot_cond (fun _=>tot_some rfl) fun h=>by simp at h
theorem L_PageProper (raw:HpD) (hr:WBo raw.2.1) (tape odd:List Int):F_l04_PageProper (raw,tape,odd,())=some ((true,()),()):=by
 refine law_key ?_
 rw [nf_l04_PageProper];dsimp only
 rw [T_made_Light,Option.bind_some]
 refine tot_cond (fun _=>tot_some rfl) fun hl=>?_
 simp only [Bool.not_eq_false',decide_eq_true_eq] at hl
 have hw:HpW raw:=⟨by have:=hl.1;omega,by have:=hl.2;omega,hr⟩
 refine tot_bind (X_made_Make tape) ?_
 rintro ⟨⟨(d:WdD),_⟩,_⟩ ⟨n,hm⟩
 have hm:Mk n d:=hm
 have hg:=(P.made_gw n _ hm.made hm.n400).good.ok
 refine tot_bind (X_made_World_Spoil n d hm odd 0 (by omega) (by omega)) ?_
 rintro ⟨⟨(s:WdD),_⟩,⟨(l:List Int),(a:Int),_⟩,_⟩ hs
 have hs:HpW s.1:=hs
 dsimp only
 rw [T_l04_awake,Option.bind_some]
 refine tot_cond (fun _=>?_) fun h=>by simp at h
 refine tot_bind (T_page_Proper raw hw) ?_
 rintro ⟨⟨(b1:Bool),_⟩,_⟩ hb1
 refine tot_bind (X_r04_Proper raw hw) ?_
 rintro ⟨⟨(b2:Bool),_⟩,_⟩ hb2
 have hb:b1=b2:=Eq.trans hb1 (Eq.symm hb2)
 subst hb
 refine tot_cond (fun _=>?_) fun h=>by simp at h
 refine tot_bind (T_page_Proper d.1 hm.hw) ?_
 rintro ⟨⟨(b3:Bool),_⟩,_⟩ hb3
 have hb3:b3=true:=Eq.trans hb3 hg
 subst hb3
 refine tot_cond (fun _=>?_) fun h=>by simp at h
 refine tot_bind (T_page_Proper s.1 hs) ?_
 rintro ⟨⟨(b4:Bool),_⟩,_⟩ hb4
 refine tot_bind (X_r04_Proper s.1 hs) ?_
 rintro ⟨⟨(b5:Bool),_⟩,_⟩ hb5
 have hb:b4=b5:=Eq.trans hb4 (Eq.symm hb5)
 subst hb
 exact tot_some (by simp)
theorem L_PageGives (tape:List Int) (w s:Int):F_l04_PageGives (tape,w,s,())=some ((true,()),()):=by
 refine law_key ?_
 rw [nf_l04_PageGives];dsimp only
 refine tot_bind (X_made_Make tape) ?_
 rintro ⟨⟨⟨⟨⟨(pw:Int),(np:Int),_⟩,(ws:List Int),(ps:List PgD),(sp:Int),(bu:Int),_⟩,(st:List Int),(wk:List Int),_⟩,_⟩,_⟩ ⟨n,hm⟩
 have hm:Mk n (((pw,np,()),ws,ps,sp,bu,()),st,wk,()):=hm
 have hg:=(P.made_gw n _ hm.made hm.n400).good.ok
 have L:=hm.lens
 have c3:=P.conf_parts L.conf
 have hlm:(ps.map toPg).length=ps.length:=List.length_map ..
 have hpn:(ps.length:Int)=np:=by have:=L.pages;rw [<-hlm];exact this
 have hl:ps.length<=1000000:=by
  have:np<=64:=c3.2.2.2.2
  omega
 dsimp only
 refine tot_need rfl (tot_need rfl ?_)
 generalize W (5+(W (w.tmod 200+200)).tmod 200)=words
 have hs1:=and_one s
 generalize bits2 IntKind.i64 (fun (x1 x2:BitVec IntKind.i64.bits)=>x1 &&& x2) s 1=space at hs1 ⊢
 rw [T_page_Need,Option.bind_some]
 dsimp only
 refine tot_bind (T_page_First ps _ hl) ?_
 rintro ⟨⟨(f:Int),_⟩,_⟩ hf
 have hf:f = -1\/1<=P.needV pw np words/\FreeAt ps f (P.needV pw np words):=hf
 dsimp only
 refine tot_cond (fun h=>?_) fun h=>?_
 · rw [T_l04_awake,Option.bind_some]
   refine tot_cond (fun _=>?_) fun h=>by simp at h
   refine tot_bind (X_r04_Need pw np words) ?_
   rintro ⟨⟨(q:Int),_⟩,_⟩ hq
   have hq:q=P.needV pw np words:=hq
   subst hq
   exact tot_some (by simp)
 · simp only [cor,Bool.or_eq_false_iff,decide_eq_false_iff_not] at h
   obtain ⟨h1,h2⟩:=h
   obtain ⟨f1,f2⟩:=hf.resolve_left (by omega)
   obtain ⟨j,rfl⟩:=Int.eq_ofNat_of_zero_le (show 0<=f by omega)
   obtain ⟨k,hk⟩:=Int.eq_ofNat_of_zero_le (show 0<=P.needV pw np words by omega)
   rw [hk] at f1 f2 ⊢
   have hk1:1<=k:=by omega
   obtain ⟨g1,g2⟩:=f2.nat
   have hz:∀ m,j<=m->m < j+k->ps.getD m PG0=PG0:=fun m a b=>by
    have e0:=g2 m a b
    have hmem:ps.getD m PG0∈ps:=getD_mem (by omega)
    have hp:toPg (ps.getD m PG0)∈(toHp ((pw,np,()),ws,ps,sp,bu,())).pages:=List.mem_map.2 ⟨_,hmem,rfl⟩
    have e1:=(P.properL_mem _ _ _ _ (P.okH_parts hg).2.2.2.2.2.2 _ hp).2.2.2.2.1 e0
    generalize ps.getD m PG0=g at e1
    obtain ⟨x1,x2,x3,x4,_⟩:=g
    simp only [toPg,P.Pg.zero,P.Pg.mk.injEq] at e1
    obtain ⟨rfl,rfl,rfl,rfl⟩:=e1
    rfl
   have hsl:(ps.take (j+k)).drop j=List.replicate k PG0:=by
    refine List.eq_replicate_iff.2 ⟨by rw [List.length_drop,List.length_take];omega,fun y hy=>?_⟩
    obtain ⟨m,hm,e⟩:=List.mem_iff_getElem.1 hy
    rw [List.length_drop,List.length_take] at hm
    rw [List.getElem_drop,List.getElem_take] at e
    have:=hz (j+m) (by omega) (by omega)
    rw [List.getD_eq_getElem?_getD,List.getElem?_eq_getElem (by omega),Option.getD_some,e] at this
    exact this
   have hcut:=cut3 ps j k
   rw [hsl] at hcut
   have hnx:j+k < ps.length->¬(ps.getD (j+k) PG0).1=3:=fun hlt=>by
    have e1:=map_at (ps:=ps) (show j+(k - 1) < ps.length by omega)
    have e2:=map_at (ps:=ps) (show j+(k - 1)+1 < ps.length by omega)
    have e3:=P.no_tail_after hg e1 (g2 (j+(k - 1)) (by omega) (by omega)) e2
    rw [show j+(k - 1)+1=j+k by omega] at e3
    exact e3
   refine tot_bind (T_page_Large pw np ps j k space words hl hk hk1 f2 hs1) ?_
   rintro ⟨⟨(qs:List PgD),(e:Int),_⟩,_⟩ ⟨q1,q2⟩
   dsimp only at q1 q2 ⊢
   subst q1
   have hql:qs.length=ps.length:=by rw [q2];simp only [List.length_append,List.length_take,List.length_cons,List.length_replicate,List.length_drop];omega
   have hF:=T_page_Free ps j k (2,space,words,0,()) (3,space,0,0,()) hl hk1 g1 rfl rfl hnx
   rw [<-q2,<-hcut] at hF
   refine tot_bind hF ?_
   rintro ⟨⟨(rs:List PgD),(e:Int),_⟩,_⟩ ⟨r1,r2⟩
   dsimp only at r1 r2 ⊢
   subst r1 r2
   rw [T_l04_awake,Option.bind_some]
   refine tot_cond (fun _=>tot_cond (fun _=>tot_cond (fun _=>?_) fun h=>by simp at h) fun h=>by simp at h) fun h=>by simp at h
   refine tot_bind (T_page_InUse qs (by omega)) ?_
   rintro ⟨⟨(u1:Int),_⟩,_⟩ hu1
   refine tot_bind (T_page_InUse rs (by omega)) ?_
   rintro ⟨⟨(u2:Int),_⟩,_⟩ hu2
   have hu1:u1=(P.inUse (qs.map toPg):Int):=hu1
   have hu2:u2=(P.inUse (rs.map toPg):Int):=hu2
   have hle:=P.inUse_le (rs.map toPg)
   have hadd:P.inUse (qs.map toPg)=P.inUse (rs.map toPg)+k:=by
    have a1:P.inUse (rs.map toPg)=P.inUse ((rs.take j).map toPg)+P.inUse ((List.replicate k PG0).map toPg)+P.inUse ((rs.drop (j+k)).map toPg):=by
     have:=congrArg (fun l=>P.inUse (l.map toPg)) hcut
     simp only [List.map_append,P.inUse_append] at this
     simpa using this
    have a2:P.inUse (qs.map toPg)=P.inUse ((rs.take j).map toPg)+k+P.inUse ((rs.drop (j+k)).map toPg):=by
     rw [q2]
     simp only [List.map_append,P.inUse_append,List.map_cons,List.map_replicate,P.inUse]
     rw [P.inUse_rep (by show ¬(3:Int)=0;decide),if_neg (by show ¬(2:Int)=0;decide)]
     omega
    have a3:P.inUse ((List.replicate k PG0).map toPg)=0:=by
     rw [<-hsl];exact free_slice f2
    omega
   dsimp only
   have w:W (u2+k)=u2+k:=W_id (by omega)
   rw [w]
   refine tot_cond (fun _=>?_) fun h=>?_
   · refine tot_bind (T_r04_SamePages rs (by omega)) ?_
     rintro ⟨⟨(b:Bool),_⟩,_⟩ hb
     exact tot_some hb
   · simp only [beq_eq_false_iff_ne,ne_eq] at h
     exact absurd (by omega) h
theorem L_PageProperu (d) (h:wfP E_l04_PageProper.ps d):F_l04_PageProper d=some ((true,()),()):=by
 obtain ⟨raw,tape,odd,_⟩:=d
 obtain ⟨hr,-⟩:=h
 exact L_PageProper raw (fun x hx=>wf_u (hr.2.1.2 x hx)) tape odd
theorem L_PageGivesu (d) (h:wfP E_l04_PageGives.ps d):F_l04_PageGives d=some ((true,()),()):=by
 obtain ⟨tape,w,s,_⟩:=d
 exact L_PageGives tape w s
end Go.VI
