import Derived.Test.YtipjdbhocjpmdaaGreatQ01
import Derived.Test.YtipjdbhocjpmdaaGreatQ05
import Derived.Test.YtipjdbhocjpmdaaGreatQ08
import Derived.Test.YtipjdbhocjpmdaaGreatQ10
import Derived.Test.YtipjdbhocjpmdaaGreatQ11
import Derived.Test.YtipjdbhocjpmdaaGreatQ13
import Derived.Test.YtipjdbhocjpmdaaGreatQ14
import Derived.Test.YtipjdbhocjpmdaaGreatQ15
import Derived.Test.YtipjdbhocjpmdaaGreatQ18
import Derived.Test.YtipjdbhocjpmdaaGreatQ26
import Derived.Test.YtipjdbhocjpmdaaGreatQ32
import Derived.Test.YtipjdbhocjpmdaaGreatQ35
import Derived.Deep.DeepCutAuto
import Derived.Maps.RangeWalk
set_option linter.unusedSimpArgs false
set_option linter.unusedVariables false
set_option maxRecDepth 100000
set_option maxHeartbeats 12800000
namespace Go.Proofs.YtipjdbhocjpmdaaGreat
open Go.RowKit
theorem ye7 (pw np:Int) (ps:List Pg):∀ (l:List Pg) (i:Nat),zi0 pw np ps i l=true↔∀ j x,l[j]?=some x->zg7 pw np ps (i+j) x=true
 | [],i=>by simp [zi0]
 | y :: r,i=>by
  rw [zi0,Bool.and_eq_true,ye7 pw np ps r (i+1)]
  constructor
  · rintro ⟨h1,h2⟩ j x hx
    cases j with
    | zero=>simp at hx;subst hx;exact h1
    | succ j=>rw [List.getElem?_cons_succ] at hx;have:=h2 j x hx;rwa [show i+1+j=i+(j+1) by omega] at this
  · intro h
    refine ⟨h 0 y rfl,fun j x hx=>?_⟩
    have:=h (j+1) x (by rw [List.getElem?_cons_succ];exact hx)
    rwa [show i+(j+1)=i+1+j by omega] at this
theorem zv4 {pw np:Int} {ps:List Pg}:zi7 pw np ps=true↔∀ i x,ps[i]?=some x->zg7 pw np ps i x=true:=by
 unfold zi7
 rw [ye7]
 simp only [Nat.zero_add]
theorem zt5 {sp:Int} {ps:List Pg} {i m:Nat}:zl1 sp ((ps.drop i).take m)=true↔∀ t,i<=t->t < i+m->∀ z,ps[t]?=some z->z.kind=3/\z.space=sp:=by
 unfold zl1
 rw [List.all_eq_true]
 constructor
 · intro h t h1 h2 z hz
   have hm:z∈(ps.drop i).take m:=by
    refine List.mem_of_getElem? (i:=t - i) ?_
    rw [List.getElem?_take,if_pos (by omega),List.getElem?_drop,show i+(t - i)=t by omega];exact hz
   exact of_decide_eq_true (h z hm)
 · intro h z hz
   obtain ⟨j,hj⟩:=List.getElem?_of_mem hz
   rw [List.getElem?_take] at hj
   split at hj
   · rename_i hjm
     rw [List.getElem?_drop] at hj
     exact decide_eq_true (h (i+j) (by omega) (by omega) z hj)
   · cases hj
theorem zt6 (pw np:Int) (ps:List Pg):∀ (t:Nat) (b:Int),zm0 pw np ps t b=true↔∃ l,l < t/\(ps.getD l Pg.zero).kind=2/\(∀ m,l < m->m < t->¬(ps.getD m Pg.zero).kind=2)/\b+(t - 1 - l:Int) < zb6 pw np (ps.getD l Pg.zero).used
 | 0,b=>by
  rw [zm0]
  constructor
  · intro h;cases h
  · rintro ⟨l,h,-⟩;omega
 | t+1,b=>by
  rw [zm0]
  by_cases h2:(ps.getD t Pg.zero).kind=2
  · rw [if_pos h2]
    constructor
    · intro h
      have:=of_decide_eq_true h
      exact ⟨t,by omega,h2,fun m a c=>by omega,by omega⟩
    · rintro ⟨l,h3,h4,h5,h6⟩
      by_cases hl:l=t
      · subst hl;exact decide_eq_true (by omega)
      · exact absurd h2 (h5 t (by omega) (by omega))
  · rw [if_neg h2,zt6 pw np ps t (b+1)]
    constructor
    · rintro ⟨l,h3,h4,h5,h6⟩
      refine ⟨l,by omega,h4,fun m a c=>?_,by omega⟩
      by_cases hm:m=t
      · subst hm;exact h2
      · exact h5 m a (by omega)
    · rintro ⟨l,h3,h4,h5,h6⟩
      have hl:l≠t:=fun e=>h2 (e ▸ h4)
      exact ⟨l,by omega,h4,fun m a c=>h5 m a (by omega),by omega⟩
theorem table_small {pw np:Int} {ps:List Pg} {j:Nat} {x y:Pg} (h:zi7 pw np ps=true) (hy:ps[j]?=some y) (hk:y.kind=0\/y.kind=1) (hx:x.kind=1) (hs:zo6 pw x=true):zi7 pw np (ps.set j x)=true:=by
 rw [zv4] at h ⊢
 have hjl:=(List.getElem?_eq_some_iff.1 hy).1
 have hget:∀ t,(ps.set j x)[t]?=if j=t then some x else ps[t]?:=fun t=>by
  rw [List.getElem?_set]
  by_cases e:j=t
  · subst e;rw [if_pos rfl,if_pos rfl,if_pos hjl]
  · rw [if_neg e,if_neg e]
 have hD:∀ t,¬j=t->(ps.set j x).getD t Pg.zero=ps.getD t Pg.zero:=fun t ht=>by rw [List.getD_eq_getElem?_getD,List.getD_eq_getElem?_getD,hget,if_neg ht]
 have hDj:(ps.set j x).getD j Pg.zero=x:=zc6 (by rw [hget,if_pos rfl])
 have hDy:ps.getD j Pg.zero=y:=zc6 hy
 have hk2:∀ t,(((ps.set j x).getD t Pg.zero).kind=2↔(ps.getD t Pg.zero).kind=2):=fun t=>by
  by_cases ht:j=t
  · subst ht;rw [hDj,hDy];constructor <;> intro c <;> omega
  · rw [hD t ht]
 intro i z hz
 rw [hget] at hz
 split at hz
 · cases hz
   unfold zg7
   rw [if_neg (by omega),if_pos hx]
   exact hs
 · rename_i hji
   have hp:=h i z hz
   unfold zg7 at hp ⊢
   split
   · rename_i k0;rw [if_pos k0] at hp;exact hp
   · rename_i k0
     rw [if_neg k0] at hp
     split
     · rename_i k1;rw [if_pos k1] at hp;exact hp
     · rename_i k1
       rw [if_neg k1] at hp
       split
       · rename_i k2
         rw [if_pos k2] at hp
         unfold zn6 at hp ⊢
         rw [List.length_set]
         rw [Bool.and_eq_true] at hp ⊢
         refine ⟨hp.1,?_⟩
         rw [zt5] at *
         intro t h1 h2 z' hz'
         rw [hget] at hz'
         split at hz'
         · rename_i e
           subst e
           have:=hp.2 j h1 h2 y hy
           omega
         · exact hp.2 t h1 h2 z' hz'
       · rename_i k2
         rw [if_neg k2] at hp
         split
         · rename_i k3
           rw [if_pos k3] at hp
           unfold zo0 ownedB at hp ⊢
           rw [Bool.and_eq_true] at hp ⊢
           refine ⟨hp.1,?_⟩
           obtain ⟨l,h1,h2,h3,h4⟩:=(zt6 pw np ps i 1).1 hp.2
           have hlj:¬j=l:=fun e=>by subst e;rw [hDy] at h2;omega
           exact (zt6 pw np _ i 1).2 ⟨l,h1,(hk2 l).2 h2,fun m a c hh=>h3 m a c ((hk2 m).1 hh),by rw [hD l hlj];exact h4⟩
         · rename_i k3
           rw [if_neg k3] at hp
           cases hp
theorem table_large {pw np:Int} {ps:List Pg} {i k:Nat} {sp n:Int} (h:zi7 pw np ps=true) (hf:zh7 ps i k=true) (hl:i+k<=ps.length) (h1:1<=k) (hs:zk2 sp=true) (hn:zb6 pw np n=k) :
 zi7 pw np (put (ps.set i ⟨2,sp,n,0⟩) (i+1) (k - 1) ⟨3,sp,0,0⟩)=true:=by
 rw [zv4] at h ⊢
 have hfree:∀ t,i<=t->t < i+k->∀ z,ps[t]?=some z->z.kind=0:=fun t a c z hz=>by
  have hz':z∈(ps.drop i).take k:=by
   refine List.mem_of_getElem? (i:=t - i) ?_
   rw [List.getElem?_take,if_pos (by omega),List.getElem?_drop,show i+(t - i)=t by omega];exact hz
  unfold zh7 at hf
  exact of_decide_eq_true (List.all_eq_true.1 hf z hz')
 obtain ⟨qs,hqs⟩:∃ qs,put (ps.set i ⟨2,sp,n,0⟩) (i+1) (k - 1) ⟨3,sp,0,0⟩=qs:=⟨_,rfl⟩
 rw [hqs]
 have hql:qs.length=ps.length:=by rw [<-hqs,zw1 (by rw [List.length_set];omega),List.length_set]
 have hget:∀ t,qs[t]?=if t=i then some ⟨2,sp,n,0⟩ else if i<=t/\t < i+k then some ⟨3,sp,0,0⟩ else ps[t]?:=fun t=>by
  rw [<-hqs]
  split
  · rename_i e
    subst e
    rw [zq4 (by rw [List.length_set];omega) (Or.inr (by omega)),List.getElem?_set,if_pos rfl,if_pos (by omega)]
  · rename_i e
    split
    · rename_i hr
      rw [put_in (by rw [List.length_set];omega) (by omega) (by omega)]
    · rw [zq4 (by rw [List.length_set];omega) (by omega),List.getElem?_set,if_neg (by omega)]
 have hin:∀ t,i<=t->t < i+k->∃ z,ps[t]?=some z:=fun t a c=>⟨_,List.getElem?_eq_getElem (show t < ps.length by omega)⟩
 have hD:∀ t,¬(i<=t/\t < i+k)->qs.getD t Pg.zero=ps.getD t Pg.zero:=fun t ht=>by rw [List.getD_eq_getElem?_getD,List.getD_eq_getElem?_getD,hget,if_neg (by omega),if_neg ht]
 have hDi:qs.getD i Pg.zero=⟨2,sp,n,0⟩:=zc6 (by rw [hget,if_pos rfl])
 have hDt:∀ t,i < t->t < i+k->qs.getD t Pg.zero=⟨3,sp,0,0⟩:=fun t a c=>zc6 (by rw [hget,if_neg (by omega),if_pos ⟨by omega,c⟩])
 have hD0:∀ t,i<=t->t < i+k->(ps.getD t Pg.zero).kind=0:=fun t a c=>by
  obtain ⟨z,hz⟩:=hin t a c
  rw [zc6 hz];exact hfree t a c z hz
 intro t z hz
 rw [hget] at hz
 split at hz
 · rename_i e
   subst e
   cases hz
   unfold zg7
   rw [if_neg (show ¬(2:Int)=0 by decide),if_neg (show ¬(2:Int)=1 by decide),if_pos rfl]
   unfold zn6
   simp only
   rw [hs,hn,hql,decide_eq_true (show (1:Int)<=k by omega),decide_eq_true (show (t:Int)+k<=ps.length by omega),show zh3 0=true from rfl,Bool.true_and,Bool.true_and,Bool.true_and,Bool.true_and,zt5]
   intro u a c z hz
   rw [hget,if_neg (by omega),if_pos (by omega)] at hz
   cases hz
   exact ⟨rfl,rfl⟩
 · rename_i e
   split at hz
   · rename_i hr
     cases hz
     unfold zg7
     rw [if_neg (show ¬(3:Int)=0 by decide),if_neg (show ¬(3:Int)=1 by decide),if_neg (show ¬(3:Int)=2 by decide),if_pos rfl]
     unfold zo0 ownedB
     rw [show decide ((0:Int)=0/\(0:Int)=0)=true from rfl,Bool.true_and,zt6]
     refine ⟨i,by omega,by rw [hDi],fun m a c=>?_,?_⟩
     · rw [hDt m a (by omega)];simp
     · rw [hDi];simp only;rw [hn];omega
   · rename_i hr
     have hp:=h t z hz
     unfold zg7 at hp ⊢
     split
     · rename_i k0;rw [if_pos k0] at hp;exact hp
     · rename_i k0
       rw [if_neg k0] at hp
       split
       · rename_i k1;rw [if_pos k1] at hp;exact hp
       · rename_i k1
         rw [if_neg k1] at hp
         split
         · rename_i k2
           rw [if_pos k2] at hp
           unfold zn6 at hp ⊢
           rw [hql]
           rw [Bool.and_eq_true] at hp ⊢
           refine ⟨hp.1,?_⟩
           rw [zt5] at *
           intro u a c z' hz'
           by_cases hu:i<=u/\u < i+k
           · obtain ⟨y,hy⟩:=hin u hu.1 hu.2
             have h3:=(hp.2 u a c y hy).1
             have h0:=hfree u hu.1 hu.2 y hy
             omega
           · rw [hget,if_neg (by omega),if_neg hu] at hz'
             exact hp.2 u a c z' hz'
         · rename_i k2
           rw [if_neg k2] at hp
           split
           · rename_i k3
             rw [if_pos k3] at hp
             unfold zo0 ownedB at hp ⊢
             rw [Bool.and_eq_true] at hp ⊢
             refine ⟨hp.1,?_⟩
             obtain ⟨l,h2,h3,h4,h5⟩:=(zt6 pw np ps t 1).1 hp.2
             have hlo:¬(i<=l/\l < i+k):=fun c=>by have:=hD0 l c.1 c.2;omega
             have htl:t < ps.length:=(List.getElem?_eq_some_iff.1 hz).1
             have hlz:ps[l]?=some (ps[l]'(by omega)):=List.getElem?_eq_getElem _
             have hpl:=h l _ hlz
             rw [zc6 hlz] at h3 h5
             unfold zg7 at hpl
             rw [if_neg (by omega),if_neg (by omega),if_pos h3] at hpl
             unfold zn6 at hpl
             rw [Bool.and_eq_true,zt5] at hpl
             have hnot:∀ m,l < m->m < t->¬(i<=m/\m < i+k):=fun m a c hc=>by
              obtain ⟨y,hy⟩:=hin m hc.1 hc.2
              have q3:=(hpl.2 m (by omega) (by omega) y hy).1
              have q0:=hfree m hc.1 hc.2 y hy
              omega
             refine (zt6 pw np qs t 1).2 ⟨l,h2,by rw [hD l hlo,zc6 hlz];exact h3,fun m a c=>by rw [hD m (hnot m a c)];exact h4 m a c,by rw [hD l hlo,zc6 hlz];exact h5⟩
           · rename_i k3
             rw [if_neg k3] at hp
             cases hp
theorem yc9 (pw np:Int) (ps:List Pg):∀ (i:Nat) (b:Int),1<=b->(zm0 pw np ps i b=true↔b<=zl9 pw np ps i)
 | 0,b,hb=>by
  rw [zm0,zl9]
  constructor
  · intro h;cases h
  · intro h;omega
 | i+1,b,hb=>by
  rw [zm0,zl9]
  by_cases h2:(ps.getD i Pg.zero).kind=2
  · rw [if_pos h2,if_pos h2,decide_eq_true_eq];omega
  · rw [if_neg h2,if_neg h2,yc9 pw np ps i (b+1) (by omega)];omega
theorem table_of_proper {pw np:Int} {ps:List Pg} (h:zf0 pw np ps 0=true):zi7 pw np ps=true:=by
 rw [zv4]
 intro i x hx
 have hi:i < ps.length:=(List.getElem?_eq_some_iff.1 hx).1
 have hp:=proper_at h i (by omega)
 obtain ⟨_,rfl⟩:=List.getElem?_eq_some_iff.1 hx
 rw [List.drop_eq_getElem_cons hi,zf0] at hp
 generalize hX:ps[i]=x at *
 cases hs:zg8 pw np x (ps.drop (i+1)) (zl9 pw np ps i) with
 | none=>rw [hs] at hp;cases hp
 | some d =>
  unfold zg8 at hs
  split at hs
  · cases hs
  · rename_i hA
    have hsp:zk2 x.space=true:=zv8.2 ⟨by omega,by omega⟩
    have hpn:zh3 x.pins=true:=by
     cases hp':zh3 x.pins
     · exact absurd (Or.inr (Or.inr (Or.inr hp'))) hA
     · rfl
    unfold zg7
    split
    · rename_i k0
      rw [if_pos k0] at hs
      split at hs
      · rename_i e;rw [e];rfl
      · cases hs
    · rename_i k0
      rw [if_neg k0] at hs
      split
      · rename_i k1
        rw [if_pos k1] at hs
        split at hs
        · cases hs
        · unfold zo6
          rw [hsp,hpn,decide_eq_true (show 0<=x.used/\x.used<=pw by omega)];rfl
      · rename_i k1
        rw [if_neg k1] at hs
        split
        · rename_i k2
          rw [if_pos k2] at hs
          split at hs
          · cases hs
          · rename_i hB
            have hn1:1<=zb6 pw np x.used:=by omega
            obtain ⟨t1,t2⟩:=(tails_ge x.space (ps.drop (i+1)) ((zb6 pw np x.used).toNat - 1)).1 (by omega)
            rw [List.length_drop] at t1
            unfold zn6
            rw [hsp,hpn,decide_eq_true hn1,decide_eq_true (show (i:Int)+zb6 pw np x.used<=ps.length by omega),t2];rfl
        · rename_i k2
          rw [if_neg k2] at hs
          split
          · rename_i k3
            rw [if_pos k3] at hs
            split at hs
            · rename_i e
              unfold zo0
              rw [decide_eq_true e,Bool.true_and]
              unfold ownedB
              rw [yc9 pw np ps i 1 (by omega)]
              have:x.kind=3↔0 < zl9 pw np ps i:=Classical.not_not.1 fun c=>hA (Or.inl c)
              have:=this.1 k3
              omega
            · cases hs
          · rename_i k3
            rw [if_neg k3] at hs
            cases hs
theorem yd0 {pw np:Int} {ps:List Pg} (h:zi7 pw np ps=true):∀ (k i:Nat),i+k=ps.length->zf0 pw np (ps.drop i) (zl9 pw np ps i)=true
 | 0,i,hi=>by rw [List.drop_of_length_le (by omega)];rfl
 | k+1,i,hi=>by
  have ih:=yd0 h k (i+1) (by omega)
  have hlt:i < ps.length:=by omega
  have hx:ps[i]?=some (ps[i]'hlt):=List.getElem?_eq_getElem _
  rw [zv4] at h
  have hp:=h i _ hx
  rw [List.drop_eq_getElem_cons hlt,zf0]
  generalize ps[i]'hlt=x at *
  have hdue:0 < zl9 pw np ps i->x.kind=3/\0<=x.space/\x.space<=1:=fun hd=>by
   obtain ⟨l,h1,h2,-,h4⟩:=(zt6 pw np ps i 1).1 ((yc9 pw np ps i 1 (by omega)).2 (by omega))
   have hl:ps[l]?=some (ps[l]'(by omega)):=List.getElem?_eq_getElem _
   have hpl:=h l _ hl
   rw [zc6 hl] at h2 h4
   unfold zg7 at hpl
   rw [if_neg (by omega),if_neg (by omega),if_pos h2] at hpl
   unfold zn6 at hpl
   simp only [Bool.and_eq_true] at hpl
   have ht:=(zt5.1 hpl.2) i (by omega) (by omega) x hx
   have hs:=zv8.1 hpl.1.1.1.1
   exact ⟨ht.1,by omega,by omega⟩
  have key:zg8 pw np x (ps.drop (i+1)) (zl9 pw np ps i)≠none:=by
   have h3:x.kind=3->0 < zl9 pw np ps i/\x.used=0/\x.pins=0:=fun k3=>by
    unfold zg7 at hp
    rw [if_neg (by omega),if_neg (by omega),if_neg (by omega),if_pos k3] at hp
    unfold zo0 at hp
    rw [Bool.and_eq_true,decide_eq_true_eq] at hp
    have:=(yc9 pw np ps i 1 (by omega)).1 hp.2
    exact ⟨by omega,hp.1⟩
   have hiff:x.kind=3↔0 < zl9 pw np ps i:=⟨fun k=>(h3 k).1,fun d=>(hdue d).1⟩
   unfold zg7 at hp
   unfold zg8
   split at hp
   · rename_i k0
     obtain ⟨a1,a2,a3⟩:=of_decide_eq_true hp
     have ex:x=Pg.zero:=by cases x;simp only at k0 a1 a2 a3;subst k0 a1 a2 a3;rfl
     rw [if_neg (by rw [a1,a3];rintro (c | c | c | c);exact c hiff;omega;omega;cases c),if_pos k0,if_pos ex]
     exact fun c=>by cases c
   · rename_i k0
     split at hp
     · rename_i k1
       unfold zo6 at hp
       simp only [Bool.and_eq_true,decide_eq_true_eq] at hp
       have hs:=zv8.1 hp.1.1
       rw [if_neg (by rintro (c | c | c | c);exact c hiff;omega;omega;rw [hp.2] at c;cases c),if_neg k0,if_pos k1,if_neg (by omega)]
       exact fun c=>by cases c
     · rename_i k1
       split at hp
       · rename_i k2
         unfold zn6 at hp
         simp only [Bool.and_eq_true,decide_eq_true_eq] at hp
         obtain ⟨⟨⟨⟨a1,a2⟩,a3⟩,a4⟩,a5⟩:=hp
         have hs:=zv8.1 a1
         have ht:=(tails_ge x.space (ps.drop (i+1)) ((zb6 pw np x.used).toNat - 1)).2 ⟨by rw [List.length_drop];omega,a5⟩
         rw [if_neg (by rintro (c | c | c | c);exact c hiff;omega;omega;rw [a3] at c;cases c),if_neg k0,if_neg k1,if_pos k2,if_neg (by omega)]
         exact fun c=>by cases c
       · rename_i k2
         split at hp
         · rename_i k3
           obtain ⟨b1,b2,b3⟩:=h3 k3
           obtain ⟨-,c1,c2⟩:=hdue b1
           rw [if_neg (by rw [b3];rintro (c | c | c | c);exact c hiff;omega;omega;cases c),if_neg k0,if_neg k1,if_neg k2,if_pos k3,if_pos ⟨b2,b3⟩]
           exact fun c=>by cases c
         · cases hp
  cases hs:zg8 pw np x (ps.drop (i+1)) (zl9 pw np ps i) with
  | none=>exact absurd hs key
  | some d =>
   simp only
   rw [due_step hx hs]
   exact ih
theorem proper_table (pw np:Int) (ps:List Pg):zf0 pw np ps 0=zi7 pw np ps:=by
 cases h:zi7 pw np ps
 · cases h2:zf0 pw np ps 0
   · rfl
   · rw [table_of_proper h2] at h;cases h
 · have:=yd0 h ps.length 0 (by omega)
   rwa [List.drop_zero] at this
theorem properP_B (pw np:Int) (nw:Nat) (ps:List Pg) (sp b:Int):zj4 pw np nw ps sp b=ze8 pw np nw ps sp b:=by
 unfold zj4 ze8
 rw [proper_table]
 have:zk2 sp=decide (0<=sp/\sp<=1):=by
  unfold zk2
  by_cases h:0<=sp/\sp<=1
  · rw [decide_eq_true h];exact decide_eq_true (by omega)
  · rw [decide_eq_false h];exact decide_eq_false (by omega)
 rw [this]
def osz (h:Hp) (a:Int):Int:=(atH h a).n+1
def pspan (h:Hp) (g:Pg):Int:=if g.kind=2 then zb6 h.pw h.np g.used else 1
theorem need_fits {pw np n:Int} (h:1<=zb6 pw np n):n<=zb6 pw np n*pw/\zb6 pw np n<=4/\zb8 pw np=true/\1<=n:=by
 by_cases hc:zb8 pw np=true/\1<=n
 · rw [zx2 hc.1 hc.2] at h ⊢
   refine ⟨?_,?_,hc.1,hc.2⟩
   · unfold zl2 at h ⊢
     repeat' split
     all_goals first | omega | (exfalso;simp_all)
   · unfold zl2 at h ⊢
     repeat' split
     all_goals omega
 · rw [zx3 (by
    by_cases h1:zb8 pw np=true
    · right;have:¬1<=n:=fun h2=>hc ⟨h1,h2⟩;omega
    · left;simpa using h1)] at h
   omega
theorem large_tails {pw np:Int} {ps:List Pg} (h:zf0 pw np ps 0=true) {i:Nat} {g:Pg} (hg:ps[i]?=some g) (hk:g.kind=2) :
 1<=zb6 pw np g.used/\(i:Int)+zb6 pw np g.used<=ps.length/\∀ t:Nat,i < t->(t:Int) < i+zb6 pw np g.used->∃ y,ps[t]?=some y/\y.kind=3/\y.space=g.space:=by
 have hi:i < ps.length:=(List.getElem?_eq_some_iff.1 hg).1
 have h1:=proper_at h i (by omega)
 have e:ps.drop i=g :: ps.drop (i+1):=by
  obtain ⟨hlt,rfl⟩:=List.getElem?_eq_some_iff.1 hg
  exact List.drop_eq_getElem_cons hlt
 rw [e,zf0] at h1
 have h2:¬(zb6 pw np g.used < 1\/(zo2 g.space (ps.drop (i+1)):Int) < zb6 pw np g.used - 1):=by
  intro hb
  have:zg8 pw np g (ps.drop (i+1)) (zl9 pw np ps i)=none:=by
   unfold zg8
   split
   · rfl
   · rw [if_neg (by omega:¬g.kind=0),if_neg (by omega:¬g.kind=1)]
  rw [this] at h1;cases h1
 have h3:(zb6 pw np g.used - 1).toNat<=zo2 g.space (ps.drop (i+1)):=by omega
 obtain ⟨h4,h5⟩:=(tails_ge _ _ _).1 h3
 rw [List.length_drop] at h4
 refine ⟨by omega,by omega,fun t ht ht2=>?_⟩
 have h6:t < ps.length:=by omega
 refine ⟨ps[t],List.getElem?_eq_getElem h6,?_⟩
 unfold zl1 at h5
 rw [List.all_eq_true] at h5
 have h7:=h5 ps[t] (by
  rw [List.mem_iff_getElem?]
  refine ⟨t - (i+1),?_⟩
  rw [List.getElem?_take,if_pos (by omega),List.getElem?_drop]
  rw [show i+1+(t - (i+1))=t from by omega,List.getElem?_eq_getElem h6])
 exact of_decide_eq_true h7
structure Begins (h:Hp) (a:Int) (i j:Nat) (g:Pg):Prop where
 ok:okH h=true
 oi:ofI h.pw h.np a=i
 il:i < h.pages.length
 jl:(j:Int) < h.pw
 ad:a=4096+i*h.pw+j
 pg:h.pages[i]?=some g
 od:okD (zg4 h a)=true
 hd:atH h a=hdOf (zg4 h a)
 sz:osz h a=dN (zg4 h a)+1
 kd:(g.kind=1/\j+osz h a<=g.used/\g.used<=h.pw)\/(g.kind=2/\j=0/\osz h a=g.used/\1<=zb6 h.pw h.np g.used)
 wl:a+osz h a<=4096+h.words.length
theorem begins {h:Hp} {a:Int} (e:atE h a=0):∃ i j g,Begins h a i j g:=by
 have h1:okH h=true:=by
  cases h1:okH h
  · unfold atE at e;rw [h1] at e;simp at e
  · rfl
 have h5:ofE h.pw h.np a=0:=by
  by_cases h5:ofE h.pw h.np a=0
  · exact h5
  · unfold atE at e;rw [if_pos h1,if_neg h5] at e;cases e
 have h6:atB h a=true:=by
  cases h6:atB h a
  · unfold atE at e;rw [if_pos h1,if_pos h5,h6] at e;simp at e
  · rfl
 obtain ⟨hin,⟨i,j,e1,e2,hi,hj,ha⟩,t,ht,htl⟩:=of_in h1 h5
 have hg:h.pages[i]?=some h.pages[i]:=List.getElem?_eq_getElem hi
 have hp:zv0 h a=h.pages[i]:=by unfold zv0;rw [e1,Int.toNat_natCast];exact zc6 hg
 have hh:atH h a=hdOf (zg4 h a):=by unfold atH;rw [if_pos e]
 have hz:osz h a=dN (zg4 h a)+1:=by unfold osz;rw [hh];rfl
 unfold atB at h6
 rw [hp,e2] at h6
 simp only [Bool.and_eq_true,decide_eq_true_eq] at h6
 obtain ⟨⟨⟨k1,k2⟩,k3⟩,k4⟩:=h6
 obtain ⟨c1,c2,c3,c4,c5,c6,c7⟩:=zc2 h1
 obtain ⟨p1,p2,p3,p4,p5⟩:=zb1 c1
 have hm:=zn2 _ _ _ _ c7 _ (List.mem_of_getElem? hg)
 have pp:=zj2 (p:=i) c1 (by omega) (by omega)
 have kd:(h.pages[i].kind=1/\j+osz h a<=h.pages[i].used/\h.pages[i].used<=h.pw)\/(h.pages[i].kind=2/\j=0/\osz h a=h.pages[i].used/\1<=zb6 h.pw h.np h.pages[i].used):=by
  rcases k1 with k1 | k1
  · left
    rw [if_pos k1] at k4
    have:=of_decide_eq_true k4
    have h9:=hm.2.2.2.2.2.1 k1
    refine ⟨k1,by rw [hz];omega,h9.2⟩
  · right
    rw [if_neg (by omega)] at k4
    obtain ⟨m1,m2⟩:=of_decide_eq_true k4
    refine ⟨k1,by omega,by rw [hz];exact m2,hm.2.2.2.2.2.2.1 k1⟩
 refine ⟨i,j,h.pages[i],h1,e1,hi,hj,ha,hg,k3,hh,hz,kd,?_⟩
 rcases kd with ⟨k,l,m⟩ | ⟨k,l,m,n⟩
 · omega
 · obtain ⟨t1,t2,t3⟩:=large_tails c7 hg k
   obtain ⟨f1,f2,-⟩:=need_fits n
   have:(i:Int)*h.pw+zb6 h.pw h.np h.pages[i].used*h.pw<=h.np*h.pw:=by
    rw [<-Int.add_mul];exact Int.mul_le_mul_of_nonneg_right (by omega) (by omega)
   omega
theorem Begins.pos {h:Hp} {a:Int} {i j:Nat} {g:Pg} (b:Begins h a i j g):1<=osz h a/\4096<=a:=by
 obtain ⟨c1,c2,c3,c4,c5,c6,c7⟩:=zc2 b.ok
 obtain ⟨p1,p2,p3,p4,p5⟩:=zb1 c1
 have pp:=zj2 (p:=i) c1 (by omega) (by have:=b.il;omega)
 have:=b.sz
 have:=b.ad
 omega
theorem Begins.upto {h:Hp} {a:Int} {i j:Nat} {g:Pg} (b:Begins h a i j g):1<=pspan h g/\4096+(i:Int)*h.pw<=a/\a+osz h a<=4096+((i:Int)+pspan h g)*h.pw/\∀ t:Nat,i < t->(t:Int) < i+pspan h g->∃ y,h.pages[t]?=some y/\y.kind=3:=by
 obtain ⟨c1,c2,c3,c4,c5,c6,c7⟩:=zc2 b.ok
 obtain ⟨p1,p2,p3,p4,p5⟩:=zb1 c1
 have ha:=b.ad
 rw [Int.add_mul]
 rcases b.kd with ⟨k,l,m⟩ | ⟨k,l,m,n⟩
 · have e:pspan h g=1:=by unfold pspan;rw [if_neg (by omega)]
   rw [e,Int.one_mul]
   exact ⟨by omega,by omega,by omega,fun t h1 h2=>by omega⟩
 · have e:pspan h g=zb6 h.pw h.np g.used:=by unfold pspan;rw [if_pos k]
   obtain ⟨f1,f2,-⟩:=need_fits n
   obtain ⟨t1,t2,t3⟩:=large_tails c7 b.pg k
   rw [e]
   refine ⟨by omega,by omega,by omega,fun t h1 h2=>?_⟩
   obtain ⟨y,h3,h4,-⟩:=t3 t h1 h2
   exact ⟨y,h3,h4⟩
theorem begins_apart {h:Hp} {a b:Int} {i j k l:Nat} {g f:Pg} (ha:Begins h a i j g) (hb:Begins h b k l f) (hik:i < k):a+osz h a<=b:=by
 obtain ⟨u1,u2,u3,u4⟩:=ha.upto
 obtain ⟨v1,v2,v3,v4⟩:=hb.upto
 obtain ⟨c1,-⟩:=zc2 ha.ok
 obtain ⟨p1,p2,p3,p4,p5⟩:=zb1 c1
 have h1:¬(k:Int) < i+pspan h g:=fun hlt=>by
  obtain ⟨y,y1,y2⟩:=u4 k hik hlt
  rw [hb.pg] at y1
  injection y1 with y1
  subst y1
  rcases hb.kd with ⟨z,-⟩ | ⟨z,-⟩ <;> omega
 have:((i:Int)+pspan h g)*h.pw<=(k:Int)*h.pw:=Int.mul_le_mul_of_nonneg_right (by omega) (by omega)
 omega
theorem zs6 {h:Hp} {a:Int} {i j:Nat} {g:Pg} (ha:Begins h a i j g) {k:Nat} {f:Pg} (hf:h.pages[k]?=some f) (hk:f.kind=0):a+osz h a<=4096+(k:Int)*h.pw\/4096+(k:Int)*h.pw+h.pw<=a:=by
 obtain ⟨u1,u2,u3,u4⟩:=ha.upto
 obtain ⟨c1,-⟩:=zc2 ha.ok
 obtain ⟨p1,p2,p3,p4,p5⟩:=zb1 c1
 have hne:i≠k:=fun e=>by
  subst e
  have:=ha.pg
  rw [hf] at this
  injection this with this
  subst this
  rcases ha.kd with ⟨z,-⟩ | ⟨z,-⟩ <;> omega
 by_cases hik:i < k
 · left
   have h1:¬(k:Int) < i+pspan h g:=fun hlt=>by
    obtain ⟨y,y1,y2⟩:=u4 k hik hlt
    rw [hf] at y1
    injection y1 with y1
    subst y1
    omega
   have:((i:Int)+pspan h g)*h.pw<=(k:Int)*h.pw:=Int.mul_le_mul_of_nonneg_right (by omega) (by omega)
   omega
 · right
   have e1:((k:Int)+1)*h.pw<=(i:Int)*h.pw:=Int.mul_le_mul_of_nonneg_right (by omega) (by omega)
   rw [Int.add_mul,Int.one_mul] at e1
   omega
theorem walk_sorted (h:Hp) (i:Nat) (u:Nat) (hc:zb8 h.pw h.np=true) (hi:(i:Int) < h.np) (hu:(u:Int)<=h.pw):∀ (f o:Nat) (l:List Int),u - o<=f->zg5 h i false u o=some l ->
 (∀ a∈l,4096+(i:Int)*h.pw+o<=a)/\l.Pairwise (fun a b=>a+osz h a<=b)
 | f,o,l,hf,hl=>by
  by_cases hlt:o < u
  · have he:atE h (zd4 h.pw h.np i o)=0:=by
     by_cases he:atE h (zd4 h.pw h.np i o)=0
     · exact he
     · rw [zv7 hlt he] at hl;cases hl
    have hA:zd4 h.pw h.np i o=4096+(i:Int)*h.pw+o:=(addr_ok hc (by unfold inPg;exact decide_eq_true (by omega))).1
    rw [zy8 hlt he] at hl
    obtain ⟨l2,hl2,rfl⟩:=Option.map_eq_some_iff.1 hl
    match f,hf with
    | f+1,hf =>
     have hn:=(at_in he).2.2.2.2.1
     obtain ⟨s1,s2⟩:=walk_sorted h i u hc hi hu f _ l2 (by omega) hl2
     refine ⟨fun a ha=>?_,List.pairwise_cons.2 ⟨fun b hb=>?_,s2⟩⟩
     · rcases List.mem_cons.1 ha with rfl | ha
       · omega
       · have:=s1 a ha;omega
     · have:=s1 b hb
       unfold osz
       omega
    | 0,hf=>omega
  · rw [zp5 hlt] at hl
    obtain rfl:=Option.some.inj hl
    exact ⟨fun a ha=>(by cases ha),List.Pairwise.nil⟩
theorem pageV_sorted {h:Hp} (h1:okH h=true) (i:Nat) (hi:i < h.pages.length):(zf4 h i).Pairwise (fun a b=>a+osz h a<=b)/\∀ a∈zf4 h i,∃ j g,Begins h a i j g:=by
 obtain ⟨c1,c2,c3,c4,c5,c6,c7⟩:=zc2 h1
 obtain ⟨p1,p2,p3,p4,p5⟩:=zb1 c1
 have hg:h.pages[i]?=some h.pages[i]:=List.getElem?_eq_getElem hi
 have hpg:pgAt h i=h.pages[i]:=by unfold pgAt;rw [Int.toNat_natCast];exact zc6 hg
 have hm:=zn2 _ _ _ _ c7 _ (List.mem_of_getElem? hg)
 have hno:¬((i:Int) < 0\/(h.pages.length:Int)<=i):=by omega
 by_cases h3:(pgAt h i).kind=0\/(pgAt h i).kind=3
 · rw [(page_none h1 hno h3).2]
   exact ⟨List.Pairwise.nil,fun a ha=>by cases ha⟩
 · rw [(yc6 h1 hno h3).2]
   rw [hpg] at h3
   have hk:h.pages[i].kind=1\/h.pages[i].kind=2:=by omega
   cases hw:zq1 h i with
   | none=>exact ⟨List.Pairwise.nil,fun a ha=>by cases ha⟩
   | some l =>
    rw [Option.getD_some]
    unfold zq1 at hw
    rw [hpg] at hw
    have hat:=walk_at h i _ _ _ 0 l (Nat.le_refl _) hw
    have hbg:∀ a∈l,∃ j g,Begins h a i j g:=fun a ha=>by
     obtain ⟨e1,o,o1,o2,o3⟩:=hat a ha
     obtain ⟨i2,j,g,hb⟩:=begins e1
     have hi2:i2=i:=by
      have h4:=hb.oi
      rw [o3] at h4
      cases hpi:inPg h.pw h.np i o with
      | false =>
       have h8:=(yb2 c1 hpi).1
       have:=hb.pos.2
       omega
      | true =>
       obtain ⟨a1,a2,a3⟩:=of_addr c1 hpi
       rw [(addr_ok c1 hpi).1,(of_ok c1 a1).1,a2] at h4
       omega
     subst hi2
     exact ⟨j,g,hb⟩
    refine ⟨?_,hbg⟩
    rcases hk with hk | hk
    · rw [show decide (h.pages[i].kind=2)=false from decide_eq_false (by omega)] at hw
      have h9:=hm.2.2.2.2.2.1 hk
      exact (walk_sorted h i _ c1 (by omega) (by omega) _ 0 l (Nat.le_refl _) hw).2
    · rw [show decide (h.pages[i].kind=2)=true from decide_eq_true hk] at hw
      by_cases hlt:0 < h.pages[i].used.toNat
      · by_cases he:atE h (zd4 h.pw h.np i ((0:Nat):Int))=0
        · rw [yb7 hlt he] at hw
          obtain rfl:=Option.some.inj hw
          exact List.pairwise_singleton _ _
        · rw [zv7 hlt he] at hw;cases hw
      · rw [zp5 hlt] at hw
        obtain rfl:=Option.some.inj hw
        exact List.Pairwise.nil
theorem yc8 {h:Hp} (h1:okH h=true):∀ k:Nat,k<=h.pages.length->(zk1 h k).Pairwise (fun a b=>a+osz h a<=b)/\∀ a∈zk1 h k,∃ i j g,i < k/\Begins h a i j g
 | 0,_=>by
  have:zk1 h 0=[]:=rfl
  rw [this];exact ⟨List.Pairwise.nil,fun a ha=>by cases ha⟩
 | k+1,hk=>by
  obtain ⟨s1,s2⟩:=yc8 h1 k (by omega)
  obtain ⟨t1,t2⟩:=pageV_sorted h1 k (by omega)
  rw [zz2]
  refine ⟨List.pairwise_append.2 ⟨s1,t1,fun a ha b hb=>?_⟩,fun a ha=>?_⟩
  · obtain ⟨i,j,g,hi,hba⟩:=s2 a ha
    obtain ⟨l,f,hbb⟩:=t2 b hb
    exact begins_apart hba hbb hi
  · rcases List.mem_append.1 ha with ha | ha
    · obtain ⟨i,j,g,hi,hba⟩:=s2 a ha
      exact ⟨i,j,g,by omega,hba⟩
    · obtain ⟨j,g,hba⟩:=t2 a ha
      exact ⟨k,j,g,by omega,hba⟩
theorem ye3 (h:Hp):(zc0 h).Pairwise (fun a b=>a+osz h a<=b):=by
 unfold zc0 zm3
 refine List.Pairwise.filter _ ?_
 unfold zi5
 by_cases h1:okH h=true
 · rw [if_pos h1]
   split
   · exact (yc8 h1 _ (Nat.le_refl _)).1
   · exact List.Pairwise.nil
 · rw [if_neg h1];exact List.Pairwise.nil
theorem pairwise_two {R:Int->Int->Prop}:∀ {l:List Int},l.Pairwise R->∀ {a b:Int},a∈l->b∈l->a=b\/R a b\/R b a
 | [],_,a,b,ha,_=>by cases ha
 | c :: l,hp,a,b,ha,hb=>by
  obtain ⟨h1,h2⟩:=List.pairwise_cons.1 hp
  rcases List.mem_cons.1 ha with ha2 | ha2 <;> rcases List.mem_cons.1 hb with hb2 | hb2
  · exact Or.inl (ha2.trans hb2.symm)
  · subst ha2;exact Or.inr (Or.inl (h1 _ hb2))
  · subst hb2;exact Or.inr (Or.inr (h1 _ ha2))
  · exact pairwise_two h2 ha2 hb2
theorem objects_apart {h:Hp} {a b:Int} (ha:a∈zc0 h) (hb:b∈zc0 h) (hne:a≠b):a+osz h a<=b\/b+osz h b<=a :=
 (pairwise_two (ye3 h) ha hb).resolve_left hne
theorem zf6 {h:Hp} {a:Int} (ha:a∈zc0 h):∃ i j g,Begins h a i j g:=begins (zy5 ha).1
theorem zj5 {len:Nat} {a:Int} {n:Nat}:okA len a n=true↔4096<=a/\a+n<=4096+len:=by
 unfold okA;rw [decide_eq_true_eq];omega
theorem zt8 (xs:List Int) {a:Int} (h:4096<=a):ze1 xs a=(xs[(a - 4096).toNat]?).getD 0:=by
 unfold ze1
 by_cases hk:okA xs.length a 1=true
 · rw [if_pos hk,List.getD_eq_getElem?_getD]
 · rw [if_neg hk]
   have:xs[(a - 4096).toNat]?=none:=by
    rw [List.getElem?_eq_none_iff]
    have h2:¬(4096<=a/\a+(1:Nat)<=4096+xs.length):=fun c=>hk (zj5.2 c)
    omega
   rw [this];rfl
theorem load_low (xs:List Int) {a:Int} (h:a < 4096):ze1 xs a=0:=by
 unfold ze1 okA
 rw [if_neg]
 simp only [decide_eq_true_eq]
 omega
theorem zy9 {xs l:List Int} {p:Int} (h:okA xs.length p l.length=true):(zc8 xs p l).length=xs.length:=by
 unfold zc8;rw [if_pos h]
 have:=zj5.1 h
 exact zo7 (by omega)
theorem zu7 {xs l:List Int} {p:Int} (h:okA xs.length p l.length=true) {a:Int} (ha:a < p\/p+l.length<=a):ze1 (zc8 xs p l) a=ze1 xs a:=by
 have h2:=zj5.1 h
 by_cases h4:4096<=a
 · rw [zt8 _ h4,zt8 _ h4]
   unfold zc8;rw [if_pos h,ya1 (by omega) (by omega)]
 · rw [load_low _ (by omega),load_low _ (by omega)]
theorem load_write_in {xs:List Int} {p v:Int} (h:okA xs.length p 1=true):ze1 (zc8 xs p [v]) p=v:=by
 have h2:=zj5.1 h
 rw [zt8 _ h2.1]
 unfold zc8;rw [if_pos (show okA xs.length p [v].length=true from h),zy7 (by simp;omega) (Nat.le_refl _) (by simp),Nat.sub_self];rfl
theorem move_len {xs:List Int} {t f n:Int} (h0:0<=n) (ht:okA xs.length t n.toNat=true) (hf:okA xs.length f n.toNat=true):(zj0 xs t f n).length=xs.length:=by
 unfold zj0;rw [if_neg (by omega),if_pos ⟨ht,hf⟩]
 have h1:=zj5.1 ht
 have h2:=zj5.1 hf
 refine zo7 ?_
 rw [List.length_take,List.length_drop];omega
theorem load_move_out {xs:List Int} {t f n:Int} (h0:0<=n) (ht:okA xs.length t n.toNat=true) (hf:okA xs.length f n.toNat=true) {a:Int} (ha:a < t\/t+n<=a):ze1 (zj0 xs t f n) a=ze1 xs a:=by
 have h1:=zj5.1 ht
 have h2:=zj5.1 hf
 by_cases h4:4096<=a
 · rw [zt8 _ h4,zt8 _ h4]
   unfold zj0;rw [if_neg (by omega),if_pos ⟨ht,hf⟩,ya1 (by rw [List.length_take,List.length_drop];omega) (by rw [List.length_take,List.length_drop];omega)]
 · rw [load_low _ (by omega),load_low _ (by omega)]
theorem load_move_in {xs:List Int} {t f n:Int} (h0:0<=n) (ht:okA xs.length t n.toNat=true) (hf:okA xs.length f n.toNat=true) {k:Int} (hk0:0<=k) (hk:k < n):ze1 (zj0 xs t f n) (t+k)=ze1 xs (f+k):=by
 have h1:=zj5.1 ht
 have h2:=zj5.1 hf
 rw [zt8 _ (by omega),zt8 _ (by omega)]
 unfold zj0;rw [if_neg (by omega),if_pos ⟨ht,hf⟩,zy7 (by rw [List.length_take,List.length_drop];omega) (by omega) (by rw [List.length_take,List.length_drop];omega),List.getElem?_take,if_pos (by omega),List.getElem?_drop]
 congr 2;omega
def zj6 (x:Wk) (q:Int):Prop:=∃ (k:Nat) (g:Pg),(k:Int)∈x.taken/\x.h.pages[k]?=some g/\4096+(k:Int)*x.h.pw<=q/\okD (evWd x q).toNat=true/\q+evN x q<=4096+(k:Int)*x.h.pw+g.used
def zm1 (x:Wk) (a:Int):Bool:=decide (¬a∈x.queue) && !okT (evWd x a).toNat
structure Inv (h:Hp) (x:Wk):Prop where
 ok:okH h=true
 pw:x.h.pw=h.pw
 np:x.h.np=h.np
 sp:x.h.space=h.space
 old:x.old=zc0 h
 wl:x.h.words.length=h.words.length
 pl:x.h.pages.length=h.pages.length
 tk:∀ t∈x.taken,∃ (k:Nat) (g0 g:Pg),t=(k:Int)/\h.pages[k]?=some g0/\g0.kind=0/\x.h.pages[k]?=some g/\g.kind=1/\0<=g.used/\g.used<=h.pw
 pg:∀ (k:Nat) (g0:Pg),h.pages[k]?=some g0->¬(k:Int)∈x.taken->∃ g,x.h.pages[k]?=some g/\g.kind=g0.kind/\g.used=g0.used
 tl:x.taken.length<=ze6 x.h.pages
 un:∀ a∈zc0 h,evWd x a=ze1 h.words a\/(okT (evWd x a).toNat=true/\¬a∈x.queue/\zi2 x (ofI h.pw h.np a)=false)
 qs:∀ q∈x.queue,q∈zc0 h\/zj6 x q
 dj:∀ q∈x.queue,∀ r∈x.queue,zj6 x q->zj6 x r->q≠r->q+evN x q<=r\/r+evN x r<=q
 cnt:x.queue.length+((zc0 h).filter (zm1 x)).length<=(zc0 h).length
structure Later (x y:Wk):Prop where
 sc:y.sc=x.sc
 qu:∃ l,y.queue=x.queue ++ l
 hd:∀ q∈x.queue,evWd y q=evWd x q
theorem Later.refl (x:Wk):Later x x:=⟨rfl,⟨[],by simp⟩,fun _ _=>rfl⟩
theorem Later.mem {x y:Wk} (h:Later x y) {q:Int} (hq:q∈x.queue):q∈y.queue:=by
 obtain ⟨l,e⟩:=h.qu;rw [e];exact List.mem_append_left _ hq
theorem Later.trans {x y z:Wk} (h:Later x y) (k:Later y z):Later x z:=by
 refine ⟨k.sc.trans h.sc,?_,fun q hq=>(k.hd q (h.mem hq)).trans (h.hd q hq)⟩
 obtain ⟨l,e⟩:=h.qu
 obtain ⟨m,f⟩:=k.qu
 exact ⟨l ++ m,by rw [f,e,List.append_assoc]⟩
theorem evN_ok {x:Wk} {a:Int} (h:okD (evWd x a).toNat=true):evN x a=dN (evWd x a).toNat+1/\(evH x a).n=dN (evWd x a).toNat:=by
 have e:=dec_ok h
 have v:=(zr2 h).2.2
 refine ⟨?_,?_⟩
 · unfold evN;rw [e.1,e.2.1,e.2.2,zu2 v]
 · unfold evH;exact e.2.1
theorem old_ev {h:Hp} {x:Wk} {a:Int} (ha:a∈zc0 h) (e:evWd x a=ze1 h.words a):okD (evWd x a).toNat=true/\evN x a=osz h a/\(evH x a).n+1=osz h a/\okT (evWd x a).toNat=false:=by
 obtain ⟨i,j,g,b⟩:=zf6 ha
 have hp:=b.pos
 have h1:(evWd x a).toNat=zg4 h a:=by
  rw [e,zt8 _ hp.2];unfold zg4;rw [List.getD_eq_getElem?_getD]
 have h2:okD (evWd x a).toNat=true:=by rw [h1];exact b.od
 obtain ⟨e1,e2⟩:=evN_ok h2
 have hs:=b.sz
 rw [<-h1] at hs
 refine ⟨h2,by omega,by omega,?_⟩
 rw [<-Bool.not_eq_true]
 exact fun c=>apart _ ⟨h2,c⟩
theorem Inv.kept {h:Hp} {x:Wk} (I:Inv h x) {a:Int} (ha:a∈zc0 h) (hq:a∈x.queue):evWd x a=ze1 h.words a :=
 (I.un a ha).elim id (fun c=>absurd hq c.2.1)
theorem Inv.conf {h:Hp} {x:Wk} (I:Inv h x):16<=h.pw/\h.pw<=64/\8<=h.np/\h.np<=64/\(h.words.length:Int)=h.np*h.pw/\(h.pages.length:Int)=h.np/\h.np*h.pw<=4096/\0<=h.space/\h.space<=1:=by
 obtain ⟨c1,c2,c3,c4,c5,c6,c7⟩:=zc2 I.ok
 obtain ⟨p1,p2,p3,p4,p5⟩:=zb1 c1
 exact ⟨p1,p2,p4,p5,c2,c3,(zd6 c1).2,c4,c5⟩
theorem Inv.qlen {h:Hp} {x:Wk} (I:Inv h x):x.queue.length<=(zc0 h).length/\(zc0 h).length<=4096:=by
 refine ⟨by have:=I.cnt;omega,?_⟩
 unfold zc0 zm3
 exact Nat.le_trans (List.length_filter_le _ _) (yd6 h)
theorem Inv.plok {h:Hp} {x:Wk} (I:Inv h x):PlOK x:=by
 obtain ⟨c1,c2,c3,c4,c5,c6,c7,c8,c9⟩:=I.conf
 have h1:=I.pl
 refine ⟨by rw [I.pw];exact c1,by rw [I.pw];exact c2,by omega,by omega,by rw [I.sp];exact c8,by rw [I.sp];exact c9,?_,fun l hl=>?_⟩
 · have h2:=I.tl
   have h3:=inUse_le x.h.pages
   omega
 · obtain ⟨k,g0,g,e,-,-,h4,-,h5,h6⟩:=I.tk l (List.mem_of_getLast? hl)
   exact ⟨k,e,g,h4,h5,by rw [I.pw];exact h6⟩
theorem Inv.fwok {h:Hp} {x:Wk} (I:Inv h x):FwOK x:=by
 have h1:=I.conf
 have h2:=I.wl
 have h3:=I.qlen
 exact ⟨I.plok,by omega,by omega⟩
theorem Inv.copy {h:Hp} {x:Wk} (I:Inv h x) {q:Int} (hc:zj6 x q):∃ (k:Nat) (g0:Pg),h.pages[k]?=some g0/\g0.kind=0/\(k:Int) < h.np/\4096+(k:Int)*h.pw<=q/\q+evN x q<=4096+(k:Int)*h.pw+h.pw/\1<=evN x q/\okD (evWd x q).toNat=true:=by
 obtain ⟨k,g,h1,h2,h3,h4,h5⟩:=hc
 obtain ⟨k2,g0,g2,e,f1,f2,f3,f4,f5,f6⟩:=I.tk _ h1
 obtain rfl:k=k2:=by omega
 rw [h2] at f3
 injection f3 with f3
 subst f3
 have:=(evN_ok h4).1
 have h7:=(List.getElem?_eq_some_iff.1 f1).1
 have h8:=I.conf
 rw [I.pw] at h3 h5
 exact ⟨k,g0,f1,f2,by omega,h3,by omega,by omega,h4⟩
theorem Inv.old_copy {h:Hp} {x:Wk} (I:Inv h x) {a q:Int} (ha:a∈zc0 h) (hc:zj6 x q):a+osz h a<=q\/q+evN x q<=a:=by
 obtain ⟨k,g0,h1,h2,h3,h4,h5,h6,h7⟩:=I.copy hc
 obtain ⟨i,j,g,b⟩:=zf6 ha
 have:=zs6 b h1 h2
 omega
theorem Inv.inside {h:Hp} {x:Wk} (I:Inv h x) {A i:Int} (hA:A∈x.queue) (h0:0<=i) (h1:i < (evH x A).n) :
 okA x.h.words.length (A+1+i) 1=true/\(∀ a∈zc0 h,A+1+i≠a)/\(∀ q∈x.queue,A+1+i≠q):=by
 have hcf:=I.conf
 have hwl:=I.wl
 rcases I.qs A hA with ho | hc
 · have e:=I.kept ho hA
   obtain ⟨e1,e2,e3,e4⟩:=old_ev ho e
   obtain ⟨i2,j2,g,b⟩:=zf6 ho
   have hb:=b.pos
   have hbl:=b.wl
   have hold:∀ a∈zc0 h,A+1+i≠a:=fun a ha eq=>by
    by_cases hne:A=a
    · omega
    · have h2:=objects_apart ho ha hne
      obtain ⟨i3,j3,g3,b3⟩:=zf6 ha
      have:=b3.pos
      omega
   refine ⟨zj5.2 (by omega),hold,fun q hq eq=>?_⟩
   rcases I.qs q hq with h2 | h2
   · exact hold q h2 eq
   · have h3:=I.old_copy ho h2
     obtain ⟨k,g0,f1,f2,f3,f4,f5,f6,f7⟩:=I.copy h2
     omega
 · obtain ⟨k,g0,f1,f2,f3,f4,f5,f6,f7⟩:=I.copy hc
   obtain ⟨e1,e2⟩:=evN_ok f7
   obtain ⟨c1,-⟩:=zc2 I.ok
   have pp:=zj2 (p:=k) c1 (by omega) f3
   have hold:∀ a∈zc0 h,A+1+i≠a:=fun a ha eq=>by
    have h3:=I.old_copy ha hc
    obtain ⟨i3,j3,g3,b3⟩:=zf6 ha
    have:=b3.pos
    omega
   refine ⟨zj5.2 (by omega),hold,fun q hq eq=>?_⟩
   rcases I.qs q hq with h2 | h2
   · exact hold q h2 eq
   · by_cases hne:A=q
     · omega
     · have h3:=I.dj A hA q hq hc h2 hne
       obtain ⟨k2,g2,d1,d2,d3,d4,d5,d6,d7⟩:=I.copy h2
       omega
theorem filter_same {p q:Int->Bool}:∀ {l:List Int},(∀ a∈l,p a=q a)->l.filter p=l.filter q
 | [],_=>rfl
 | a :: l,h=>by
  rw [List.filter_cons,List.filter_cons,h a (List.mem_cons_self ..),filter_same (fun b hb=>h b (List.mem_cons_of_mem _ hb))]
theorem yd8 {p q:Int->Bool} {c:Int}:∀ {l:List Int},(∀ a∈l,q a=true->p a=true)->c∈l->p c=true->q c=false->(l.filter q).length+1<=(l.filter p).length
 | [],_,hc,_,_=>by cases hc
 | a :: l,h,hc,hp,hq=>by
  have hle:∀ {m:List Int},(∀ a∈m,q a=true->p a=true)->(m.filter q).length<=(m.filter p).length:=by
   intro m
   induction m with
   | nil=>intro _;exact Nat.le_refl _
   | cons b m ih =>
    intro hm
    have h1:=ih (fun a ha=>hm a (List.mem_cons_of_mem _ ha))
    have h2:=hm b (List.mem_cons_self ..)
    rw [List.filter_cons,List.filter_cons]
    cases hqb:q b
    · simp only [Bool.false_eq_true,if_false]
      cases p b <;> simp <;> omega
    · rw [h2 hqb];simp;omega
  rw [List.filter_cons,List.filter_cons]
  rcases List.mem_cons.1 hc with rfl | hc
  · rw [hp,hq]
    have:=hle (m:=l) (fun a ha=>h a (List.mem_cons_of_mem _ ha))
    simp;omega
  · have h1:=yd8 (fun a ha=>h a (List.mem_cons_of_mem _ ha)) hc hp hq
    have h2:=h a (List.mem_cons_self ..)
    cases hqb:q a
    · simp only [Bool.false_eq_true,if_false]
      cases p a <;> simp <;> omega
    · rw [h2 hqb];simp;omega
theorem Inv.write {h:Hp} {x:Wk} (I:Inv h x) {p v:Int} (hp:okA x.h.words.length p 1=true) (h1:∀ a∈zc0 h,p≠a) (h2:∀ q∈x.queue,p≠q) :
 Inv h { x with h:={ x.h with words:=zc8 x.h.words p [v] } }/\Later x { x with h:={ x.h with words:=zc8 x.h.words p [v] } }:=by
 have hev:∀ a,p≠a->evWd { x with h:={ x.h with words:=zc8 x.h.words p [v] } } a=evWd x a:=fun a ha=>by
  unfold evWd;exact zu7 (l:=[v]) hp (by simp only [List.length_singleton];omega)
 have hcp:∀ q∈x.queue,(zj6 { x with h:={ x.h with words:=zc8 x.h.words p [v] } } q↔zj6 x q):=fun q hq=>by
  unfold zj6 evN
  rw [hev q (h2 q hq)]
 have hn:∀ q∈x.queue,evN { x with h:={ x.h with words:=zc8 x.h.words p [v] } } q=evN x q:=fun q hq=>by
  unfold evN;rw [hev q (h2 q hq)]
 refine ⟨⟨I.ok,I.pw,I.np,I.sp,I.old,?_,I.pl,I.tk,I.pg,I.tl,fun a ha=>?_,fun q hq=>?_,fun q hq r hr cq cr hne=>?_,?_⟩,⟨rfl,⟨[],by simp⟩,fun q hq=>hev q (h2 q hq)⟩⟩
 · exact (zy9 (l:=[v]) hp).trans I.wl
 · rw [hev a (h1 a ha)];exact I.un a ha
 · rcases I.qs q hq with c | c
   · exact Or.inl c
   · exact Or.inr ((hcp q hq).2 c)
 · rw [hn q hq,hn r hr];exact I.dj q hq r hr ((hcp q hq).1 cq) ((hcp r hr).1 cr) hne
 · rw [filter_same (q:=zm1 x) (fun a ha=>by unfold zm1;rw [hev a (h1 a ha)])];exact I.cnt
structure PlOK7 (h:Hp):Prop where
 conf:zb8 h.pw h.np=true
 len:(h.pages.length:Int)=h.np
 sp:0<=h.space/\h.space<=1
 bp:h.bump = -1\/∃ K:Nat,∃ x:Pg,h.bump=K/\h.pages[K]?=some x/\x.kind=1/\0<=x.used/\x.used<=h.pw
theorem PlOK7.bump {h:Hp} (hp:PlOK7 h):(h.bump = -1\/0<=h.bump/\h.bump < h.pages.length)/\(¬h.bump = -1->0<=(h.pages.getD h.bump.toNat Pg.zero).used/\(h.pages.getD h.bump.toNat Pg.zero).used<=100000):=by
 obtain ⟨_,k2,_⟩:=zb1 hp.conf
 rcases hp.bp with h1 | ⟨K,x,h1,h2,-,h3,h4⟩
 · exact ⟨Or.inl h1,fun c=>absurd h1 c⟩
 · have:=(List.getElem?_eq_some_iff.1 h2).1
   rw [h1,Int.toNat_natCast,zc6 h2]
   exact ⟨Or.inr ⟨by omega,by omega⟩,fun _=>⟨h3,by omega⟩⟩
theorem addr_in {pw np:Int} {K:Nat} {o:Int} (hc:zb8 pw np=true) (hk:(K:Int) < np) (h0:0<=o) (h1:o < pw):addrE pw np K o=0/\zd4 pw np K o=4096+K*pw+o:=by
 obtain ⟨a,b⟩:=addr_ok hc (p:=(K:Int)) (o:=o) (decide_eq_true ⟨by omega,hk,h0,h1⟩)
 exact ⟨b,a⟩
theorem place_bump {h:Hp} {nn:Int} (hp:PlOK7 h) (h1:1<=nn) (hn:newB h nn=false) :
 ∃ (K:Nat) (x:Pg),h.bump=K/\h.pages[K]?=some x/\(0<=x.used/\x.used<=100000)/\zf5 h nn=true/\zq5 h nn=⟨h.pw,h.np,h.words,h.pages.set K ⟨x.kind,x.space,x.used+nn,x.pins⟩,h.space,K⟩/\addrE h.pw h.np K x.used=0/\zq6 h nn=zd4 h.pw h.np K x.used:=by
 have hd:=of_decide_eq_false hn
 obtain ⟨_,k2,_⟩:=zb1 hp.conf
 rcases hp.bp with h2 | ⟨K,x,h2,h3,-,h4,h5⟩
 · exact absurd (Or.inl (by omega)) hd
 · have hK:=(List.getElem?_eq_some_iff.1 h3).1
   have hbp:zs1 h=x:=by unfold zs1;rw [h2,Int.toNat_natCast,zc6 h3]
   have hl:=hp.len
   rw [hbp] at hd
   obtain ⟨a,b⟩:=addr_in (K:=K) (o:=x.used) hp.conf (by omega) h4 (by omega)
   have hJ:zl3 h nn=K:=by unfold zl3;rw [hn];exact h2
   have hP:zf8 h nn=h.pages:=by unfold zf8;rw [hn];rfl
   refine ⟨K,x,h2,h3,⟨h4,by omega⟩,by unfold zf5;rw [hn];rfl,?_,a,?_⟩
   · unfold zq5 useAt;rw [hJ,hP,Int.toNat_natCast,zc6 h3]
   · unfold zq6;rw [hJ,hP,Int.toNat_natCast,zc6 h3,b]
theorem place_new {h:Hp} {nn:Int} (hp:PlOK7 h) (hn:newB h nn=true) (hf:zt3 h=false) :
 ∃ (K:Nat),zc7 h.pages 1=K/\K < h.pages.length/\zk9 h.pages K h.space=0/\zj3 h.pages K h.space=h.pages.set K ⟨1,h.space,0,0⟩/\(∃ y,h.pages[K]?=some y/\y.kind=0)/\zf5 h nn=true/\zq5 h nn=⟨h.pw,h.np,h.words,(h.pages.set K ⟨1,h.space,0,0⟩).set K ⟨1,h.space,0+nn,0⟩,h.space,K⟩/\addrE h.pw h.np K 0=0/\zq6 h nn=zd4 h.pw h.np K 0:=by
 have hd:=of_decide_eq_false hf
 have hF:0<=zc7 h.pages 1:=by omega
 obtain ⟨-,f1,f2⟩:=zu3 hF
 obtain ⟨K,hK⟩:=Int.eq_ofNat_of_zero_le hF
 rw [hK] at f1 f2
 obtain ⟨y,hy,hy0⟩:=f2 K (by omega) (by omega)
 have hlt:K < h.pages.length:=(List.getElem?_eq_some_iff.1 hy).1
 have hfree:zh7 h.pages K 1=true:=by
  have:=zr5 (ps:=h.pages) (i:=K) (k:=0) (x:=y) (by rw [Nat.add_zero];exact hy)
  rw [zu0,hy0] at this;simpa using this
 obtain ⟨t1,t2⟩:=zx6 (x:=⟨1,h.space,0,0⟩) (y:=Pg.zero) hlt (show K+1<=h.pages.length by omega) hfree
 rw [put_head (by omega) (by omega),put_zero] at t1
 have hps:zj3 h.pages K h.space=h.pages.set K ⟨1,h.space,0,0⟩:=by
  unfold zj3;rw [if_pos hp.sp];exact t1
 have hpe:zk9 h.pages K h.space=0:=by unfold zk9;rw [if_pos hp.sp];exact t2
 have hl:=hp.len
 obtain ⟨k1,k2,_⟩:=zb1 hp.conf
 obtain ⟨a,b⟩:=addr_in (K:=K) (o:=0) hp.conf (by omega) (by omega) (by omega)
 have hJ:zl3 h nn=K:=by unfold zl3;rw [hn];exact hK
 have hP:zf8 h nn=h.pages.set K ⟨1,h.space,0,0⟩:=by unfold zf8;rw [hn,if_pos rfl,hK,hps]
 have hg:(h.pages.set K ⟨1,h.space,0,0⟩)[K]?=some ⟨1,h.space,0,0⟩:=by rw [List.getElem?_set,if_pos rfl,if_pos hlt]
 refine ⟨K,hK,hlt,hpe,hps,⟨y,hy,hy0⟩,by unfold zf5;rw [hn,hf];rfl,?_,a,?_⟩
 · unfold zq5 useAt;rw [hJ,hP,Int.toNat_natCast,zc6 hg]
 · unfold zq6;rw [hJ,hP,Int.toNat_natCast,zc6 hg,b]
theorem place_large {h:Hp} {n k:Int} (hp:PlOK7 h) (hk:zb6 h.pw h.np n=k) (h1:1<=k) (hF:0<=zc7 h.pages k) :
 ∃ (K kk:Nat),k=kk/\zc7 h.pages k=K/\K+kk<=h.pages.length/\zh7 h.pages K kk=true/\zo4 h.pw h.np h.pages K h.space n=0/\zl0 h.pw h.np h.pages K h.space n=put (h.pages.set K ⟨2,h.space,n,0⟩) (K+1) (kk - 1) ⟨3,h.space,0,0⟩/\addrE h.pw h.np K 0=0/\zt4 h k=zd4 h.pw h.np K 0:=by
 obtain ⟨-,f1,f2⟩:=zu3 hF
 obtain ⟨K,hK⟩:=Int.eq_ofNat_of_zero_le hF
 obtain ⟨kk,hkk⟩:=Int.eq_ofNat_of_zero_le (show 0<=k by omega)
 rw [hK] at f1 f2
 have hfree:∀ j:Nat,j<=kk->zh7 h.pages K j=true:=by
  intro j
  induction j with
  | zero=>intro _;exact zu0 _ _
  | succ j ih =>
   intro hj
   obtain ⟨y,hy,hy0⟩:=f2 (K+j) (by omega) (by omega)
   rw [zr5 hy,ih (by omega),hy0];rfl
 have hl:=hp.len
 obtain ⟨k1,k2,_⟩:=zb1 hp.conf
 obtain ⟨a,b⟩:=addr_in (K:=K) (o:=0) hp.conf (by omega) (by omega) (by omega)
 obtain ⟨t1,t2⟩:=zx6 (x:=⟨2,h.space,n,0⟩) (y:=⟨3,h.space,0,0⟩) (show K < h.pages.length by omega) (show K+kk<=h.pages.length by omega) (hfree kk (Nat.le_refl _))
 rw [put_head (by omega) (by omega)] at t1
 obtain ⟨e1,e2⟩:=largeP_ok (ps:=h.pages) (i:=(K:Int)) (show 1<=zb6 h.pw h.np n/\0<=h.space/\h.space<=1 from ⟨by omega,hp.sp⟩)
 refine ⟨K,kk,hkk,hK,by omega,hfree kk (Nat.le_refl _),?_,?_,a,?_⟩
 · rw [e2,hk,hkk];exact t2
 · rw [e1,hk,hkk];exact t1
 · unfold zt4;rw [hK,b];omega
def placeOK (h:Hp) (n:Int):Bool:=if 0 < zb6 h.pw h.np n then zn9 h (zb6 h.pw h.np n) else zf5 h n
def zs3 (h:Hp) (n:Int):Hp:=if 0 < zb6 h.pw h.np n then largeH h n (zb6 h.pw h.np n) else zq5 h n
def zt7 (h:Hp) (n:Int):Int:=if 0 < zb6 h.pw h.np n then zt4 h (zb6 h.pw h.np n) else zq6 h n
def okP (h:Hp):Bool:=zj4 h.pw h.np h.words.length h.pages h.space h.bump
theorem okP_parts {h:Hp} (hp:okP h=true):zb8 h.pw h.np=true/\(h.words.length:Int)=h.np*h.pw/\(h.pages.length:Int)=h.np/\zk2 h.space=true/\zm7 h.pages h.bump=true/\zi7 h.pw h.np h.pages=true:=by
 unfold okP zj4 at hp
 simp only [Bool.and_eq_true,decide_eq_true_eq] at hp
 obtain ⟨⟨⟨⟨⟨h1,h2⟩,h3⟩,h4⟩,h5⟩,h6⟩:=hp
 exact ⟨h1,h2,h3,h4,h5,h6⟩
theorem okP_mk {h:Hp} (h1:zb8 h.pw h.np=true) (h2:(h.words.length:Int)=h.np*h.pw) (h3:(h.pages.length:Int)=h.np) (h4:zk2 h.space=true) (h5:zm7 h.pages h.bump=true) (h6:zi7 h.pw h.np h.pages=true):okP h=true:=by
 unfold okP zj4
 rw [h1,decide_eq_true h2,decide_eq_true h3,h4,h5,h6];rfl
theorem small_of {pw np:Int} {ps:List Pg} {K:Nat} {x:Pg} (h:zi7 pw np ps=true) (hx:ps[K]?=some x) (h1:x.kind=1):zk2 x.space=true/\(0<=x.used/\x.used<=pw)/\zh3 x.pins=true:=by
 have:=zv4.1 h K x hx
 unfold zg7 at this
 rw [if_neg (by omega),if_pos h1] at this
 unfold zo6 at this
 rw [Bool.and_eq_true,Bool.and_eq_true,decide_eq_true_eq] at this
 exact ⟨this.1.1,this.1.2,this.2⟩
theorem PlOK7.of {h:Hp} (hp:okP h=true):PlOK7 h:=by
 obtain ⟨h1,h2,h3,h4,h5,h6⟩:=okP_parts hp
 refine ⟨h1,h3,zv8.1 h4,?_⟩
 rcases of_decide_eq_true h5 with e | ⟨e1,e2,e3⟩
 · exact Or.inl e
 · have hx:h.pages[h.bump.toNat]?=some (h.pages[h.bump.toNat]'(by omega)):=List.getElem?_eq_getElem _
   rw [zc6 hx] at e3
   obtain ⟨-,hu,-⟩:=small_of h6 hx e3
   exact Or.inr ⟨h.bump.toNat,_,by omega,hx,e3,hu.1,hu.2⟩
theorem needP_le {pw n:Int} (hn:0 < zl2 pw n):n<=zl2 pw n*pw:=by
 unfold zl2 at *
 split at hn
 · omega
 · rename_i h0
   rw [if_neg h0]
   split at hn
   · rename_i h1;rw [if_pos h1];omega
   · rename_i h1
     rw [if_neg h1]
     split at hn
     · rename_i h2;rw [if_pos h2];omega
     · rename_i h2
       rw [if_neg h2]
       split at hn
       · rename_i h3;rw [if_pos h3];omega
       · rename_i h3
         rw [if_neg h3]
         split at hn
         · rename_i h4;rw [if_pos h4];omega
         · omega
theorem needV_small {pw np n:Int} (hc:zb8 pw np=true) (h0:¬0 < zb6 pw np n) (h1:¬zb6 pw np n = -1):1<=n/\n<=pw / 4:=by
 have hz:zb6 pw np n=0:=by have:=needV_ge pw np n;omega
 by_cases hn:1<=n
 · rw [zx2 hc hn] at hz
   refine ⟨hn,?_⟩
   unfold zl2 at hz
   split at hz
   · assumption
   · split at hz
     · omega
     · split at hz
       · omega
       · split at hz
         · omega
         · split at hz <;> omega
 · rw [zx3 (Or.inr (by omega))] at hz;omega
theorem bumpB_mk {ps:List Pg} {K:Nat} {x:Pg} (h:ps[K]?=some x) (h1:x.kind=1):zm7 ps K=true:=by
 have:=(List.getElem?_eq_some_iff.1 h).1
 refine decide_eq_true (Or.inr ⟨by omega,by omega,?_⟩)
 rw [Int.toNat_natCast,zc6 h];exact h1
theorem place_proper {h:Hp} {s:Int} (hp:okP h=true) (h1:1<=s) (hn:¬zb6 h.pw h.np s = -1) (hok:placeOK h s=true) :
 okP (zs3 h s)=true/\(zs3 h s).words=h.words/\(0<=zt7 h s/\zt7 h s < 18446744073709551616)/\okA h.words.length (zt7 h s) s.toNat=true:=by
 obtain ⟨p1,p2,p3,p4,p5,p6⟩:=okP_parts hp
 have hpl:=PlOK7.of hp
 obtain ⟨g1,g2⟩:=zd6 p1
 obtain ⟨k1,k2,-,k4,k5⟩:=zb1 p1
 unfold placeOK at hok
 unfold zs3 zt7
 by_cases hk:0 < zb6 h.pw h.np s
 · rw [if_pos hk] at hok
   rw [if_pos hk,if_pos hk]
   have hd:=of_decide_eq_true hok
   obtain ⟨K,kk,e1,e2,e3,e4,-,e6,-,e8⟩:=place_large (n:=s) hpl rfl (by omega) (show 0<=zc7 h.pages (zb6 h.pw h.np s) by omega)
   have hH:largeH h s (zb6 h.pw h.np s)={ h with pages:=put (h.pages.set K ⟨2,h.space,s,0⟩) (K+1) (kk - 1) ⟨3,h.space,0,0⟩ }:=by unfold largeH;rw [e2,e6]
   have hlen:(put (h.pages.set K ⟨2,h.space,s,0⟩) (K+1) (kk - 1) ⟨3,h.space,0,0⟩).length=h.pages.length:=by rw [zw1 (by rw [List.length_set];omega),List.length_set]
   obtain ⟨a1,a2⟩:=addr_in (K:=K) (o:=0) p1 (by omega) (by omega) (by omega)
   have hsz:s<=zb6 h.pw h.np s*h.pw:=by
    have h3:=zx2 p1 h1
    rw [h3] at hk ⊢
    exact needP_le hk
   have hmul:(K:Int)*h.pw+zb6 h.pw h.np s*h.pw<=h.np*h.pw:=by
    rw [<-Int.add_mul]
    exact Int.mul_le_mul_of_nonneg_right (by omega) (by omega)
   have hK0:0<=(K:Int)*h.pw:=Int.mul_nonneg (by omega) (by omega)
   rw [hH,e8,a2]
   refine ⟨okP_mk p1 p2 (by simp only;rw [hlen];exact p3) p4 ?_ (table_large p6 e4 e3 (by omega) p4 e1),rfl,⟨by omega,by omega⟩,decide_eq_true ⟨by omega,by omega⟩⟩
   simp only
   rcases of_decide_eq_true p5 with e | ⟨c1,c2,c3⟩
   · exact decide_eq_true (Or.inl e)
   · have hx:h.pages[h.bump.toNat]?=some (h.pages[h.bump.toNat]'(by omega)):=List.getElem?_eq_getElem _
     rw [zc6 hx] at c3
     have hnf:¬(K<=h.bump.toNat/\h.bump.toNat < K+kk):=fun c=>by
      have hz':h.pages[h.bump.toNat]'(by omega)∈(h.pages.drop K).take kk:=by
       refine List.mem_of_getElem? (i:=h.bump.toNat - K) ?_
       rw [List.getElem?_take,if_pos (by omega),List.getElem?_drop,show K+(h.bump.toNat - K)=h.bump.toNat by omega];exact hx
      unfold zh7 at e4
      have:=of_decide_eq_true (List.all_eq_true.1 e4 _ hz')
      omega
     have hy:(put (h.pages.set K ⟨2,h.space,s,0⟩) (K+1) (kk - 1) ⟨3,h.space,0,0⟩)[h.bump.toNat]?=some (h.pages[h.bump.toNat]'(by omega)):=by
      rw [zq4 (by rw [List.length_set];omega) (by omega),List.getElem?_set,if_neg (by omega)];exact hx
     have:=bumpB_mk hy c3
     rwa [show ((h.bump.toNat:Nat):Int)=h.bump by omega] at this
 · rw [if_neg hk] at hok
   rw [if_neg hk,if_neg hk]
   obtain ⟨s1,s4⟩:=needV_small p1 hk hn
   cases hnb:newB h s
   · obtain ⟨K,x,b1,b2,b3,-,b5,-,b7⟩:=place_bump hpl h1 hnb
     have hKl:=(List.getElem?_eq_some_iff.1 b2).1
     have hx1:x.kind=1:=by
      rcases hpl.bp with e | ⟨K',x',e1,e2,e3,-⟩
      · omega
      · obtain rfl:K=K':=by omega
        rw [b2] at e2;cases e2;exact e3
     obtain ⟨u1,u2,u3⟩:=small_of p6 b2 hx1
     have hfit:x.used+s<=h.pw:=by
      have hd:=of_decide_eq_false hnb
      unfold zs1 at hd
      rw [b1,Int.toNat_natCast,zc6 b2] at hd
      omega
     obtain ⟨a1,a2⟩:=addr_in (K:=K) (o:=x.used) p1 (by omega) (by omega) (by omega)
     have hmul:(K:Int)*h.pw+h.pw<=h.np*h.pw:=(zj2 p1 (by omega) (by omega)).2
     have hK0:0<=(K:Int)*h.pw:=Int.mul_nonneg (by omega) (by omega)
     rw [b5,b7,a2]
     refine ⟨okP_mk p1 p2 (by simp only;rw [List.length_set];exact p3) p4 ?_ ?_,rfl,⟨by omega,by omega⟩,decide_eq_true ⟨by omega,by omega⟩⟩
     · exact bumpB_mk (x:=⟨x.kind,x.space,x.used+s,x.pins⟩) (by simp only;rw [List.getElem?_set,if_pos rfl,if_pos hKl]) hx1
     · refine table_small p6 b2 (Or.inr hx1) hx1 ?_
       unfold zo6
       simp only
       rw [u1,u3,decide_eq_true (show 0<=x.used+s/\x.used+s<=h.pw by omega)];rfl
   · have hf:zt3 h=false:=by
      unfold zf5 at hok
      rw [hnb,Bool.true_and] at hok
      simpa using hok
     obtain ⟨K,-,b2,-,-,⟨y,hy,hy0⟩,-,b5,-,b7⟩:=place_new hpl hnb hf
     obtain ⟨a1,a2⟩:=addr_in (K:=K) (o:=0) p1 (by omega) (by omega) (by omega)
     have hmul:(K:Int)*h.pw+h.pw<=h.np*h.pw:=(zj2 p1 (by omega) (by omega)).2
     have hK0:0<=(K:Int)*h.pw:=Int.mul_nonneg (by omega) (by omega)
     rw [List.set_set] at b5
     rw [b5,b7,a2]
     refine ⟨okP_mk p1 p2 (by simp only;rw [List.length_set];exact p3) p4 ?_ ?_,rfl,⟨by omega,by omega⟩,decide_eq_true ⟨by omega,by omega⟩⟩
     · exact bumpB_mk (x:=⟨1,h.space,0+s,0⟩) (by simp only;rw [List.getElem?_set,if_pos rfl,if_pos b2]) rfl
     · refine table_small p6 hy (Or.inl hy0) rfl ?_
       unfold zo6
       simp only
       rw [p4,show zh3 0=true from rfl,decide_eq_true (show 0<=0+s/\0+s<=h.pw by omega)];rfl
def RetRo (S:Nat->Prop) (x:Wk) (l:List Int) (er:Int) (e:Ending) (w':World):Prop:=∃ v q m c,e = .returned (.tuple #[v,.slice q m c,.int .i64 er])/\WV w' S v x/\SRow w' .u64 q m c l
theorem SRow.grown {w w':World} {kd:IntKind} {p:Option Addr} {n c:Nat} {xs:List Int} {row:Option Nat} (h:SRow w kd p n c xs) (hg:w.grownBy w' row) (hf:xs≠[]->∀ ad,p=some ad->some ad.block≠row):SRow w' kd p n c xs :=
 ⟨h.len,h.le,h.max,fun k x hx=>by
  obtain ⟨b,off,hp,hc⟩:=h.row k x hx
  exact ⟨b,off,hp,by rw [hg.cell_far ⟨b,off+k,none⟩ (zb4 hc) (hf (fun e=>by rw [e] at hx;simp at hx) ⟨b,off,none⟩ hp)];exact hc⟩⟩
theorem VRow.grown {w w':World} {s:Nat} {p:Option Addr} {n c:Nat} {xs:List Value} {row:Option Nat} (h:VRow w s p n c xs) (hg:w.grownBy w' row) (hf:xs≠[]->∀ ad,p=some ad->some ad.block≠row):VRow w' s p n c xs :=
 ⟨h.len,h.le,h.max,fun k x hx=>by
  obtain ⟨b,off,hp,hc⟩:=h.row k x hx
  exact ⟨b,off,hp,by rw [hg.cell_far ⟨b,off+k,none⟩ (zb4 hc) (hf (fun e=>by rw [e] at hx;simp at hx) ⟨b,off,none⟩ hp)];exact hc⟩⟩
theorem WR.grown {w w':World} {S:Nat->Prop} {x:Wk} {p q po pt pq:Option Addr} {n c m d no co nt ct nq cq:Nat} {row:Option Nat} (h:WR w S x p q po pt pq n c m d no co nt ct nq cq) (hg:w.grownBy w' row) (hS:∀ b,row=some b->S b):WR w' S x p q po pt pq n c m d no co nt ct nq cq :=
 have key:∀ ad:Addr,¬S ad.block->some ad.block≠row:=fun ad hn e=>hn (hS _ e.symm)
 ⟨h.words.grown hg (fun hne ad e=>key ad (h.aw hne ad e)),VRow.grown h.pages hg (fun hne ad e=>key ad (h.ap (fun e0=>hne (by rw [e0];rfl)) ad e)),h.wb,
  h.old.grown hg (fun hne ad e=>key ad (h.ao hne ad e)),h.taken.grown hg (fun hne ad e=>key ad (h.at_ hne ad e)),h.queue.grown hg (fun hne ad e=>key ad (h.aq hne ad e)),h.ap,h.at_,h.aw,h.ao,h.aq⟩
theorem OwnL.grown {w w':World} {b:Nat} {vs:List Value} {row:Option Nat} (h:OwnL w b vs) (hg:w.grownBy w' row) (hlt:b < w.heap.size) (hne:some b≠row):OwnL w' b vs :=
 ⟨fun i v hv=>by rw [hg.cell_far ⟨b,i,none⟩ hlt hne];exact h.cell i v hv,fun i=>by rw [hg.frozen_far ⟨b,i,none⟩ hlt hne];exact h.free i⟩
theorem roots_any (S:Nat->Prop) (x:Wk) (p q po pt pq:Option Addr) (n c m d no co nt ct nq cq:Nat) (rp:Option Addr) (rn rc:Nat) (l:List Int) (w:World) (hr:WR w S x p q po pt pq n c m d no co nt ct nq cq) (hS:∀ b,S b->b < w.heap.size) (hl:SRow w .u64 rp rn rc l) (hok:RootsOK x l) (hr9:rn<=100000) :
 Calls Tryz.prog 125 #[(.agg #[.int .i64 x.h.pw,.int .i64 x.h.np,.slice p n c,.slice q m d,.int .i64 x.h.space,.int .i64 x.h.bump,.slice po no co,.slice pt nt ct,.slice pq nq cq,.int .i64 x.sc,.int .i64 x.r0,.int .i64 x.r1,.int .i64 x.r2,.int .i64 x.r3,.int .i64 x.r4,.int .i64 x.r5]),.slice rp rn rc] w fun e w'=>RetRo S (zg2 x [] l).1 (zg2 x [] l).2.1 (zg2 x [] l).2.2 e w'/\Below w.heap.size w w':=by
 have Hr:=qq (fun w' (hb:Below w.heap.size w w')=>hr.keep hb)
 obtain ⟨S2,hs2,hsa,hsb,hsl,hr2⟩:=hr.box hS
 obtain ⟨w1,hw1,hbx⟩:=boxes2x w 146 [.int .i64 x.h.pw,.int .i64 x.h.np,.slice p n c,.slice q m d,.int .i64 x.h.space,.int .i64 x.h.bump,.slice po no co,.slice pt nt ct,.slice pq nq cq,.int .i64 x.sc,.int .i64 x.r0,.int .i64 x.r1,.int .i64 x.r2,.int .i64 x.r3,.int .i64 x.r4,.int .i64 x.r5] [.int .i64 0,.int .i64 0,.slice none 0 0,.slice none 0 0,.int .i64 0,.int .i64 0,.slice none 0 0,.slice none 0 0,.slice none 0 0,.int .i64 0,.int .i64 0,.int .i64 0,.int .i64 0,.int .i64 0,.int .i64 0,.int .i64 0]
 have Ha:=qq hbx.1
 have Hb:=qq hbx.2.1
 have HB:=qq hbx.2.2
 have HR:=qq (hr2.keep hbx.2.2)
 clear hbx hr2
 have hwa:w.heap.size < w1.heap.size:=Ha.out.lt rfl
 have hwb:w.heap.size+1 < w1.heap.size:=Hb.out.lt rfl
 have HLK:=qq (fun w' (hb:Below w.heap.size w w')=>hl.keep hb)
 clear hr hl
 obtain ⟨RX,hRX⟩:∃ RX,Hid (zg2 x [] l=RX):=⟨_,rfl⟩
 rw [hRX.out]
 have HOK:=qq hok
 clear hok
 go_enter Tryz.func125,Tryz.ntmps125
 go_upto_region 1 with fail
 rw [hw1.out]
 clear hw1
 go_wp2_with fail
 go_loopw [7,8] (fun u j wr=>∃ (SU:Nat->Prop) (kk:Nat) (acc:List Int) (y:Wk),∃ p2 q2 po2 pt2 pq2 n2 c2 m2 d2 no2 co2 nt2 ct2 nq2 cq2,j = .int .i64 kk/\kk<=rn/\acc.length=kk/\wr.ownsRow (w.heap.size+2) 48 1 u kk (zb2 .u64 acc)/\zg2 y acc (l.drop kk)=RX/\RootsOK y (l.drop kk)/\OwnL wr w.heap.size [.int .i64 y.h.pw,.int .i64 y.h.np,.slice p2 n2 c2,.slice q2 m2 d2,.int .i64 y.h.space,.int .i64 y.h.bump,.slice po2 no2 co2,.slice pt2 nt2 ct2,.slice pq2 nq2 cq2,.int .i64 y.sc,.int .i64 y.r0,.int .i64 y.r1,.int .i64 y.r2,.int .i64 y.r3,.int .i64 y.r4,.int .i64 y.r5]/\OwnL wr (w.heap.size+1) [.int .i64 0,.int .i64 0,.slice none 0 0,.slice none 0 0,.int .i64 0,.int .i64 0,.slice none 0 0,.slice none 0 0,.slice none 0 0,.int .i64 0,.int .i64 0,.int .i64 0,.int .i64 0,.int .i64 0,.int .i64 0,.int .i64 0]/\Below w.heap.size w wr/\(∀ b,S2 b->SU b)/\(∀ b,u.ownBlock=some b->SU b)/\(∀ b,SU b->b < wr.heap.size)/\WR wr SU y p2 q2 po2 pt2 pq2 n2 c2 m2 d2 no2 co2 nt2 ct2 nq2 cq2) (fun _ j _=>rn - (intOf j).toNat)
 case atStart=>exact ⟨S2,0,[],x,p,q,po,pt,pq,n,c,m,d,no,co,nt,ct,nq,cq,rfl,Nat.zero_le _,rfl,World.ownsRow_nil _ _ _ _,hRX.out,HOK.out,Ha.out,Hb.out,HB.out,fun _ h=>h,fun b hb=>by simp [Value.ownBlock] at hb,fun b hb=>by have:=hsl b hb;omega,HR.out⟩
 case round =>
  obtain ⟨SU,kk,acc,y,p2,q2,po2,pt2,pq2,n2,c2,m2,d2,no2,co2,nt2,ct2,nq2,cq2,rfl,hk2,hacc,hown,hgo,hso,ha,hb,hB,hSU2,hSUo,hSUl,hR⟩:=hrel
  clear Ha Hb HB HR HOK hwa hwb hRX
  have Ha:=qq ha
  have Hb:=qq hb
  have HB:=qq hB
  have HR:=qq hR
  have HL:=qq (HLK.out wr hB)
  have HGo:=qq hgo
  have HSo:=qq hso
  have Hown:=qq hown
  clear ha hb hB hR hgo hso hown
  have hwa:w.heap.size < wr.heap.size:=Ha.out.lt rfl
  have hwb:w.heap.size+1 < wr.heap.size:=Hb.out.lt rfl
  by_cases hlt:kk < rn
  · obtain ⟨R,bl,ol,hI,hpl,d0⟩:=HL.out.at_ hlt
    have hlt2:(kk:Int) < rn:=by omega
    have hdr0:=drop_at hI
    have HGo2:=HGo.out
    have HSo2:=HSo.out
    rw [hdr0] at HGo2 HSo2
    obtain ⟨hfw,⟨hR0,hR1⟩,hso3⟩:=HSo2
    clear HGo HSo hdr0 hI
    have HFW:=qq hfw
    have HRl:=qq hR1
    have hn2:n2<=100000:=by have:=HR.out.words.len;have:=hfw.wl;omega
    have hnq2:nq2<=1000000:=by have:=HR.out.queue.len;have:=hfw.ql;omega
    clear hfw hR1
    rw [zg2] at HGo2
    have HGo:=qq HGo2
    have HSo:=qq hso3
    clear HGo2 hso3
    subst hpl
    obtain ⟨E,hE⟩:∃ E,Hid (evE y R=E):=⟨_,rfl⟩
    obtain ⟨TO,hTO⟩:∃ TO,Hid (evA y R=TO):=⟨_,rfl⟩
    obtain ⟨Z9,hZ9⟩:∃ Z9,Hid (evW y R=Z9):=⟨_,rfl⟩
    have hfa:=fun (W:World) (hB:Below wr.heap.size wr W)=>refFwd_any SU y p2 q2 po2 pt2 pq2 n2 c2 m2 d2 no2 co2 nt2 ct2 nq2 cq2 R W (HR.out.keep hB) (fun b hb=>by have:=hSUl b hb;have:=hB.size;omega) hn2 hnq2 HFW.out.pl hR0 HRl.out
    have hfb:=fun (W:World) (hB:Below wr.heap.size wr W) (hl:wr.heap.size < W.heap.size)=>refFwd_any (fun b=>SU b\/b=wr.heap.size) y p2 q2 po2 pt2 pq2 n2 c2 m2 d2 no2 co2 nt2 ct2 nq2 cq2 R W ((HR.out.also (fun b=>b=wr.heap.size) (fun b hb=>by omega)).keep hB) (fun b hb=>by rcases hb with hb | hb <;> first | omega | (have:=hSUl b hb;omega)) hn2 hnq2 HFW.out.pl hR0 HRl.out
    rw [hE.out,hTO.out,hZ9.out] at hfa hfb HGo
    rw [hE.out,hZ9.out] at HSo
    have hTO9:=qq (show 0<=TO/\TO < 18446744073709551616 from by rw [<-hTO.out];exact evA_bd HFW.out.pl hR0 HRl.out)
    have hFA:=qq hfa
    have hFB:=qq hfb
    clear hfa hfb
    go_upto_region 5 with fail
    go_cut [9,10,11] (fun t9 t10 t11 wx=>∃ (b:Nat),∃ p3 q3 po3 pt3 pq3 n3 c3 m3 d3 no3 co3 nt3 ct3 nq3 cq3,t9 = .pointer (some ⟨b,0,none⟩)/\t10 = .int .u64 TO/\t11 = .int .i64 E/\OwnL wx b [.int .i64 Z9.h.pw,.int .i64 Z9.h.np,.slice p3 n3 c3,.slice q3 m3 d3,.int .i64 Z9.h.space,.int .i64 Z9.h.bump,.slice po3 no3 co3,.slice pt3 nt3 ct3,.slice pq3 nq3 cq3,.int .i64 Z9.sc,.int .i64 Z9.r0,.int .i64 Z9.r1,.int .i64 Z9.r2,.int .i64 Z9.r3,.int .i64 Z9.r4,.int .i64 Z9.r5]/\wr.heap.size<=b/\Below wr.heap.size wr wx/\WR wx SU Z9 p3 q3 po3 pt3 pq3 n3 c3 m3 d3 no3 co3 nt3 ct3 nq3 cq3)
    case first =>
     have hSof:=qq (fun W (hB:Below wr.heap.size wr W)=>(⟨(Ha.out.keep hB hwa).range,za0 hB d0,hB⟩:(fun W=>W.rangeAt w.heap.size 0 [.int .i64 y.h.pw,.int .i64 y.h.np,.slice p2 n2 c2,.slice q2 m2 d2,.int .i64 y.h.space,.int .i64 y.h.bump,.slice po2 no2 co2,.slice pt2 nt2 ct2,.slice pq2 nq2 cq2,.int .i64 y.sc,.int .i64 y.r0,.int .i64 y.r1,.int .i64 y.r2,.int .i64 y.r3,.int .i64 y.r4,.int .i64 y.r5]/\W.cell? ⟨bl,ol+kk,none⟩=some (.int .u64 R)/\Below wr.heap.size wr W) W))
     obtain ⟨hud,hui⟩:=za8
     obtain ⟨dd,hdd,hdr⟩:=Option.map_eq_some_iff.1 hud
     refine wp_region_held_drew (S:=fun W=>W.rangeAt w.heap.size 0 [.int .i64 y.h.pw,.int .i64 y.h.np,.slice p2 n2 c2,.slice q2 m2 d2,.int .i64 y.h.space,.int .i64 y.h.bump,.slice po2 no2 co2,.slice pt2 nt2 ct2,.slice pq2 nq2 cq2,.int .i64 y.sc,.int .i64 y.r0,.int .i64 y.r1,.int .i64 y.r2,.int .i64 y.r3,.int .i64 y.r4,.int .i64 y.r5]/\W.cell? ⟨bl,ol+kk,none⟩=some (.int .u64 R)/\Below wr.heap.size wr W) (by kernel_rfl) (hSof.out _ (Below.drew (Below.refl _ _))) (fun hHeld=>?_)
     refine wpAnyH_take (i:=0) (oi:=⟨some 19,.load 146 (.tmp 2),_,_,_,_⟩) (v:=_) rfl (by kernel_rfl) (by kernel_rfl) (by kernel_rfl) (fun _ _ _ h=>h) (yieldsIf_load_mid (by rfl) _ _ rfl w.heap.size 0 rfl [.int .i64 y.h.pw,.int .i64 y.h.np,.slice p2 n2 c2,.slice q2 m2 d2,.int .i64 y.h.space,.int .i64 y.h.bump,.slice po2 no2 co2,.slice pt2 nt2 ct2,.slice pq2 nq2 cq2,.int .i64 y.sc,.int .i64 y.r0,.int .i64 y.r1,.int .i64 y.r2,.int .i64 y.r3,.int .i64 y.r4,.int .i64 y.r5] dd (fun W h=>h.1) hdd hdr hui) hHeld ?_
     go_frame
     refine draw_t 1 20 hHeld ?_
     refine draw_t 2 21 hHeld ?_
     refine draw_t 3 22 hHeld ?_
     refine draw_t 4 23 hHeld ?_
     refine rdy2 5 10 (fun K hK=>?_) (fun K hK=>?_)
     · go_simp
       (go_at_call 138;refine (hFA.out wr.drew ((Below.refl _ _).drew)).mono ?_;rintro e w2 ⟨⟨v,rfl,p3,q3,po3,pt3,pq3,n3,c3,m3,d3,no3,co3,nt3,ct3,nq3,cq3,rfl,hwr⟩,hbq⟩)
       go_wp2_with fail
       have hb2:Below wr.heap.size wr w2:=(Below.refl _ _).drew.trans (by simpa using hbq)
       have HP0:=qq hwr
       clear hwr hbq
       refine hK.out _ _ (hSof.out _ hb2) (fun hHeld=>?_)
       clear hK K
       try go_frame
       refine draw_t 6 18 hHeld ?_
       refine draw_t 7 25 hHeld ?_
       refine draw_t 8 26 hHeld ?_
       refine draw_t 9 27 hHeld ?_
       refine rdy1 10 (fun K hK=>?_)
       go_simp
       obtain ⟨w4,hw4⟩:∃ W,Hid (World.alloc w2 (.cells #[.int .i64 0,.int .i64 0,.slice none 0 0,.slice none 0 0,.int .i64 0,.int .i64 0,.slice none 0 0,.slice none 0 0,.slice none 0 0,.int .i64 0,.int .i64 0,.int .i64 0,.int .i64 0,.int .i64 0,.int .i64 0,.int .i64 0] 146)=W):=⟨_,rfl⟩
       rw [hw4.out]
       have HN:=qq (show OwnL w4 w2.heap.size [.int .i64 0,.int .i64 0,.slice none 0 0,.slice none 0 0,.int .i64 0,.int .i64 0,.slice none 0 0,.slice none 0 0,.slice none 0 0,.int .i64 0,.int .i64 0,.int .i64 0,.int .i64 0,.int .i64 0,.int .i64 0,.int .i64 0] from by rw [<-hw4.out];exact OwnL.new w2 [.int .i64 0,.int .i64 0,.slice none 0 0,.slice none 0 0,.int .i64 0,.int .i64 0,.slice none 0 0,.slice none 0 0,.slice none 0 0,.int .i64 0,.int .i64 0,.int .i64 0,.int .i64 0,.int .i64 0,.int .i64 0,.int .i64 0] 146)
       have hb24:Below w2.heap.size w2 w4:=by rw [<-hw4.out];exact za1
       have hb4:Below wr.heap.size wr w4:=za3 hb2 hb24
       have HP:=qq ((HP0.out.also (fun b=>b=w2.heap.size) (fun b hb=>by omega)).keep hb24)
       refine hK.out _ _ (hSof.out _ hb4) (fun hHeld=>?_)
       clear hK K hw4
       try go_frame
       refine wpAnyH_ready (rs:=[11]) (by kernel_rfl) (by simp) ?_
       refine AllReadyH.cons (o:=⟨none,.store 146 _ _,_,_,_,_⟩) rfl (fun K hK=>?_) AllReadyH.nil
       rw [if_pos (by rfl)]
       refine wp_store_mid 146 _ _ rfl w2.heap.size 0 ([.int .i64 Z9.h.pw,.int .i64 Z9.h.np,.slice p3 n3 c3,.slice q3 m3 d3,.int .i64 Z9.h.space,.int .i64 Z9.h.bump,.slice po3 no3 co3,.slice pt3 nt3 ct3,.slice pq3 nq3 cq3,.int .i64 Z9.sc,.int .i64 Z9.r0,.int .i64 Z9.r1,.int .i64 Z9.r2,.int .i64 Z9.r3,.int .i64 Z9.r4,.int .i64 Z9.r5]:List Value).toArray rfl rfl (HN.out.isThere (by simp)) hui (by have h1:([.int .i64 Z9.h.pw,.int .i64 Z9.h.np,.slice p3 n3 c3,.slice q3 m3 d3,.int .i64 Z9.h.space,.int .i64 Z9.h.bump,.slice po3 no3 co3,.slice pt3 nt3 ct3,.slice pq3 nq3 cq3,.int .i64 Z9.sc,.int .i64 Z9.r0,.int .i64 Z9.r1,.int .i64 Z9.r2,.int .i64 Z9.r3,.int .i64 Z9.r4,.int .i64 Z9.r5]:List Value).all (·.oneCell')=true:=rfl;simpa using h1) ?_
       obtain ⟨w5,hw5⟩:∃ W,Hid (W=World.setCells w4 w2.heap.size 0 [.int .i64 Z9.h.pw,.int .i64 Z9.h.np,.slice p3 n3 c3,.slice q3 m3 d3,.int .i64 Z9.h.space,.int .i64 Z9.h.bump,.slice po3 no3 co3,.slice pt3 nt3 ct3,.slice pq3 nq3 cq3,.int .i64 Z9.sc,.int .i64 Z9.r0,.int .i64 Z9.r1,.int .i64 Z9.r2,.int .i64 Z9.r3,.int .i64 Z9.r4,.int .i64 Z9.r5]):=⟨_,rfl⟩
       have ho5:=HN.out.setCells (vs:=[.int .i64 Z9.h.pw,.int .i64 Z9.h.np,.slice p3 n3 c3,.slice q3 m3 d3,.int .i64 Z9.h.space,.int .i64 Z9.h.bump,.slice po3 no3 co3,.slice pt3 nt3 ct3,.slice pq3 nq3 cq3,.int .i64 Z9.sc,.int .i64 Z9.r0,.int .i64 Z9.r1,.int .i64 Z9.r2,.int .i64 Z9.r3,.int .i64 Z9.r4,.int .i64 Z9.r5]) (by simp)
       have hbt5:=But.setCells (b:=w2.heap.size) (w:=w4) [.int .i64 Z9.h.pw,.int .i64 Z9.h.np,.slice p3 n3 c3,.slice q3 m3 d3,.int .i64 Z9.h.space,.int .i64 Z9.h.bump,.slice po3 no3 co3,.slice pt3 nt3 ct3,.slice pq3 nq3 cq3,.int .i64 Z9.sc,.int .i64 Z9.r0,.int .i64 Z9.r1,.int .i64 Z9.r2,.int .i64 Z9.r3,.int .i64 Z9.r4,.int .i64 Z9.r5] 0
       rw [<-hw5.out] at ho5 hbt5
       have hb5:Below wr.heap.size wr w5:=hb4.trans (hbt5.low (by first | omega | exact hb2.size) hb4.size)
       have HP5:=qq ((HP.out.stored (Or.inr rfl) HN.out zm2 (by simp) hw5).mono (fun b hb=>Or.inl hb))
       rw [show World.setCells w4 w2.heap.size 0 (List.toArray [.int .i64 Z9.h.pw,.int .i64 Z9.h.np,.slice p3 n3 c3,.slice q3 m3 d3,.int .i64 Z9.h.space,.int .i64 Z9.h.bump,.slice po3 no3 co3,.slice pt3 nt3 ct3,.slice pq3 nq3 cq3,.int .i64 Z9.sc,.int .i64 Z9.r0,.int .i64 Z9.r1,.int .i64 Z9.r2,.int .i64 Z9.r3,.int .i64 Z9.r4,.int .i64 Z9.r5]).toList=w5 from hw5.out.symm]
       refine hK.out _ _ (hSof.out _ hb5) (fun hHeld=>?_)
       clear hK K
       try go_frame
       refine draw_t 12 10 hHeld ?_
       refine draw_t 13 11 hHeld ?_
       refine wpAnyH_done (by kernel_rfl) ?_ _
       go_wp2_with fail
       go_meet
       exact ⟨w2.heap.size,p3,q3,po3,pt3,pq3,n3,c3,m3,d3,no3,co3,nt3,ct3,nq3,cq3,rfl,rfl,rfl,ho5,by first | omega | exact hb2.size,hb5,HP5.out⟩
     · go_simp
       obtain ⟨w2,hw2⟩:∃ W,Hid ((World.alloc wr (.cells #[.int .i64 0,.int .i64 0,.slice none 0 0,.slice none 0 0,.int .i64 0,.int .i64 0,.slice none 0 0,.slice none 0 0,.slice none 0 0,.int .i64 0,.int .i64 0,.int .i64 0,.int .i64 0,.int .i64 0,.int .i64 0,.int .i64 0] 146)).drew=W):=⟨_,rfl⟩
       rw [hw2.out]
       have HN0:=qq (show OwnL w2 wr.heap.size [.int .i64 0,.int .i64 0,.slice none 0 0,.slice none 0 0,.int .i64 0,.int .i64 0,.slice none 0 0,.slice none 0 0,.slice none 0 0,.int .i64 0,.int .i64 0,.int .i64 0,.int .i64 0,.int .i64 0,.int .i64 0,.int .i64 0] from by rw [<-hw2.out];exact (OwnL.new wr [.int .i64 0,.int .i64 0,.slice none 0 0,.slice none 0 0,.int .i64 0,.int .i64 0,.slice none 0 0,.slice none 0 0,.slice none 0 0,.int .i64 0,.int .i64 0,.int .i64 0,.int .i64 0,.int .i64 0,.int .i64 0,.int .i64 0] 146).keep ((Below.refl _ _).drew) (by simp))
       have hb2:Below wr.heap.size wr w2:=by rw [<-hw2.out];exact ((Below.refl _ _).alloc (Nat.le_refl _) _).drew
       have hl2:wr.heap.size < w2.heap.size:=HN0.out.lt rfl
       refine hK.out _ _ (hSof.out _ hb2) (fun hHeld=>?_)
       clear hK K hw2
       try go_frame
       refine rdy1 5 (fun K hK=>?_)
       go_simp
       (go_at_call 138;refine (hFB.out w2 hb2 hl2).mono ?_;rintro e w4 ⟨⟨v,rfl,p3,q3,po3,pt3,pq3,n3,c3,m3,d3,no3,co3,nt3,ct3,nq3,cq3,rfl,hwr⟩,hbq⟩)
       go_wp2_with fail
       have hb4:Below wr.heap.size wr w4:=za3 hb2 hbq
       have HP:=qq hwr
       have HN:=qq (HN0.out.keep hbq hl2)
       clear hwr hbq HN0
       refine hK.out _ _ (hSof.out _ hb4) (fun hHeld=>?_)
       clear hK K
       try go_frame
       refine draw_t 6 18 hHeld ?_
       refine draw_t 7 25 hHeld ?_
       refine draw_t 8 26 hHeld ?_
       refine draw_t 9 27 hHeld ?_
       refine wpAnyH_ready (rs:=[11]) (by kernel_rfl) (by simp) ?_
       refine AllReadyH.cons (o:=⟨none,.store 146 _ _,_,_,_,_⟩) rfl (fun K hK=>?_) AllReadyH.nil
       rw [if_pos (by rfl)]
       refine wp_store_mid 146 _ _ rfl wr.heap.size 0 ([.int .i64 Z9.h.pw,.int .i64 Z9.h.np,.slice p3 n3 c3,.slice q3 m3 d3,.int .i64 Z9.h.space,.int .i64 Z9.h.bump,.slice po3 no3 co3,.slice pt3 nt3 ct3,.slice pq3 nq3 cq3,.int .i64 Z9.sc,.int .i64 Z9.r0,.int .i64 Z9.r1,.int .i64 Z9.r2,.int .i64 Z9.r3,.int .i64 Z9.r4,.int .i64 Z9.r5]:List Value).toArray rfl rfl (HN.out.isThere (by simp)) hui (by have h1:([.int .i64 Z9.h.pw,.int .i64 Z9.h.np,.slice p3 n3 c3,.slice q3 m3 d3,.int .i64 Z9.h.space,.int .i64 Z9.h.bump,.slice po3 no3 co3,.slice pt3 nt3 ct3,.slice pq3 nq3 cq3,.int .i64 Z9.sc,.int .i64 Z9.r0,.int .i64 Z9.r1,.int .i64 Z9.r2,.int .i64 Z9.r3,.int .i64 Z9.r4,.int .i64 Z9.r5]:List Value).all (·.oneCell')=true:=rfl;simpa using h1) ?_
       obtain ⟨w5,hw5⟩:∃ W,Hid (W=World.setCells w4 wr.heap.size 0 [.int .i64 Z9.h.pw,.int .i64 Z9.h.np,.slice p3 n3 c3,.slice q3 m3 d3,.int .i64 Z9.h.space,.int .i64 Z9.h.bump,.slice po3 no3 co3,.slice pt3 nt3 ct3,.slice pq3 nq3 cq3,.int .i64 Z9.sc,.int .i64 Z9.r0,.int .i64 Z9.r1,.int .i64 Z9.r2,.int .i64 Z9.r3,.int .i64 Z9.r4,.int .i64 Z9.r5]):=⟨_,rfl⟩
       have ho5:=HN.out.setCells (vs:=[.int .i64 Z9.h.pw,.int .i64 Z9.h.np,.slice p3 n3 c3,.slice q3 m3 d3,.int .i64 Z9.h.space,.int .i64 Z9.h.bump,.slice po3 no3 co3,.slice pt3 nt3 ct3,.slice pq3 nq3 cq3,.int .i64 Z9.sc,.int .i64 Z9.r0,.int .i64 Z9.r1,.int .i64 Z9.r2,.int .i64 Z9.r3,.int .i64 Z9.r4,.int .i64 Z9.r5]) (by simp)
       have hbt5:=But.setCells (b:=wr.heap.size) (w:=w4) [.int .i64 Z9.h.pw,.int .i64 Z9.h.np,.slice p3 n3 c3,.slice q3 m3 d3,.int .i64 Z9.h.space,.int .i64 Z9.h.bump,.slice po3 no3 co3,.slice pt3 nt3 ct3,.slice pq3 nq3 cq3,.int .i64 Z9.sc,.int .i64 Z9.r0,.int .i64 Z9.r1,.int .i64 Z9.r2,.int .i64 Z9.r3,.int .i64 Z9.r4,.int .i64 Z9.r5] 0
       rw [<-hw5.out] at ho5 hbt5
       have hb5:Below wr.heap.size wr w5:=hb4.trans (hbt5.low (by first | omega | exact hb2.size) hb4.size)
       have HP5:=qq ((HP.out.stored (Or.inr rfl) HN.out zm2 (by simp) hw5).mono (fun b hb=>Or.inl hb))
       rw [show World.setCells w4 wr.heap.size 0 (List.toArray [.int .i64 Z9.h.pw,.int .i64 Z9.h.np,.slice p3 n3 c3,.slice q3 m3 d3,.int .i64 Z9.h.space,.int .i64 Z9.h.bump,.slice po3 no3 co3,.slice pt3 nt3 ct3,.slice pq3 nq3 cq3,.int .i64 Z9.sc,.int .i64 Z9.r0,.int .i64 Z9.r1,.int .i64 Z9.r2,.int .i64 Z9.r3,.int .i64 Z9.r4,.int .i64 Z9.r5]).toList=w5 from hw5.out.symm]
       refine hK.out _ _ (hSof.out _ hb5) (fun hHeld=>?_)
       clear hK K
       try go_frame
       refine draw_t 12 10 hHeld ?_
       refine draw_t 13 11 hHeld ?_
       refine wpAnyH_done (by kernel_rfl) ?_ _
       go_wp2_with fail
       go_meet
       exact ⟨wr.heap.size,p3,q3,po3,pt3,pq3,n3,c3,m3,d3,no3,co3,nt3,ct3,nq3,cq3,rfl,rfl,rfl,ho5,by first | omega | exact hb2.size,hb5,HP5.out⟩
    case rest =>
     obtain ⟨b9,p3,q3,po3,pt3,pq3,n3,c3,m3,d3,no3,co3,nt3,ct3,nq3,cq3,rfl,rfl,rfl,ho9,hb9,hbx,hwr⟩:=hcut
     clear hFA hFB d0 HL HR HFW hE hTO hZ9
     replace Ha:=qq (Ha.out.keep hbx hwa)
     replace Hb:=qq (Hb.out.keep hbx hwb)
     replace HB:=qq (za3 HB.out hbx)
     replace Hown:=qq (zb5 Hown.out hbx)
     have hszc:wr.heap.size<=wc.heap.size:=hbx.size
     have hb9b:w.heap.size+1 < b9:=by omega
     replace hwa:w.heap.size < wc.heap.size:=Ha.out.lt rfl
     replace hwb:w.heap.size+1 < wc.heap.size:=Hb.out.lt rfl
     have Ho9:=qq ho9
     have HP:=qq hwr
     clear ho9 hwr hbx
     by_cases hE0:E=0
     · subst hE0
       rw [if_pos rfl] at HGo
       have HSo2:=qq (HSo.out rfl)
       clear HSo
       go_upto_region 8 with fail
       obtain ⟨hud,hui⟩:=za8
       obtain ⟨dd,hdd,hdr⟩:=Option.map_eq_some_iff.1 hud
       refine wp_region_held_drew (S:=fun W=>W.rangeAt b9 0 [.int .i64 Z9.h.pw,.int .i64 Z9.h.np,.slice p3 n3 c3,.slice q3 m3 d3,.int .i64 Z9.h.space,.int .i64 Z9.h.bump,.slice po3 no3 co3,.slice pt3 nt3 ct3,.slice pq3 nq3 cq3,.int .i64 Z9.sc,.int .i64 Z9.r0,.int .i64 Z9.r1,.int .i64 Z9.r2,.int .i64 Z9.r3,.int .i64 Z9.r4,.int .i64 Z9.r5]) (by kernel_rfl) ((Ho9.out.keep (Below.drew (Below.refl _ _)) (Ho9.out.lt rfl)).range) (fun hHeld=>?_)
       refine wpAnyH_take (i:=0) (oi:=⟨some 32,.load 146 (.tmp 9),_,_,_,_⟩) (v:=_) rfl (by kernel_rfl) (by kernel_rfl) (by kernel_rfl) (fun _ _ _ h=>h) (yieldsIf_load_mid (by rfl) _ _ rfl b9 0 rfl [.int .i64 Z9.h.pw,.int .i64 Z9.h.np,.slice p3 n3 c3,.slice q3 m3 d3,.int .i64 Z9.h.space,.int .i64 Z9.h.bump,.slice po3 no3 co3,.slice pt3 nt3 ct3,.slice pq3 nq3 cq3,.int .i64 Z9.sc,.int .i64 Z9.r0,.int .i64 Z9.r1,.int .i64 Z9.r2,.int .i64 Z9.r3,.int .i64 Z9.r4,.int .i64 Z9.r5] dd (fun W h=>h) hdd hdr hui) hHeld ?_
       go_frame
       refine draw_t 1 33 hHeld ?_
       refine draw_t 2 34 hHeld ?_
       refine rdy1 3 (fun K hK=>?_)
       go_simp
       obtain ⟨w4,hw4⟩:∃ W,Hid ((World.alloc wc (.cells #[.int .u64 TO] 48)).drew=W):=⟨_,rfl⟩
       rw [hw4.out]
       have hb4:Below wc.heap.size wc w4:=by rw [<-hw4.out];exact ((Below.refl _ _).alloc (Nat.le_refl _) _).drew
       have hnew:w4.heap[wc.heap.size]?=some (.cells #[.int .u64 TO] 48 (0,0)):=by rw [<-hw4.out];exact heap_new wc _
       have hl4:w4.heap.size=wc.heap.size+1:=by rw [<-hw4.out];simp
       refine hK.out _ _ ((Ho9.out.keep hb4 (Ho9.out.lt rfl)).range) (fun hHeld=>?_)
       clear hK K hw4
       try go_frame
       replace Ho9:=qq (Ho9.out.keep hb4 (Ho9.out.lt rfl))
       replace Ha:=qq (Ha.out.keep hb4 hwa)
       replace Hb:=qq (Hb.out.keep hb4 hwb)
       replace HB:=qq (za3 HB.out hb4)
       replace HP:=qq (HP.out.keep hb4)
       replace Hown:=qq (zb5 Hown.out hb4)
       clear hb4
       obtain ⟨i0,hin,hz0,hz1,hz2⟩:=info_parts zf2
       refine rdy1 4 (fun K hK=>?_)
       rw [if_pos (by rfl)]
       refine wp_append_lies (P:=Tryz.prog) w4 _ _ 24 rfl (w.heap.size+2) 48 i0 (.int .u64 0) 1 8 Tryz.underlying24 hin hz0 hz1 hz2 rfl (by decide) u7 kk (zb2 .u64 acc) rfl Hown.out ⟨wc.heap.size,0,none⟩ 1 1 [.int .u64 TO] rfl (by simp) (fun j v hv=>World.news_of_block hnew j v (by simpa using hv)) (by intro v hv;simp at hv;subst hv;rfl) (by decide) (by unfold maxLen;omega) (by omega) (by omega) w4.heap.size rfl ?_
       intro g cap w6 hown6 hgrow hat hglt
       rw [show (zb2 .u64 acc ++ [Value.int .u64 TO])=zb2 .u64 (acc ++ [TO]) from by simp [zb2]] at hown6
       have hrow:∀ b,u7.ownBlock=some b->w.heap.size+2<=b/\SU b:=fun b hb=>⟨(Hown.out.lt b hb).1,hSUo b hb⟩
       have Hn9:some b9≠u7.ownBlock:=fun e=>by have h1:=hSUl _ (hrow _ e.symm).2;omega
       have hl46:w4.heap.size<=w6.heap.size:=hgrow.size
       replace Ho9:=qq (Ho9.out.grown hgrow (Ho9.out.lt rfl) Hn9)
       replace Ha:=qq (Ha.out.grown hgrow (Ha.out.lt rfl) (fun e=>by have:=(hrow _ e.symm).1;omega))
       replace Hb:=qq (Hb.out.grown hgrow (Hb.out.lt rfl) (fun e=>by have:=(hrow _ e.symm).1;omega))
       replace HB:=qq (HB.out.grown hgrow (by omega) (fun b hb=>by have:=(hrow _ hb).1;omega))
       have HP6:=qq (HP.out.grown hgrow (fun b hb=>(hrow b hb).2))
       have HG6:=qq (show ∃ SV:Nat->Prop,(∀ b,S2 b->SV b)/\SV g/\(∀ b,SV b->b < w6.heap.size)/\WR w6 SV Z9 p3 q3 po3 pt3 pq3 n3 c3 m3 d3 no3 co3 nt3 ct3 nq3 cq3 from by
        rcases hat with h1 | h1
        · exact ⟨SU,hSU2,hSUo g h1,fun b hb=>by have:=hSUl b hb;omega,HP6.out⟩
        · refine ⟨fun b=>SU b\/b=g,fun b hb=>Or.inl (hSU2 b hb),Or.inr rfl,fun b hb=>by rcases hb with hb | hb <;> first | omega | (have:=hSUl b hb;omega),?_⟩
          have h2:=HP.out.also (fun b=>b=g) (fun b hb=>by omega)
          exact h2.grown hgrow (fun b hb=>Or.inl (hrow b hb).2))
       clear HP6 HP Hn9
       obtain ⟨SV,hSV2,hSVg,hSVl,hP6⟩:=HG6.out
       have HP:=qq hP6
       clear hP6 HG6 hat hgrow
       have hgb:w.heap.size+2<=g:=(hown6.lt g rfl).1
       clear Hown
       have Hown:=qq hown6
       clear hown6
       refine hK.out _ _ (Ho9.out.range) (fun hHeld=>?_)
       clear hK K
       try go_frame
       refine wpAnyH_ready (rs:=[5]) (by kernel_rfl) (by simp) ?_
       refine AllReadyH.cons (o:=⟨none,.store 146 _ _,_,_,_,_⟩) rfl (fun K hK=>?_) AllReadyH.nil
       rw [if_pos (by rfl)]
       refine wp_store_mid 146 _ _ rfl w.heap.size 0 ([.int .i64 Z9.h.pw,.int .i64 Z9.h.np,.slice p3 n3 c3,.slice q3 m3 d3,.int .i64 Z9.h.space,.int .i64 Z9.h.bump,.slice po3 no3 co3,.slice pt3 nt3 ct3,.slice pq3 nq3 cq3,.int .i64 Z9.sc,.int .i64 Z9.r0,.int .i64 Z9.r1,.int .i64 Z9.r2,.int .i64 Z9.r3,.int .i64 Z9.r4,.int .i64 Z9.r5]:List Value).toArray rfl rfl (Ha.out.isThere (by simp)) hui (by have h1:([.int .i64 Z9.h.pw,.int .i64 Z9.h.np,.slice p3 n3 c3,.slice q3 m3 d3,.int .i64 Z9.h.space,.int .i64 Z9.h.bump,.slice po3 no3 co3,.slice pt3 nt3 ct3,.slice pq3 nq3 cq3,.int .i64 Z9.sc,.int .i64 Z9.r0,.int .i64 Z9.r1,.int .i64 Z9.r2,.int .i64 Z9.r3,.int .i64 Z9.r4,.int .i64 Z9.r5]:List Value).all (·.oneCell')=true:=rfl;simpa using h1) ?_
       obtain ⟨w7,hw7⟩:∃ W,Hid (W=World.setCells w6 w.heap.size 0 [.int .i64 Z9.h.pw,.int .i64 Z9.h.np,.slice p3 n3 c3,.slice q3 m3 d3,.int .i64 Z9.h.space,.int .i64 Z9.h.bump,.slice po3 no3 co3,.slice pt3 nt3 ct3,.slice pq3 nq3 cq3,.int .i64 Z9.sc,.int .i64 Z9.r0,.int .i64 Z9.r1,.int .i64 Z9.r2,.int .i64 Z9.r3,.int .i64 Z9.r4,.int .i64 Z9.r5]):=⟨_,rfl⟩
       have ho7:=Ha.out.setCells (vs:=[.int .i64 Z9.h.pw,.int .i64 Z9.h.np,.slice p3 n3 c3,.slice q3 m3 d3,.int .i64 Z9.h.space,.int .i64 Z9.h.bump,.slice po3 no3 co3,.slice pt3 nt3 ct3,.slice pq3 nq3 cq3,.int .i64 Z9.sc,.int .i64 Z9.r0,.int .i64 Z9.r1,.int .i64 Z9.r2,.int .i64 Z9.r3,.int .i64 Z9.r4,.int .i64 Z9.r5]) (by simp)
       have hbt7:=But.setCells (b:=w.heap.size) (w:=w6) [.int .i64 Z9.h.pw,.int .i64 Z9.h.np,.slice p3 n3 c3,.slice q3 m3 d3,.int .i64 Z9.h.space,.int .i64 Z9.h.bump,.slice po3 no3 co3,.slice pt3 nt3 ct3,.slice pq3 nq3 cq3,.int .i64 Z9.sc,.int .i64 Z9.r0,.int .i64 Z9.r1,.int .i64 Z9.r2,.int .i64 Z9.r3,.int .i64 Z9.r4,.int .i64 Z9.r5] 0
       rw [<-hw7.out] at ho7 hbt7
       have HP7:=qq (HP.out.stored (hSV2 _ hsa) Ha.out (zd1 y p2 q2 po2 pt2 pq2 n2 c2 m2 d2 no2 co2 nt2 ct2 nq2 cq2) (by simp) hw7)
       rw [show World.setCells w6 w.heap.size 0 (List.toArray [.int .i64 Z9.h.pw,.int .i64 Z9.h.np,.slice p3 n3 c3,.slice q3 m3 d3,.int .i64 Z9.h.space,.int .i64 Z9.h.bump,.slice po3 no3 co3,.slice pt3 nt3 ct3,.slice pq3 nq3 cq3,.int .i64 Z9.sc,.int .i64 Z9.r0,.int .i64 Z9.r1,.int .i64 Z9.r2,.int .i64 Z9.r3,.int .i64 Z9.r4,.int .i64 Z9.r5]).toList=w7 from hw7.out.symm]
       have hsz7:w6.heap.size<=w7.heap.size:=hbt7.size
       replace Hown:=qq (zq7 Hown.out hbt7 (by omega))
       replace Hb:=qq (Hb.out.but hbt7 (Hb.out.lt rfl) (by omega))
       replace HB:=qq (HB.out.trans (hbt7.low (Nat.le_refl _) (by omega)))
       clear HP Ha
       have HP:=qq HP7.out
       have Ha:=qq ho7
       clear HP7 ho7 hw7
       refine hK.out _ _ ((Ho9.out.but hbt7 (Ho9.out.lt rfl) (by omega)).range) (fun hHeld=>?_)
       clear hK K hbt7
       try go_frame
       refine draw_t 6 7 hHeld ?_
       refine wpAnyH_done (by kernel_rfl) ?_ _
       have e9:IntKind.i64.wrap ((kk:Int)+1)=((kk+1:Nat):Int):=by rw [IntWalk.i64_in _ (by omega)];rfl
       go_wp2
       go_roundw
       case rel=>exact ⟨SV,kk+1,acc ++ [TO],Z9,p3,q3,po3,pt3,pq3,n3,c3,m3,d3,no3,co3,nt3,ct3,nq3,cq3,by go_num,by omega,by rw [List.length_append,hacc];rfl,Hown.out,HGo.out,HSo2.out,Ha.out,Hb.out,HB.out,hSV2,fun b hb=>by simp [Value.ownBlock] at hb;subst hb;exact hSVg,fun b hb=>by have:=hSVl b hb;omega,HP.out⟩
       case measure=>simp [intOf];omega
     · have hEn:(E != 0)=true:=bne_iff_ne.2 hE0
       rw [if_neg hE0] at HGo
       clear hE0 HSo Ha HP Ho9
       have hl9:=Hb.out.lt rfl
       go_wp2_with (first | ((with_reducible show wpList _ _ _ _ _ _);refine za6 (op:=⟨none,.store 146 _ _,_,_,_,_⟩) rfl _ _ _ rfl _ ?hx1 [.int .i64 0,.int .i64 0,.slice none 0 0,.slice none 0 0,.int .i64 0,.int .i64 0,.slice none 0 0,.slice none 0 0,.slice none 0 0,.int .i64 0,.int .i64 0,.int .i64 0,.int .i64 0,.int .i64 0,.int .i64 0,.int .i64 0] _ ?hy1 Hb.out rfl rfl za8 ?_))
       (try (case hx1=>rfl))
       (try (case hy1=>rfl))
       intro w8 ho hbt hst
       have HZ:=qq ho
       have HXB:=qq (HB.out.trans (hbt.low (by omega) (by omega)))
       clear ho hbt
       go_wp2
       refine bodyPost_ret (ze5 rfl rfl HZ.out za8) rfl ?_
       rw [<-HGo.out]
       exact ⟨⟨_,none,0,0,rfl,WV.zero _ _,SRow.nil _ _ _⟩,HXB.out⟩
  · obtain rfl:kk=rn:=by omega
    have hge:¬(kk:Int) < kk:=by omega
    have hdr:l.drop kk=[]:=List.drop_eq_nil_of_le (by have:=HL.out.len;omega)
    have HGo2:=HGo.out
    rw [hdr,zg2] at HGo2
    have HG:=qq HGo2
    clear HGo HGo2 HSo hdr HL
    go_wp2_with (first | ((with_reducible show wpList _ _ _ _ _ _);refine za7 (op:=⟨some 37,.load 146 _,_,_,_,_⟩) rfl _ _ rfl _ rfl _ Ha.out za8 ?_) | ((with_reducible show wpList _ _ _ _ _ _);refine za6 (op:=⟨none,.store 146 _ _,_,_,_,_⟩) rfl _ _ _ rfl _ ?hx2 [.int .i64 y.h.pw,.int .i64 y.h.np,.slice p2 n2 c2,.slice q2 m2 d2,.int .i64 y.h.space,.int .i64 y.h.bump,.slice po2 no2 co2,.slice pt2 nt2 ct2,.slice pq2 nq2 cq2,.int .i64 y.sc,.int .i64 y.r0,.int .i64 y.r1,.int .i64 y.r2,.int .i64 y.r3,.int .i64 y.r4,.int .i64 y.r5] _ ?hy2 Hb.out rfl rfl za8 ?_))
    (try (case hx2=>rfl))
    (try (case hy2=>rfl))
    intro w8 ho hbt hst
    have HZ:=qq ho
    have HXB:=qq (HB.out.trans (hbt.low (by omega) (by omega)))
    have HPX:=qq ((HR.out.stored (hSU2 _ hsb) Hb.out zm2 (by simp) hst).mono (fun b hb=>hSU2 b (hs2 b hb)))
    obtain ⟨q9,c9,rfl,hrow0⟩:=SRow.of_own Hown.out
    have HXA:=qq (hrow0.butNe hbt (fun hne ad e=>by
     have h1:=hne
     rcases Hown.out.2 with ⟨h2,h3⟩ | ⟨g,cap,cur,h2,h3,-⟩
     · injection h2 with h4;rw [h4] at e;cases e
     · injection h2 with h4;rw [h4] at e;cases e;simp only;omega))
    clear ho hbt hst hrow0
    go_wp2
    refine bodyPost_ret (ze5 rfl rfl HZ.out za8) rfl ?_
    rw [<-HG.out]
    exact ⟨⟨_,q9,kk,c9,rfl,⟨p2,q2,po2,pt2,pq2,n2,c2,m2,d2,no2,co2,nt2,ct2,nq2,cq2,rfl,HPX.out⟩,HXA.out⟩,HXB.out⟩
end Go.Proofs.YtipjdbhocjpmdaaGreat
