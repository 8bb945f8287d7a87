import Derived.Test.YtadlcgdjmjegaaaW02
import Derived.Laws.Cover3
import Derived.ChangeArms
import Derived.DataReads
import Derived.WideShapes
import Derived.RowKit2
set_option linter.unusedSimpArgs false
set_option linter.unusedVariables false
set_option maxRecDepth 100000
set_option maxHeartbeats 4000000
namespace Go.VI
open Go Go.RowKit
theorem size_one {t:Ty} (h:t.isAgg=false):t.size=1:=by cases t <;> first | rfl | simp [Ty.isAgg] at h
theorem struck_append:∀ {a b:Ws},struck (a ++ b)=struck a ++ struck b
 | [],_=>rfl
 | (x,.no) :: a,b=>by simp [struck,struck_append (a:=a)]
 | (x,.av _) :: a,b=>by simp [struck,struck_append (a:=a)]
 | (x,.arr _ _ _ _) :: a,b=>by simp [struck,struck_append (a:=a)]
 | (x,.box _ _) :: a,b=>by simp [struck,struck_append (a:=a)]
 | (x,.ln _) :: a,b=>by simp [struck,struck_append (a:=a)]
 | (x,.rb _ _) :: a,b=>by simp [struck,struck_append (a:=a)]
theorem struck_frz {fs:FS} {a:Ws} (h:Frz fs a):struck a=[]:=by
 induction a with
 | nil=>rfl
 | cons p a ih =>
  obtain ⟨x,c⟩:=p
  obtain ⟨m,T,e,l,_,h2⟩:=h (x,c) (by simp)
  simp only at h2
  subst h2
  exact ih fun p hp=>h p (List.mem_cons_of_mem _ hp)
theorem mem_struck:∀ {a:Ws} {b:Nat},b∈struck a↔(b,Cell.no)∈a
 | [],b=>by simp [struck]
 | (x,.no) :: a,b=>by simp [struck,mem_struck (a:=a)]
 | (x,.av _) :: a,b=>by simp [struck,mem_struck (a:=a)]
 | (x,.arr _ _ _ _) :: a,b=>by simp [struck,mem_struck (a:=a)]
 | (x,.box _ _) :: a,b=>by simp [struck,mem_struck (a:=a)]
 | (x,.ln _) :: a,b=>by simp [struck,mem_struck (a:=a)]
 | (x,.rb _ _) :: a,b=>by simp [struck,mem_struck (a:=a)]
theorem outOk_spec {ws:Ws} (h:outOk ws=true):(struck ws).Nodup/\∀ p∈ws,p.2≠.no->p.1 ∉ struck ws:=by
 induction ws with
 | nil=>simp [struck]
 | cons p r ih =>
  obtain ⟨b,c⟩:=p
  simp only [outOk,Bool.and_eq_true] at h
  obtain ⟨h1,h2⟩:=ih h.2
  cases hl:c.live with
  | false =>
   have hc:c = .no:=by cases c <;> simp_all [Cell.live]
   subst hc
   have h3:=h.1
   simp only [Cell.live,cond_false,Bool.not_eq_true',List.any_eq_false] at h3
   have hb:∀ p∈r,p.1≠b:=fun p hp he=>h3 p hp (by rw [he];exact Nat.beq_refl b)
   refine ⟨List.nodup_cons.2 ⟨fun hm=>hb _ (mem_struck.1 hm) rfl,h1⟩,fun p hp hne hm=>?_⟩
   rcases List.mem_cons.1 hp with rfl | hp
   · exact hne rfl
   · rcases List.mem_cons.1 hm with he | hm
     · exact hb p hp he
     · exact h2 p hp hne hm
  | true =>
   have hs:struck ((b,c) :: r)=struck r:=by cases c <;> first | rfl | simp [Cell.live] at hl
   have h3:=h.1
   simp only [hl,cond_true,List.all_eq_true] at h3
   rw [hs]
   refine ⟨h1,fun p hp hne hm=>?_⟩
   rcases List.mem_cons.1 hp with rfl | hp
   · have:=h3 _ (mem_struck.1 hm)
     simp [Cell.live] at this
   · exact h2 p hp hne hm
theorem packT_frz {fs:FS}:∀ {t:Ty} {zs:List Lf} {v:t.den} {rest:List Lf} {ws:Ws},(packT true t zs).evs fs=some (v,rest,ws)->Frz fs ws:=by
 intro t
 induction t with
 | bool =>
  intro zs v rest ws h
  cases zs with
  | nil=>simp [packT,T.evs] at h
  | cons x r=>obtain ⟨b,_,h2⟩:=evs_bind_some.1 h;simp at h2;obtain ⟨_,_,rfl⟩:=h2;exact Frz.nil
 | int k =>
  intro zs v rest ws h
  cases zs with
  | nil=>simp [packT,T.evs] at h
  | cons x r =>
   simp only [packT] at h
   split at h
   · obtain ⟨b,_,h2⟩:=evs_bind_some.1 h;simp at h2;obtain ⟨_,_,rfl⟩:=h2;exact Frz.nil
   · simp [T.evs] at h
 | ifo K t =>
  intro zs v rest ws h
  cases zs with
  | nil=>simp [packT,T.evs] at h
  | cons x r =>
   simp only [packT] at h
   split at h
   · obtain ⟨b,_,h2⟩:=evs_bind_some.1 h;simp at h2;obtain ⟨_,_,rfl⟩:=h2;exact Frz.nil
   · simp [T.evs] at h
 | raw k =>
  intro zs v rest ws h
  cases zs with
  | nil=>simp [packT,T.evs] at h
  | cons x r =>
   simp only [packT] at h
   obtain ⟨_,_,h2⟩:=evs_bind_some.1 h
   simp at h2;obtain ⟨_,rfl⟩:=h2;exact Frz.nil
 | unit=>intro zs v rest ws h;simp only [packT,T.evs_pure,Option.some.injEq,Prod.mk.injEq] at h;obtain ⟨_,_,rfl⟩:=h;exact Frz.nil
 | prod a b iha ihb =>
  intro zs v rest ws h
  obtain ⟨⟨v1,r1,u1⟩,q1,q2⟩:=evs_bind_some.1 h
  obtain ⟨⟨v2,r2,u2⟩,q3,q4⟩:=evs_bind_some.1 q2
  simp at q4
  obtain ⟨_,_,rfl⟩:=q4
  exact (iha q1).append (ihb q3)
 | slice e ih =>
  intro zs v rest ws h
  cases zs with
  | nil=>simp [packT,T.evs] at h
  | cons x r =>
   obtain ⟨⟨l,ws'⟩,q1,q2⟩:=evs_bind_some.1 h
   simp at q2
   obtain ⟨_,_,rfl⟩:=q2
   unfold packS at q1
   split at q1
   · simp [T.evs] at q1;obtain ⟨_,rfl⟩:=q1;exact Frz.nil
   · obtain ⟨_,_,q4⟩:=evs_bind_some.1 q1;simp at q4;obtain ⟨_,rfl⟩:=q4;exact Frz.nil
   · obtain ⟨c,q3,q4⟩:=evs_bind_some.1 q1
     simp only [evs_rdB,Option.some.injEq] at q3
     subst q3
     split at q4
     · rename_i m TT e' l' hfs
       obtain ⟨_,_,q6⟩:=evs_bind_some.1 q4
       simp at q6;obtain ⟨_,rfl⟩:=q6
       intro p hp
       simp at hp;subst hp
       exact ⟨m,TT,e',l',hfs,rfl⟩
     · simp [T.evs] at q4
   · obtain ⟨c,q3,q4⟩:=evs_bind_some.1 q1
     simp only [evs_rdB,Option.some.injEq] at q3
     subst q3
     split at q4
     · rename_i m TT e' l' hfs
       obtain ⟨_,_,q6⟩:=evs_bind_some.1 q4
       obtain ⟨_,_,q8⟩:=evs_bind_some.1 q6
       simp at q8;obtain ⟨_,rfl⟩:=q8
       intro p hp
       simp at hp;subst hp
       exact ⟨m,TT,e',l',hfs,rfl⟩
     · simp [T.evs] at q4
   · simp [T.evs] at q1
section
variable {P:Program} {te:TE} {cx:Cx} {fs:FS} {w:World} {env:Nm} {own:Ow} {act:Act}
def rvRun (tm:Array Value):ResultVar->Sem Value
 | .tmp t=>pure (tm.getD t undef)
 | .cell a t=>do loadVar t (<-asAddr (tm.getD a undef))
theorem resV_ok (ht:TEok P te) (hB:RB cx fs w env own) (hR:RS cx fs act.tmps w env own) {t:Ty} {x:ResultVar} {ys:List Lf} (h:(resV te t x).evs fs=some ys) :
 ∃ val,(rvRun act.tmps x).run P w = .ok val w/\All2 (LfR w.heap (cx.ok own) env) ys val.cells.toList/\val=mkVal t val.cells.toList:=by
 cases x with
 | tmp n =>
  simp only [resV] at h
  obtain ⟨a,h1,h2⟩:=evs_bind_some.1 h
  obtain ⟨k1,k2⟩:=leavesT_ok h2 (rdS_ok hR h1) (.inr trivial)
  exact ⟨_,rfl,k1,k2 _ rfl⟩
 | cell n tt =>
  simp only [resV] at h
  obtain ⟨r,h1,h2⟩:=evs_bind_some.1 h
  obtain ⟨_,h3,h4⟩:=evs_bind_some.1 h2
  obtain ⟨l,h5,h6⟩:=evs_bind_some.1 h4
  obtain ⟨htr,hr⟩:=tyT_ok ht h1
  have hagg:=evs_guard.1 h3
  split at h6
  · rename_i b
    obtain ⟨c,h7,h8⟩:=evs_bind_some.1 h6
    simp only [evs_rdB,Option.some.injEq] at h7
    subst h7
    split at h8
    · rename_i T xs hfs
      obtain ⟨_,h9,h10⟩:=evs_bind_some.1 h8
      simp at h10;subst h10
      have hb:=hB b
      rw [hfs] at hb
      obtain ⟨g,cs,e1,e2,e3,e4⟩:=hb
      obtain ⟨g',q1,q2⟩:=rd1_ok hR h5
      rw [e1] at q1
      simp at q1;subst q1
      have hlen:=Nat.eq_of_beq_eq_true (evs_guard.1 h9)
      rw [e3.len] at hlen
      have hrun:=run_loadVar_at (P:=P) hr htr e2 (off:=0) (by simp at hlen;omega)
      simp only [List.drop_zero] at hrun
      rw [List.take_of_length_le (by omega)] at hrun
      have hmk:mkVal r.ty cs.toList=mkVal t cs.toList:=by
       simp only [mkVal]
       cases hr1:r.ty.isAgg <;> cases ht1:t.isAgg <;> simp_all
      have hcells:=mkVal_cells hlen e3.ones
      refine ⟨mkVal r.ty cs.toList,?_,by rw [hcells];exact e3,by rw [hcells];exact hmk⟩
      simp only [rvRun,Sem.run_bind]
      rw [show act.tmps.getD n undef = .pointer (some ⟨g,0,none⟩) from q2]
      simpa [asAddr] using hrun
    · simp [T.evs] at h8
  · simp [T.evs] at h6
theorem boxesT_ok {N:Nat->Prop} (hw:RW cx w env own N) (hB:RB cx fs w env own) (hno:∀ g,¬cx.outer g):∀ {t:Ty} {Ts:List TypeId} {cs:List Cp} {v:t.den} {ws:Ws} {us:List Value},(boxesT t Ts cs).evs fs=some (v,ws)->All2 (CpR w.heap (cx.ok own) env) cs us ->
 Ts.length=cs.length/\(∀ p∈ws,p.2≠.no->∃ m T e l,fs (.b p.1) = .arr m T e l/\p.2 = .arr false T e l)/\∀ nm,∃ (V:List (Nat × Value)) (K:List (Nat × Nat)),V.map (·.1)=List.range' nm Ts.length/\K.map (·.1)=struck ws /\
  ∀ (ns:List Nat) (ok':Nat->Prop) (ec:Nm) (oc:Ow),(∀ p∈ws,p.2≠.no->p.1∈ns)->To cx w own ns ok'->Outs own cx.w0.heap.size V K ec oc ->
   All2 (CpR w.heap ok' ec) (capsN nm Ts.length) us/\∀ p∈boxesL t v Ts nm,CellR cx.low w.heap ok' ec oc p.1 p.2
 | .unit,[],[],v,ws,[],h,_=>by
  simp [boxesT,T.evs] at h
  subst h
  exact ⟨rfl,by simp,fun nm=>⟨[],[],by simp,by simp [struck],fun _ _ _ _ _ _ _=>⟨trivial,by simp [boxesL]⟩⟩⟩
 | .prod a b,tt :: Ts,.ptr b0 0 :: cs,v,ws,u :: us,h,hu=>by
  simp only [boxesT] at h
  obtain ⟨c,h1,h2⟩:=evs_bind_some.1 h
  simp only [evs_rdB,Option.some.injEq] at h1
  subst h1
  split at h2
  · rename_i T' xs hfs
    obtain ⟨_,h3,h4⟩:=evs_bind_some.1 h2
    obtain ⟨⟨v1,rest,w1⟩,h5,h6⟩:=evs_bind_some.1 h4
    obtain ⟨_,h7,h8⟩:=evs_bind_some.1 h6
    obtain ⟨⟨vs,w2⟩,h9,h10⟩:=evs_bind_some.1 h8
    simp at h10
    obtain ⟨rfl,rfl⟩:=h10
    have hT:=Nat.eq_of_beq_eq_true (evs_guard.1 h3)
    subst hT
    have:=rest_nil h7
    subst this
    obtain ⟨hl,hfz,hbx⟩:=boxesT_ok hw hB hno h9 hu.2
    have hbb:=hB b0
    rw [hfs] at hbb
    obtain ⟨g,cs1,e1,e2,e3,e4⟩:=hbb
    obtain ⟨g',q1,q2⟩:=hu.1
    rw [e1] at q1
    simp at q1;subst q1
    have hge:cx.w0.heap.size<=g:=(hw.ge e4).elim id fun h=>absurd h (hno g)
    obtain ⟨f1,f2⟩:=packT_all hB h5 e3
    refine ⟨by simp [hl],fun p hp hne=>?_,fun nm=>?_⟩
    · rcases List.mem_cons.1 hp with rfl | hp
      · exact absurd rfl hne
      · rcases List.mem_append.1 hp with hp | hp
        · exact f1 p hp
        · exact hfz p hp hne
    · obtain ⟨V,K,m1,m2,m3⟩:=hbx (nm+1)
      refine ⟨(nm,u) :: V,(b0,nm) :: K,?_,?_,fun ns ok' ec oc hns hto ho=>?_⟩
      · rw [List.map_cons,m1,List.length_cons,List.range'_succ]
      · rw [List.map_cons,m2,struck,struck_append,struck_frz f1,List.nil_append]
      · have ho2:Outs own cx.w0.heap.size V K ec oc:=⟨fun p hp=>ho.val p (List.mem_cons_of_mem _ hp),fun p hp=>ho.row p (List.mem_cons_of_mem _ hp)⟩
        obtain ⟨i1,i2⟩:=m3 ns ok' ec oc (fun p hp hne=>hns p (List.mem_cons_of_mem _ (List.mem_append_right _ hp)) hne) hto ho2
        have hec:=ho.val (nm,u) (by simp)
        simp only at hec
        rw [q2] at hec
        refine ⟨⟨⟨g,hec,q2⟩,i1⟩,fun p hp=>?_⟩
        rcases List.mem_cons.1 hp with rfl | hp
        · refine ⟨g,cs1,hec,e2,flat_ok (hto.fits (f2 ns fun p hp=>hns p (List.mem_cons_of_mem _ (List.mem_append_left _ hp)) ?_)),ho.row (b0,nm) (by simp) g e4 hge⟩
          obtain ⟨m,T,e,l,_,q⟩:=f1 p hp
          rw [q];intro hq;cases hq
        · exact i2 p hp
  · simp [T.evs] at h2
 | .prod _ _,_ :: _,.ptr _ (_+1) :: _,_,_,_,h,_=>by simp [boxesT,T.evs] at h
 | .prod _ _,_ :: _,.imm _ _ :: _,_,_,_,h,_=>by simp [boxesT,T.evs] at h
 | .unit,_ :: _,_,_,_,_,h,_=>by simp [boxesT,T.evs] at h
 | .unit,[],_ :: _,_,_,_,h,_=>by simp [boxesT,T.evs] at h
 | .prod _ _,[],_,_,_,_,h,_=>by simp [boxesT,T.evs] at h
 | .prod _ _,_ :: _,[],_,_,_,h,_=>by simp [boxesT,T.evs] at h
 | .bool,_,_,_,_,_,h,_=>by simp [boxesT,T.evs] at h
 | .int _,_,_,_,_,_,h,_=>by simp [boxesT,T.evs] at h
 | .slice _,_,_,_,_,_,h,_=>by simp [boxesT,T.evs] at h
 | .unit,[],[],_,_,_ :: _,_,hu=>hu.elim
 | .prod _ _,_ :: _,_ :: _,_,_,[],_,hu=>hu.elim
theorem resT_ok (ht:TEok P te) {N:Nat->Prop} (hw:RW cx w env own N) (hB:RB cx fs w env own) (hR:RS cx fs act.tmps w env own) (hlent:∀ g,¬cx.lent g) {nop:Bool} (hno:nop=true->∀ g,¬cx.outer g):∀ {rs:List RTy} {rv:List ResultVar} {r:Rden rs} {ws:Ws},(resT te nop rs rv).evs fs=some (r,ws) ->
 ∃ vals,(rv.mapM (rvRun act.tmps)).run P w = .ok vals w/\(∀ p∈ws,p.2≠.no->∃ m T e l,fs (.b p.1) = .arr m T e l/\p.2 = .arr false T e l)/\∀ nm,∃ (V:List (Nat × Value)) (K:List (Nat × Nat)),V.map (·.1)=List.range' nm ((resL rs r nm).2.2 - nm)/\nm<=(resL rs r nm).2.2/\K.map (·.1)=struck ws /\
  ∀ (ns:List Nat) (ok':Nat->Prop) (ec:Nm) (oc:Ow),(∀ p∈ws,p.2≠.no->p.1∈ns)->To cx w own ns ok'->Outs own cx.w0.heap.size V K ec oc ->
   All2 (A1R w.heap ok' ec) (resL rs r nm).1 vals/\∀ p∈(resL rs r nm).2.1,CellR cx.low w.heap ok' ec oc p.1 p.2
 | [],[],r,ws,h=>by
  simp [resT,T.evs] at h
  subst h
  exact ⟨[],rfl,by simp,fun nm=>⟨[],[],by simp [resL],by simp [resL],by simp [struck],fun _ _ _ _ _ _ _=>by simp [resL,All2]⟩⟩
 | r0 :: rs,x :: rv,r,ws,h=>by
  cases hcl:r0.clo with
  | some gT =>
   obtain ⟨g0,Ts⟩:=gT
   simp only [resT,hcl] at h
   cases x with
   | cell n tt=>simp [T.evs] at h
   | tmp n =>
    obtain ⟨_,h1,h2⟩:=evs_bind_some.1 h
    obtain ⟨l,h3,h4⟩:=evs_bind_some.1 h2
    obtain ⟨⟨v,w1⟩,h5,h6⟩:=evs_bind_some.1 h4
    obtain ⟨⟨vs,w3⟩,h7,h8⟩:=evs_bind_some.1 h6
    simp at h8
    obtain ⟨rfl,rfl⟩:=h8
    obtain ⟨vals,hrun2,hfr,hrest⟩:=resT_ok ht hw hB hR hlent hno h7
    have hnop:=evs_guard.1 h1
    have hl:=rd1_ok hR h3
    unfold cloT at h5
    split at h5
    · rename_i g' ca
      obtain ⟨_,h9,h10⟩:=evs_bind_some.1 h5
      have hg:=Nat.eq_of_beq_eq_true (evs_guard.1 h9)
      subst hg
      obtain ⟨us0,us,e0,q1,q2⟩:=hl
      have hus0:us0=#[]:=by
       have:=q1.len
       simpa using this.symm
      obtain ⟨hlen,hfz,hbx⟩:=boxesT_ok hw hB (hno hnop) h10 q2
      refine ⟨(.func (.func g0) #[] us) :: vals,?_,fun p hp hne=>?_,fun nm=>?_⟩
      · simp only [List.mapM_cons,Sem.run_bind,hrun2,Result.andThen_ok,Sem.run_pure,rvRun]
        rw [show act.tmps.getD n undef = .func (.func g0) #[] us from by
         have:act.tmps.getD n undef = .func (.func g0) us0 us:=e0
         rw [this,hus0]]
      · rcases List.mem_append.1 hp with hp | hp
        · exact hfz p hp hne
        · exact hfr p hp hne
      · obtain ⟨V,K,m1,m2,m3,m4⟩:=hrest (nm+Ts.length)
        obtain ⟨V0,K0,n1,n2,n3⟩:=hbx nm
        have hres:(resL (r0 :: rs) (v,vs) nm)=(.one (.clo g0 [] (capsN nm Ts.length)) :: (resL rs vs (nm+Ts.length)).1,boxesL r0.t v Ts nm ++ (resL rs vs (nm+Ts.length)).2.1,(resL rs vs (nm+Ts.length)).2.2):=by simp only [resL,hcl]
        rw [hres]
        refine ⟨V0 ++ V,K0 ++ K,?_,?_,?_,fun ns ok' ec oc hns hto ho=>?_⟩
        · rw [List.map_append,n1,m1]
          simp only
          rw [show (resL rs vs (nm+Ts.length)).2.2 - nm=Ts.length+((resL rs vs (nm+Ts.length)).2.2 - (nm+Ts.length)) by omega,<-List.range'_append_1]
        · simp only;omega
        · rw [List.map_append,n2,m3,struck_append]
        · have ho1:Outs own cx.w0.heap.size V0 K0 ec oc:=⟨fun p hp=>ho.val p (List.mem_append_left _ hp),fun p hp=>ho.row p (List.mem_append_left _ hp)⟩
          have ho2:Outs own cx.w0.heap.size V K ec oc:=⟨fun p hp=>ho.val p (List.mem_append_right _ hp),fun p hp=>ho.row p (List.mem_append_right _ hp)⟩
          obtain ⟨j1,j2⟩:=m4 ns ok' ec oc (fun p hp=>hns p (List.mem_append_right _ hp)) hto ho2
          obtain ⟨i1,i2⟩:=n3 ns ok' ec oc (fun p hp=>hns p (List.mem_append_left _ hp)) hto ho1
          refine ⟨⟨⟨#[],us,rfl,trivial,i1⟩,j1⟩,fun p hp=>?_⟩
          rcases List.mem_append.1 hp with hp | hp
          · exact i2 p hp
          · exact j2 p hp
    · simp [T.evs] at h5
  | none =>
   simp only [resT,hcl] at h
   obtain ⟨ys,h1,h2⟩:=evs_bind_some.1 h
   obtain ⟨⟨zs,w1⟩,h3,h4⟩:=evs_bind_some.1 h2
   obtain ⟨⟨v,rest,w2⟩,h5,h6⟩:=evs_bind_some.1 h4
   obtain ⟨_,h7,h8⟩:=evs_bind_some.1 h6
   obtain ⟨⟨vs,w3⟩,h9,h10⟩:=evs_bind_some.1 h8
   simp at h10
   obtain ⟨rfl,rfl⟩:=h10
   have:=rest_nil h7
   subst this
   obtain ⟨val,hrun,hys,hval⟩:=resV_ok ht hB hR h1
   obtain ⟨z1,hz,hrel⟩:=packT_rel h5
   rw [List.append_nil] at hz
   subst hz
   obtain ⟨vals,hrun2,hfr,hrest⟩:=resT_ok ht hw hB hR hlent hno h9
   have hno:=fun nm=>(outV_names (nm:=nm) h3 hys.len)
   have hf2:Frz fs w2:=by
    exact packT_frz h5
   refine ⟨val :: vals,?_,fun p hp hne=>?_,fun nm=>?_⟩
   · simp only [List.mapM_cons,Sem.run_bind,hrun,Result.andThen_ok,hrun2,Sem.run_pure]
   · rcases List.mem_append.1 hp with hp | hp
     · exact absurd ((hno 0).2.2.2 p hp) hne
     · rcases List.mem_append.1 hp with hp | hp
       · exact hf2 p hp
       · exact hfr p hp hne
   · obtain ⟨n1,n2,n3,n4⟩:=hno nm
     have hk:(ownL (flat r0.t v) r0.own nm).2.2=(outV ys r0.own val.cells.toList nm).2.2:=by
      have:∀ {ys zs xs:List Lf} {os:List (Option TypeId)} {w1:Ws} {cs:List Value} {nm:Nat},(outL ys os).evs fs=some (zs,w1)->All2 (fun z x=>PR fs z x/\OwnIn w2 z) zs xs->ys.length=cs.length->(ownL xs os nm).2.2=(outV ys os cs nm).2.2:=by
       intro ys
       induction ys with
       | nil =>
        intro zs xs os w1 cs nm h hp hl
        have h':zs=[]:=by cases os <;> (simp [outL,T.evs] at h;exact h.1.symm ▸ rfl)
        subst h'
        cases xs with
        | cons _ _=>exact hp.elim
        | nil=>cases cs with
         | cons _ _=>simp at hl
         | nil=>cases os <;> simp [ownL,outV]
       | cons y ys ih =>
        intro zs xs os w1 cs nm h hp hl
        cases cs with
        | nil=>simp at hl
        | cons c cs =>
        cases os with
        | nil=>simp [outL,T.evs] at h
        | cons o os =>
         cases o with
         | none =>
          simp only [outL] at h
          obtain ⟨⟨zs',u2⟩,q3,q4⟩:=evs_bind_some.1 h
          simp at q4
          obtain ⟨rfl,rfl⟩:=q4
          cases xs with
          | nil=>exact hp.elim
          | cons x xs =>
           have:ownL (x :: xs) (none :: os) nm=(x :: (ownL xs os nm).1,(ownL xs os nm).2):=by
            cases x <;> first | rfl | (rename_i t v;cases t <;> rfl)
           rw [this]
           simp only [outV]
           exact ih q3 hp.2 (by simpa using hl)
         | some tt =>
          simp only [outL] at h
          obtain ⟨⟨z,u1⟩,q1,q2⟩:=evs_bind_some.1 h
          obtain ⟨⟨zs',u2⟩,q3,q4⟩:=evs_bind_some.1 q2
          simp at q4
          obtain ⟨rfl,rfl⟩:=q4
          cases xs with
          | nil=>exact hp.elim
          | cons x xs =>
           have hx:∃ e l,x = .imm (.slice e) l:=by
            split at q1
            · obtain ⟨cl,h5,h6⟩:=evs_bind_some.1 q1
              split at h6
              · obtain ⟨_,h7,h8⟩:=evs_bind_some.1 h6
                simp at h8
                obtain ⟨rfl,rfl⟩:=h8
                have:=hp.1.1
                cases this with
                | raw x h=>simp [Lf.isRaw] at h
                | imm t v=>exact ⟨_,_,rfl⟩
              · simp [T.evs] at h6
            · simp [T.evs] at q1
              obtain ⟨rfl,rfl⟩:=q1
              have:=hp.1.1
              cases this with
              | raw x h=>simp [Lf.isRaw] at h
              | nil e=>exact ⟨_,_,rfl⟩
            · simp [T.evs] at q1
           obtain ⟨e,l,rfl⟩:=hx
           simp only [ownL,outV]
           exact ih q3 hp.2 (by simpa using hl)
      exact this h3 hrel hys.len
     obtain ⟨V,K,m1,m2,m3,m4⟩:=hrest (ownL (flat r0.t v) r0.own nm).2.2
     have hres:(resL (r0 :: rs) (v,vs) nm).2.2=(resL rs vs (ownL (flat r0.t v) r0.own nm).2.2).2.2:=by simp only [resL,hcl]
     refine ⟨(outV ys r0.own val.cells.toList nm).1 ++ V,(outV ys r0.own val.cells.toList nm).2.1 ++ K,?_,?_,?_,fun ns ok' ec oc hns hto ho=>?_⟩
     · rw [hres,List.map_append,n1,m1,hk]
       rw [hk] at m2
       rw [show (resL rs vs (outV ys r0.own val.cells.toList nm).2.2).2.2 - nm=((outV ys r0.own val.cells.toList nm).2.2 - nm)+((resL rs vs (outV ys r0.own val.cells.toList nm).2.2).2.2 - (outV ys r0.own val.cells.toList nm).2.2) by omega,<-List.range'_append_1]
       congr 2
       omega
     · rw [hres];rw [hk] at m2 ⊢;omega
     · rw [List.map_append,n3,m3,struck_append,struck_append (a:=w2),struck_frz hf2,List.nil_append]
     · have ho1:Outs own cx.w0.heap.size (outV ys r0.own val.cells.toList nm).1 (outV ys r0.own val.cells.toList nm).2.1 ec oc:=⟨fun p hp=>ho.val p (List.mem_append_left _ hp),fun p hp=>ho.row p (List.mem_append_left _ hp)⟩
       have ho2:Outs own cx.w0.heap.size V K ec oc:=⟨fun p hp=>ho.val p (List.mem_append_right _ hp),fun p hp=>ho.row p (List.mem_append_right _ hp)⟩
       obtain ⟨i1,i2,_⟩:=leaf_out hB hlent hto (w2:=w2) (fun p hp=>hns p (List.mem_append_right _ (List.mem_append_left _ hp)) (by obtain ⟨m,T,e,l,_,q⟩:=hf2 p hp;rw [q];intro hq;cases hq)) h3 hrel hys ho1
       obtain ⟨j1,j2⟩:=m4 ns ok' ec oc (fun p hp=>hns p (List.mem_append_right _ (List.mem_append_right _ hp))) hto ho2
       simp only [resL,hcl]
       refine ⟨⟨?_,j1⟩,fun p hp=>?_⟩
       · rw [hval]
         simp only [mkVal]
         cases hagg:r0.t.isAgg with
         | true=>exact ⟨_,rfl,i1⟩
         | false =>
          have hsz:r0.t.size=1:=size_one hagg
          have hone:val.cells.toList.length=1:=by
           have h1:=i1.len
           have h2:=hrel.len
           have h3':zs.length=ys.length:=by
            have:∀ {ys zs:List Lf} {os:List (Option TypeId)} {w1:Ws},(outL ys os).evs fs=some (zs,w1)->zs.length=ys.length:=by
             intro ys
             induction ys with
             | nil=>intro zs os w1 h;cases os <;> (simp [outL,T.evs] at h;simp [<-h.1])
             | cons y ys ih =>
              intro zs os w1 h
              cases os with
              | nil=>simp [outL,T.evs] at h
              | cons o os =>
               cases o with
               | none =>
                simp only [outL] at h
                obtain ⟨⟨zs',u2⟩,q3,q4⟩:=evs_bind_some.1 h
                simp at q4
                rw [<-q4.1];simp [ih q3]
               | some tt =>
                simp only [outL] at h
                obtain ⟨⟨z,u1⟩,q1,q2⟩:=evs_bind_some.1 h
                obtain ⟨⟨zs',u2⟩,q3,q4⟩:=evs_bind_some.1 q2
                simp at q4
                rw [<-q4.1];simp [ih q3]
            exact this h3
           have h4:=hys.len
           rw [flat_len,hsz,h3',h4] at h2
           exact h2
          match hcs:val.cells.toList,hone with
          | [c],_ =>
           rw [hcs] at i1
           match hys':(ownL (flat r0.t v) r0.own nm).1,i1 with
           | [y],i1=>simpa [A1R] using i1.1
       · rcases List.mem_append.1 hp with hp | hp
         · exact i2 p hp
         · exact j2 p hp
 | [],_ :: _,_,_,h=>by simp [resT,T.evs] at h
 | _ :: _,[],_,_,h=>by simp [resT,T.evs] at h
end
end Go.VI
namespace Go.VI
open Go Go.RowKit
section
variable {P:Program} {te:TE} {tbl:Tbl} {ann:Ann}
theorem oT_ok {cx:Cx} {fs:FS} {w:World} {env:Nm} {own:Ow} (hB:RB cx fs w env own) {ok':Nat->Prop} {ns:List Nat} (hto:To cx w own ns ok'):∀ {ps:List PTy} {gs:List Nat} {i:Nat} {u:Oden ps} {ws:Ws},(oT ps i).evs fs=some (u,ws)->BsOk ps gs ->
 (∀ p∈fixL ps gs i,env p.1=some (ptrV p.2))->(∀ p∈ws,p.1∈ns)->Frz fs ws/\OutR w.heap ok' ps u gs
 | [],gs,i,u,ws,h,_,_,_=>by
  simp [oT,T.evs] at h
  subst h
  exact ⟨Frz.nil,trivial⟩
 | .val _ :: ps,gs,i,u,ws,h,hb,hf,hn=>oT_ok hB hto (ps:=ps) h hb hf hn
 | .ptr tt t :: ps,g :: gs,i,u,ws,h,hb,hf,hn=>by
  simp only [oT] at h
  obtain ⟨c,h1,h2⟩:=evs_bind_some.1 h
  simp only [evs_rdB,Option.some.injEq] at h1
  subst h1
  split at h2
  · rename_i T' xs hfs
    obtain ⟨_,h3,h4⟩:=evs_bind_some.1 h2
    obtain ⟨⟨v,rest,w1⟩,h5,h6⟩:=evs_bind_some.1 h4
    obtain ⟨_,h7,h8⟩:=evs_bind_some.1 h6
    obtain ⟨⟨vs,w2⟩,h9,h10⟩:=evs_bind_some.1 h8
    simp at h10
    obtain ⟨rfl,rfl⟩:=h10
    have:=rest_nil h7
    subst this
    have hT:=Nat.eq_of_beq_eq_true (evs_guard.1 h3)
    subst hT
    have hbb:=hB i
    rw [hfs] at hbb
    obtain ⟨g',cs,e1,e2,e3,e4⟩:=hbb
    have he:=hf (i,g) (by simp [fixL])
    rw [e1] at he
    simp [ptrV] at he;subst he
    obtain ⟨f1,f2⟩:=packT_all hB h5 e3
    obtain ⟨f3,f4⟩:=oT_ok hB hto (ps:=ps) h9 hb (fun p hp=>hf p (List.mem_cons_of_mem _ hp)) (fun p hp=>hn p (by simp [hp]))
    exact ⟨f1.append f3,⟨cs,e2,hto.fits (f2 ns fun p hp=>hn p (by simp [hp]))⟩,f4⟩
  · simp [T.evs] at h2
 | .ptr _ _ :: _,[],_,_,_,_,hb,_,_=>hb.elim
theorem oT_frz {fs:FS}:∀ {ps:List PTy} {i:Nat} {u:Oden ps} {ws:Ws},(oT ps i).evs fs=some (u,ws)->∀ p∈ws,p.2≠.no
 | [],i,u,ws,h=>by
  simp [oT,T.evs] at h
  subst h
  simp
 | .val _ :: ps,i,u,ws,h=>oT_frz (ps:=ps) h
 | .ptr tt t :: ps,i,u,ws,h=>by
  simp only [oT] at h
  obtain ⟨c,h1,h2⟩:=evs_bind_some.1 h
  split at h2
  · obtain ⟨_,h3,h4⟩:=evs_bind_some.1 h2
    obtain ⟨⟨v,rest,w1⟩,h5,h6⟩:=evs_bind_some.1 h4
    obtain ⟨_,h7,h8⟩:=evs_bind_some.1 h6
    obtain ⟨⟨vs,w2⟩,h9,h10⟩:=evs_bind_some.1 h8
    simp at h10
    obtain ⟨rfl,rfl⟩:=h10
    intro p hp
    rcases List.mem_append.1 hp with hp | hp
    · obtain ⟨m,T,e,l,_,q⟩:=packT_frz h5 p hp
      rw [q];intro hq;cases hq
    · exact oT_frz (ps:=ps) h9 p hp
  · simp [T.evs] at h2
theorem results_eq (fn:Func) (tm:Array Value):results fn tm=(fn.results.mapM (rvRun tm) >>= fun vs=>pure (if h:vs.size=1 then vs[0] else .tuple vs)):=by
 unfold results
 congr 1
def finT (te:TE) (rs:List RTy) (rv:List ResultVar) (ps:List PTy) (st:List Wr):Tree (Rden rs × Oden ps) :=
 (T.run (look st) (do
  let (r,w1) <-resT te (ps.all PTy.isVal) rs rv
  let (u,w2) <-oT ps 0
  guardT (outOk (w1 ++ w2))
  pure (r,u)) []).bind fun x=>.leaf x.1
theorem fun_any (ht:TEok P te) (E:Entry) {fn:Func} {c:Code} (hf:P.funcs[E.f]?=some fn) (hb:fn.body=some c) (hps:E.sh.length<=fn.ntmps)
 (hC:∀ d r,E.F d=some r->∀ (cx:Cx) (act:Act) (w:World) (Q:Exit->Act->World->Prop),St cx fn.ntmps (look (entryW E.sh E.ps d)) act w (· < E.ps.length) ->
  (∀ e nx W act' w',(∀ id,e≠Ex.exit id)->(finT te E.rs fn.results.toList E.ps (W ++ entryW E.sh E.ps d)).ev=some r->St cx fn.ntmps (look (W ++ entryW E.sh E.ps d)) act' w' (· < nx)->Q (exOf e) act' w')->c.wp P Q act w):E.Sound P:=by
 intro w ok d args gs r ha _ hr nm
 have hlen:=ha.lt.2
 have hbs:BsOk E.ps gs:=by
  have:∀ {ps:List PTy} {d:Pden ps} {args:List Value} {gs:List Nat},ArgsR w.heap ok ps d args gs->BsOk ps gs:=by
   intro ps
   induction ps with
   | nil=>intro d args gs h;cases args <;> cases gs <;> first | trivial | exact h.elim
   | cons p ps ih =>
    intro d args gs h
    cases args with
    | nil=>cases p <;> exact h.elim
    | cons a args =>
     cases p with
     | val t=>exact ih h.2
     | ptr T t=>cases gs with
      | nil=>exact h.elim
      | cons g gs=>exact ih h.2.2.2.2
  exact this ha
 have hS:=start_ok ha hps
 generalize hcx:(⟨w,ok,(·∈gs),fun b=>(lk (fixL E.ps gs 0) b).map ptrV,fun _=>False⟩:Cx)=cx at hS
 refine (callsIn_wide (n:=0)).1 (callsIn_of_wp_marks (F:=Fence.wide) (n:=0) hf hb trivial ((wpIn_wide (n:=0)).2 (hC d r hr cx _ w _ hS fun e nx W act w1 hne hfin hS1=>?_)) rfl)
 have fin:∀ w',St cx fn.ntmps (look (W ++ entryW E.sh E.ps d)) ⟨act.tmps,[]⟩ w' (· < nx)->((T.run (look (W ++ entryW E.sh E.ps d)) (do
  let (r,w1) <-resT te (E.ps.all PTy.isVal) E.rs fn.results.toList
  let (u,w2) <-oT E.ps 0
  guardT (outOk (w1 ++ w2))
  pure (r,u)) []).bind fun x=>Tree.leaf x.1).ev=some r->∃ v,(results fn act.tmps).run P w' = .ok v w'/\∃ vals env own,Ending.returned v = .returned (packV vals)/\Returns E w ok gs r nm w' vals env own:=by
  intro w' hS' hfin
  obtain ⟨x,rs,q1,q2⟩:=evs_of_run hfin
  simp [Tree.ev] at q2;subst q2
  obtain ⟨⟨rr,w1⟩,q3,q4⟩:=evs_bind_some.1 q1
  obtain ⟨⟨u,w2⟩,q5,q6⟩:=evs_bind_some.1 q4
  obtain ⟨_,q7,q8⟩:=evs_bind_some.1 q6
  simp at q8;subst q8
  have hout:=outOk_spec (evs_guard.1 q7)
  obtain ⟨env,own,hw,hB,hR,-⟩:=hS'.ex
  have hno:E.ps.all PTy.isVal=true->∀ g,¬cx.outer g:=fun hv g hg=>by
   rw [<-hcx] at hg
   have:∀ {ps:List PTy} {gs:List Nat},ps.all PTy.isVal=true->BsOk ps gs->gs=[]:=by
    intro ps
    induction ps with
    | nil=>intro gs _ h;cases gs with
     | nil=>rfl
     | cons _ _=>exact h.elim
    | cons p ps ih=>intro gs hv h;cases p with
     | val t=>exact ih (by simpa [PTy.isVal] using hv) h
     | ptr T t=>simp [PTy.isVal] at hv
   rw [this hv hbs] at hg
   cases hg
  have hlent:∀ g,¬cx.lent g:=by rw [<-hcx];exact fun _ h=>h
  obtain ⟨vals,hvals,hfr,hres⟩:=resT_ok ht hw hB hR hlent hno q3
  obtain ⟨V,K,hV,hVle,hK,hres⟩:=hres nm
  have hw0:cx.w0=w:=by rw [<-hcx]
  have hok0:cx.ok0=ok:=by rw [<-hcx]
  let ec:Nm:=lk V
  let oc:Ow:=fun g=>if w.heap.size<=g then (own g).bind (lk K) else none
  let ns:List Nat:=(w1 ++ w2).filterMap fun p=>if p.2.live then some p.1 else none
  have hlive:∀ c:Cell,c≠.no->c.live=true:=fun c hc=>by cases c <;> first | rfl | exact absurd rfl hc
  have hns:∀ p∈w1 ++ w2,p.2≠.no->p.1∈ns:=fun p hp hne=>List.mem_filterMap.2 ⟨p,hp,by rw [if_pos (hlive _ hne)]⟩
  have hKn:(K.map (·.1)).Nodup:=by
   rw [hK]
   have:=hout.1
   rw [struck_append] at this
   exact (List.nodup_append.1 this).1
  have hVn:(V.map (·.1)).Nodup:=by rw [hV];exact List.nodup_range'
  have hnsK:∀ b∈ns,lk K b=none:=fun b hb=>lk_none fun v hv=>by
   obtain ⟨p,hp,he⟩:=List.mem_filterMap.1 hb
   split at he
   · rename_i hl
     simp only [Option.some.injEq] at he
     have hne:p.2≠.no:=fun h0=>by rw [h0] at hl;cases hl
     refine hout.2 p hp hne ?_
     rw [struck_append,he]
     have:b∈K.map (·.1):=List.mem_map.2 ⟨_,hv,rfl⟩
     rw [hK] at this
     exact List.mem_append_left _ this
   · cases he
  have hto:To cx w' own ns (okAt ok oc w.heap.size):=⟨fun c hc=>by
   refine ⟨?_,by rw [<-hok0,<-hw0];exact (hc.2.imp id fun h=>h.resolve_right fun q=>hlent _ q.2)⟩
   simp only [oc]
   split
   · cases ho:own c with
     | none=>rfl
     | some b =>
      by_cases hm:b∈ns
      · exact hnsK b hm
      · have:=hc.1
        rw [unown_out ho hm] at this
        cases this
   · rfl⟩
  have houts:Outs own cx.w0.heap.size V K ec oc:=⟨fun p hp=>lk_of hVn hp,fun p hp g hg hB=>by
   simp only [oc]
   rw [hw0] at hB
   rw [if_pos hB,hg]
   exact lk_of hKn hp⟩
  obtain ⟨r1,r2⟩:=hres ns (okAt ok oc w.heap.size) ec oc (fun p hp=>hns p (List.mem_append_left _ hp)) hto houts
  obtain ⟨_,r3⟩:=oT_ok hB hto q5 hbs (fun p hp=>hw.fix p.1 (ptrV p.2) (by
   rw [<-hcx]
   simp only
   rw [lk_of (fixL_nodup1) (show (p.1,p.2)∈_ from hp)];rfl)) (fun p hp=>hns p (List.mem_append_right _ hp) (oT_frz q5 p hp))
  have r2:∀ p∈(resL E.rs rr nm).2.1,CellR (fun g=>w.heap.size<=g) w'.heap (okAt ok oc w.heap.size) ec oc p.1 p.2:=fun p hp=>(r2 p hp).conv (fun g _ hg=>by rw [<-hw0];exact hg.resolve_right fun h=>hlent g h.2) (fun c hc _=>⟨hc,rfl⟩) (fun _ _ h=>h) fun g hg=>⟨hg,rfl⟩
  refine ⟨packV vals,?_,vals,ec,oc,rfl,⟨⟨by rw [<-hw0];exact hw.os,by rw [<-hw0];exact hw.tape,by rw [<-hw0];exact hw.output,by rw [<-hw0];exact hw.size,fun c hc hg=>?_⟩,fun c hc=>?_,fun b hb=>?_,r1,r2,r3⟩⟩
  · have hm:(fn.results.toList.mapM (rvRun act.tmps)).run P w' = .ok vals w':=hvals
    rw [results_eq,Array.mapM_eq_mapM_toList]
    simp only [Sem.run_bind,Sem.run_map,hm,Result.andThen_ok,Sem.run_pure]
    congr 1
    match vals with
    | []=>rfl
    | [v]=>rfl
    | _ :: _ :: _=>rfl
  · rw [<-hw0] at hc ⊢
    exact (hw.old c hc (by rw [<-hcx];exact hg)).2
  · simp only [oc] at hc
    split at hc
    · rename_i hle
      refine ⟨hle,?_⟩
      cases ho:own c with
      | none=>simp [ho] at hc
      | some b=>exact hw.lt ho
    · exact absurd rfl hc
  · cases hl:lk V b with
    | none=>exact absurd hl hb
    | some v =>
     have:b∈V.map (·.1):=List.mem_map.2 ⟨_,lk_mem hl,rfl⟩
     rw [hV] at this
     have:=List.mem_range'_1.1 this
     show nm<=b/\b < (resL E.rs rr nm).2.2
     omega
 cases e with
 | normal=>exact leaves_marks act.defers w1 hS1 fun w' hS'=>fin w' hS' hfin
 | exit id=>exact absurd rfl (hne id)
 | ret=>exact leaves_marks act.defers w1 hS1 fun w' hS'=>fin w' hS' hfin
theorem fun_sound (ht:TEok P te) (hT:tbl.Sound P) (hA:ann.Sound P) (hmix:P.follows .mixedOrders=true) (E:Entry) {fn:Func} {c:Code} (hf:P.funcs[E.f]?=some fn) (hb:fn.body=some c) (hps:E.sh.length<=fn.ntmps)
 (hF:∀ d r,E.F d=some r->(funT te tbl ann fn.ntmps c fn.results.toList E.sh E.ps E.rs d).ev=some r):E.Sound P:=by
 refine fun_any (te:=te) ht E hf hb hps fun d r hr cx act w Q hS hQ=>?_
 have hr:=hF d r hr
 unfold funT at hr
 rw [Tree.ev_bind] at hr
 cases hrun:(runCode te tbl ann fn.ntmps c 0 E.ps.length (entryW E.sh E.ps d)).ev with
 | none=>simp [hrun] at hr
 | some o =>
  obtain ⟨e,nx,W⟩:=o
  simp only [hrun,Option.bind_some] at hr
  refine code_wp ht hT hA hmix c 0 E.ps.length _ _ _ w _ hrun hS fun act' w' hS'=>?_
  cases e with
  | normal=>exact hQ .normal nx W act' w' (fun _ h=>by cases h) hr hS'
  | exit id=>simp [Tree.ev] at hr
  | ret=>exact hQ .ret nx W act' w' (fun _ h=>by cases h) hr hS'
end
end Go.VI
namespace Go.VI
open Go Go.RowKit
def zB:Ty->List Value->Option (List Value)
 | .bool,.bool false :: r=>some r
 | .int k,.int k' n :: r=>cond (decide (k=k') && n == 0) (some r) none
 | .slice _,.slice none 0 0 :: r=>some r
 | .prod a b,xs=>(zB a xs).bind fun r=>zB b r
 | .unit,xs=>some xs
 | .raw .fn,.nilFunc :: r=>some r
 | .raw .map,.map none :: r=>some r
 | .raw .ifc,.nilIface :: r=>some r
 | .raw .ptr,.pointer none :: r=>some r
 | .ifo _ _,.nilIface :: r=>some r
 | _,_=>none
theorem zB_ok:∀ {t:Ty} {xs r:List Value},zB t xs=some r->xs=zeroV t ++ r
 | .bool,xs,r,h=>by
  unfold zB at h
  split at h <;> simp_all [zeroV]
 | .int k,xs,r,h=>by
  match xs,h with
  | .int k' n :: r',h =>
   simp only [zB] at h
   cases hc:(decide (k=k') && n == 0) with
   | false=>simp [hc] at h
   | true =>
    simp [hc] at h;subst h
    simp only [Bool.and_eq_true,decide_eq_true_eq,beq_iff_eq] at hc
    obtain ⟨rfl,rfl⟩:=hc
    rfl
  | [],h=>simp [zB] at h
 | .slice _,xs,r,h=>by
  unfold zB at h
  split at h <;> simp_all [zeroV]
 | .prod a b,xs,r,h=>by
  simp only [zB] at h
  obtain ⟨r1,h1,h2⟩:=Option.bind_eq_some_iff.1 h
  rw [zB_ok h1,zB_ok h2]
  simp [zeroV]
 | .unit,xs,r,h=>by simp [zB] at h;simp [zeroV,h]
 | .raw k,xs,r,h=>by
  cases k <;> (unfold zB at h;split at h <;> simp_all [zeroV])
 | .ifo _ _,xs,r,h=>by
  unfold zB at h;split at h <;> simp_all [zeroV]
def infoB (P:Program) (t:TypeId) (ty:Ty) (f:TypeInfo->Bool):Bool:=match P.info? t with
 | some i=>Nat.beq i.size ty.size && f i
 | none=>false
def zeroB (ty:Ty) (i:TypeInfo):Bool:=match i.zero with
 | some z=>match zB ty z.cells.toList with
  | some []=>true
  | _=>false
 | none=>false
def aggB (P:Program) (t:TypeId) (ty:Ty):Bool:=match P.underlying t with
 | some d=>aggD d == ty.isAgg
 | none=>false
def fieldsB (P:Program):List Field->List (Nat × Ty)->Bool
 | [],[]=>true
 | f :: fs,p :: ps=>Nat.beq f.offset p.1 && infoB P f.type p.2 (fun _=>true) && Nat.blt 0 p.2.size && aggB P f.type p.2 && fieldsB P fs ps
 | _,_=>false
def placesB (e:Ty):Nat->Nat->List (Nat × Ty)->Bool
 | 0,_,[]=>true
 | n+1,k,p :: ps=>Nat.beq p.1 (k*e.size) && Ty.eqb p.2 e && placesB e n (k+1) ps
 | _,_,_=>false
def arrB (P:Program) (r:Row):Bool:=match r.arr with
 | none=>true
 | some (n,e)=>r.ty.isAgg && (match P.underlying r.t with
  | some (.array m t)=>Nat.beq m n && Nat.beq t r.elem
  | _=>false) && infoB P r.elem e (fun _=>true) && Nat.blt 0 e.size && aggB P r.elem e && placesB e n 0 r.fields
def rowB (P:Program) (r:Row):Bool :=
 infoB P r.t r.ty (zeroB r.ty) && aggB P r.t r.ty &&
 (match r.ty with
  | .int k=>(match P.underlying r.t with
   | some (.int k')=>decide (k'=k)
   | _=>false)
  | .slice e=>(match P.underlying r.t with
   | some (.slice t)=>Nat.beq t r.elem
   | _=>false) && infoB P r.elem e (fun i=>Nat.beq i.bytes r.bytes && zeroB e i) && Nat.blt 0 e.size && Nat.blt 0 r.bytes
  | _=>true) &&
 cond r.isStruct (match P.underlying r.t with
  | some (.struct fs)=>fieldsB P fs.toList r.fields
  | _=>false) true &&
 arrB P r &&
 cond r.cmp (!P.eqGuardType P.depth r.t && compB P 20 r.t r.ty) true
section
variable {P:Program} {te:TE}
theorem infoB_ok {t:TypeId} {ty:Ty} {f:TypeInfo->Bool} (h:infoB P t ty f=true):∃ i,P.info? t=some i/\i.size=ty.size/\f i=true:=by
 unfold infoB at h
 split at h
 · rename_i i hi
   simp only [Bool.and_eq_true] at h
   exact ⟨i,hi,Nat.eq_of_beq_eq_true h.1,h.2⟩
 · cases h
theorem zeroB_ok {ty:Ty} {i:TypeInfo} (h:zeroB ty i=true):∃ z,i.zero=some z/\z.cells.toList=zeroV ty:=by
 unfold zeroB at h
 split at h
 · rename_i z hz
   split at h
   · rename_i h2
     exact ⟨z,hz,by simpa using zB_ok h2⟩
   · cases h
 · cases h
theorem aggB_ok {t:TypeId} {ty:Ty} (h:aggB P t ty=true):∃ d,P.underlying t=some d/\aggD d=ty.isAgg:=by
 unfold aggB at h
 split at h
 · rename_i d hd
   exact ⟨d,hd,by simpa using h⟩
 · cases h
theorem fieldsB_ok:∀ {fs:List Field} {ps:List (Nat × Ty)},fieldsB P fs ps=true->fs.length=ps.length/\∀ (j:Nat) f,fs[j]?=some f->∃ p,ps[j]?=some p/\f.offset=p.1/\∃ i d,P.info? f.type=some i/\i.size=p.2.size/\0 < p.2.size/\P.underlying f.type=some d/\aggD d=p.2.isAgg
 | [],[],_=>⟨rfl,fun j f h=>by simp at h⟩
 | f :: fs,p :: ps,h=>by
  simp only [fieldsB,Bool.and_eq_true] at h
  obtain ⟨⟨⟨⟨h1,h2⟩,h3⟩,h4⟩,h5⟩:=h
  obtain ⟨e,k⟩:=fieldsB_ok h5
  refine ⟨by simp [e],fun j g hg=>?_⟩
  cases j with
  | zero =>
   simp at hg;subst hg
   obtain ⟨i,hi,hs,_⟩:=infoB_ok h2
   obtain ⟨d,hd,ha⟩:=aggB_ok h4
   exact ⟨p,rfl,Nat.eq_of_beq_eq_true h1,i,d,hi,hs,by simpa using h3,hd,ha⟩
  | succ j=>exact k j g (by simpa using hg)
 | [],_ :: _,h=>by simp [fieldsB] at h
 | _ :: _,[],h=>by simp [fieldsB] at h
theorem placesB_ok {e:Ty}:∀ {n k:Nat} {ps:List (Nat × Ty)},placesB e n k ps=true->ps=(List.range' k n).map fun j=>(j*e.size,e)
 | 0,k,[],_=>rfl
 | n+1,k,(a,b) :: ps,h=>by
  simp only [placesB,Bool.and_eq_true] at h
  rw [List.range'_succ,List.map_cons,<-placesB_ok h.2,Nat.eq_of_beq_eq_true h.1.1,Ty.eqb_eq h.1.2]
 | 0,_,_ :: _,h=>by simp [placesB] at h
 | _+1,_,[],h=>by simp [placesB] at h
theorem rowB_ok {r:Row} (h:rowB P r=true):RowOk P te r:=by
 unfold rowB at h
 simp only [Bool.and_eq_true] at h
 obtain ⟨⟨⟨⟨⟨h1,h2⟩,h3⟩,h4⟩,h6⟩,h5⟩:=h
 obtain ⟨i,hi,hs,hz⟩:=infoB_ok h1
 obtain ⟨z,hz1,hz2⟩:=zeroB_ok hz
 refine ⟨⟨i,z,hi,hs,hz1,hz2⟩,aggB_ok h2,fun k hk=>?_,fun e he=>?_,fun ha hna=>?_,fun n e hra=>?_,fun hc=>?_⟩
 · rw [hk] at h3
   simp only at h3
   split at h3
   · rename_i k' hu
     rw [hu,of_decide_eq_true h3]
   · cases h3
 · rw [he] at h3
   simp only [Bool.and_eq_true] at h3
   obtain ⟨⟨⟨q1,q2⟩,q3⟩,q4⟩:=h3
   obtain ⟨j,hj,hjs,hjf⟩:=infoB_ok q2
   simp only [Bool.and_eq_true] at hjf
   obtain ⟨y,hy1,hy2⟩:=zeroB_ok hjf.2
   split at q1
   · rename_i t hu
     exact ⟨by rw [hu,Nat.eq_of_beq_eq_true q1],j,y,hj,hjs,Nat.eq_of_beq_eq_true hjf.1,by simpa using q3,by simpa using q4,hy1,hy2⟩
   · cases q1
 · rw [show r.isStruct=true by simp [Row.isStruct,ha,hna],cond_true] at h4
   split at h4
   · rename_i fs hu
     obtain ⟨e,k⟩:=fieldsB_ok h4
     exact ⟨fs,hu,by simpa using e,fun j f hf=>k j f (by simpa using hf)⟩
   · cases h4
 · unfold arrB at h6
   rw [hra] at h6
   simp only [Bool.and_eq_true] at h6
   obtain ⟨⟨⟨⟨⟨q1,q2⟩,q3⟩,q4⟩,q5⟩,q6⟩:=h6
   obtain ⟨j,hj,hjs,_⟩:=infoB_ok q3
   obtain ⟨d,hd,hda⟩:=aggB_ok q5
   split at q2
   · rename_i m t hu
     simp only [Bool.and_eq_true] at q2
     refine ⟨q1,by rw [hu,Nat.eq_of_beq_eq_true q2.1,Nat.eq_of_beq_eq_true q2.2],j,d,hj,hjs,by simpa using q4,hd,hda,?_⟩
     rw [placesB_ok q6,List.range_eq_range']
   · cases q2
 · rw [hc,cond_true] at h5
   simpa using h5
theorem TEok.of (h:te.all (rowB P)=true):TEok P te:=by
 have:∀ te':TE,(∀ r∈te',r∈te)->∀ t r,te'.find t=some r->r.t=t/\r∈te:=by
  intro te'
  induction te' with
  | nil=>intro _ t r h;simp [TE.find] at h
  | cons r' te' ih =>
   intro hm t r hf
   simp only [TE.find] at hf
   cases hb:Nat.beq r'.t t with
   | true =>
    simp [hb] at hf;subst hf
    exact ⟨Nat.eq_of_beq_eq_true hb,hm _ (by simp)⟩
   | false =>
    simp [hb] at hf
    exact ih (fun r hr=>hm r (by simp [hr])) t r hf
 intro t r hf
 obtain ⟨h1,h2⟩:=this te (fun _ h=>h) t r hf
 exact ⟨h1,rowB_ok (List.all_eq_true.1 h r h2)⟩
theorem Tbl.sound_nil:Tbl.Sound P []:=fun E h=>by cases h
theorem Tbl.sound_more {E:Ent} {tbl:Tbl} (h1:Enters P E.f) (h2:E.Sound P) (h3:Tbl.Sound P tbl):Tbl.Sound P (E :: tbl):=fun E' h=>by
 rcases List.mem_cons.1 h with rfl | h
 · exact ⟨h1,h2⟩
 · exact h3 E' h
theorem Tbl.sound_cons {E:Entry} {tbl:Tbl} (h1:Enters P E.f) (h2:E.Sound P) (h3:Tbl.Sound P tbl):Tbl.Sound P (E.ent :: tbl):=Tbl.sound_more h1 h2.ent h3
def bodyOf (f:Func):Code:=f.body.getD .skip
def okF (fn : Func) (n k : Nat) : Bool := !(fn.name == "runtime.NumGoroutine") && fn.body.isSome && Nat.beq k fn.ntmps && Nat.ble n k
theorem ent_ok {tbl:Tbl} {ann:Ann} (ht:TEok P te) (hmix:P.follows .mixedOrders=true) (hT:tbl.Sound P) {fn:Func} {f k:Nat} {sh:List AP} {ps:List PTy} {rs:List RTy} (hf:P.funcs[f]?=some fn) (hk:okF fn sh.length k=true)
 {F:Pden ps->Option (Rden rs × Oden ps)} (hF:F=fun d=>(funT te tbl ann k (bodyOf fn) fn.results.toList sh ps rs d).ev) (hA:ann.Sound P):Enters P f/\(⟨f,sh,ps,rs,F⟩:Entry).Sound P:=by
 simp only [okF,Bool.and_eq_true,Bool.not_eq_true'] at hk
 obtain ⟨⟨⟨h1,h2⟩,h3⟩,h4⟩:=hk
 obtain ⟨c,hc⟩:=Option.isSome_iff_exists.1 h2
 have h3:=Nat.eq_of_beq_eq_true h3
 subst h3
 have hb:bodyOf fn=c:=by simp [bodyOf,hc]
 refine ⟨fun args w=>?_,fun_sound (ann:=ann) ht hT hA hmix ⟨f,sh,ps,rs,F⟩ hf hc (Nat.le_of_ble_eq_true h4) fun d r h=>?_⟩
 · simp only [beq_eq_false_iff_ne,ne_eq] at h1
   simp [callFunc,hf,h1,hc]
 · subst hF;rw [hb] at h;exact h
end
end Go.VI
namespace Go.VI
open Go Go.RowKit
section
variable {P:Program} {te:TE} {tbl:Tbl} {ann:Ann}
theorem St.put {cx:Cx} {nt:Nat} {st:List Wr} {act:Act} {w:World} {N:Nat->Prop} (hS:St cx nt (look st) act w N) {q:Nat} {v:Value} {c:Cell} (hq:q < nt) (hv:∀ h ok env,SlotR h ok env c v):St cx nt (look (.w (.s q) c :: st)) (act.put (some q) v) w N:=by
 obtain ⟨env,own,h1,h2,h3,h4⟩:=hS.ex
 refine ⟨by rw [size_put];exact hS.size,env,own,h1,fun b=>?_,fun n=>?_,by rw [defers_put];exact h4⟩
 · simp only [look,Loc.eqb,cond_false];exact h2 b
 · rw [getD_put _ _ _ _ (by simp [dstOk,hS.size,hq])]
   by_cases hn:q=n
   · subst hn
     simp only [look,eqb_refl,cond_true,if_true]
     exact hv _ _ _
   · simp only [look]
     rw [eqb_ne (fun e=>hn (by injection e)),cond_false,if_neg (fun e=>hn (by injection e))]
     exact h3 n
end
end Go.VI
namespace Go.VI
open Go Go.RowKit
def wfD:(t:Ty)->t.den->Prop
 | .bool,_=>True
 | .int k,n=>(Lit.int k n).wf=true
 | .slice e,l=>l.length<=maxLen/\∀ y∈l,wfD e y
 | .prod a b,v=>wfD a v.1/\wfD b v.2
 | .unit,_=>True
 | .raw _,_=>False
 | .ifo _ _,_=>False
def readF (P:Program) (c:TypeId->Ty->Bool):List Field->Nat->Ty->Bool
 | [],_,.unit=>true
 | f :: fs,off,.prod a b=>Nat.beq f.offset off && Nat.beq (P.cellsOf f.type) a.size && c f.type a && readF P c fs (off+a.size) b
 | _,_,_=>false
def readB (P:Program):Nat->TypeId->Ty->Bool
 | 0,_,_=>false
 | _+1,t,.bool=>match P.underlying t with
  | some .bool=>true
  | _=>false
 | _+1,t,.int k=>match P.underlying t with
  | some (.int k')=>decide (k'=k)
  | _=>false
 | d+1,t,.slice e=>match P.underlying t with
  | some (.slice u)=>Nat.beq (P.cellsOf u) e.size && Nat.blt 0 e.size && readB P d u e
  | _=>false
 | d+1,t,ty=>match P.underlying t with
  | some (.struct fs)=>Nat.beq (P.cellsOf t) ty.size && readF P (readB P d) fs.toList 0 ty
  | _=>false
section
variable {H:Type} {enc:TypeId × Value->H} {P:Program} {w:World} {spare:Nat->Bool} {held:Bool}
def Reads (P:Program) (enc:TypeId × Value->H) (w:World) (spare:Nat->Bool) (held:Bool) (t:TypeId) (ty:Ty):Prop :=
 ∀ n cs x,DataW.trod enc P w 0 spare held n t cs=some x->∃ v:ty.den,Fits w.heap (fun c=>c < w.heap.size) ty v cs/\wfD ty v
theorem cells_of {a:Addr} {n:Nat} {cs:List Value} (h:w.cells? 0 a n=some cs) (hn:0 < n):a.spot=none/\∃ cur T fz,w.heap[a.block]?=some (.cells cur T fz)/\a.off+n<=cur.size/\cs=(cur.toList.drop a.off).take n:=by
 unfold World.cells? at h
 rw [if_pos (Nat.zero_le _)] at h
 have hlen:=mapM_some_length h
 have hget:=fun (i:Nat) (hi:i < n)=>mapM_some_get h i i (by simp [hi])
 simp at hlen
 have h0:=hget 0 hn
 have hs0:∃ v,cs[0]?=some v:=⟨cs[0]'(by omega),List.getElem?_eq_getElem _⟩
 obtain ⟨v0,hv0⟩:=hs0
 rw [hv0] at h0
 obtain ⟨ab,ao,as⟩:=a
 unfold World.cell? at h0
 cases hh:w.heap[ab]? with
 | none=>simp [Addr.add,hh] at h0
 | some o =>
  cases o with
  | cells cur T fz =>
   have hsp:as=none:=by
    cases as with
    | none=>rfl
    | some s=>simp [Addr.add,hh] at h0
   subst hsp
   refine ⟨rfl,cur,T,fz,rfl,?_,?_⟩
   · have hl:=hget (n - 1) (by omega)
     have:∃ v,cs[n - 1]?=some v:=⟨cs[n - 1]'(by omega),List.getElem?_eq_getElem _⟩
     obtain ⟨v,hv⟩:=this
     rw [hv,Addr.add_lit] at hl
     simp [World.cell?,hh] at hl
     have:=(Array.getElem?_eq_some_iff.1 hl).1
     simp only
     omega
   · apply List.ext_getElem?
     intro i
     by_cases hi:i < n
     · have:=hget i hi
       rw [Addr.add_lit] at this
       simp [World.cell?,hh] at this
       rw [<-this,List.getElem?_take,if_pos hi]
       simp
     · rw [List.getElem?_eq_none (by omega),List.getElem?_eq_none (by simp;omega)]
  | _=>simp [Addr.add,hh] at h0
theorem readF_ok {c:TypeId->Ty->Bool} (hc:∀ t ty,c t ty=true->Reads P enc w spare held t ty):∀ (fs:List Field) (off:Nat) (ty:Ty) (n:Nat) (cs:List Value),readF P c fs off ty=true->cs.length=off+ty.size ->
 (∀ (i:Nat) (f:Field),fs[i]?=some f->∃ x,DataW.trod enc P w 0 spare held n f.type ((cs.drop f.offset).take (P.cellsOf f.type))=some x)->∃ v:ty.den,Fits w.heap (fun c=>c < w.heap.size) ty v (cs.drop off)/\wfD ty v
 | [],off,.unit,n,cs,_,hl,_=>⟨(),by simp only [Ty.size] at hl;simp [Fits];omega,trivial⟩
 | f :: fs,off,.prod a b,n,cs,h,hl,hx=>by
  simp only [readF,Bool.and_eq_true] at h
  obtain ⟨⟨⟨h1,h2⟩,h3⟩,h4⟩:=h
  have h1:=Nat.eq_of_beq_eq_true h1
  have h2:=Nat.eq_of_beq_eq_true h2
  simp only [Ty.size] at hl
  obtain ⟨x,hx0⟩:=hx 0 f rfl
  obtain ⟨v1,f1,w1⟩:=hc f.type a h3 n _ _ hx0
  rw [h1,h2] at f1
  obtain ⟨v2,f2,w2⟩:=readF_ok hc fs (off+a.size) b n cs h4 (by omega) fun i g hg=>hx (i+1) g (by simpa using hg)
  refine ⟨(v1,v2),⟨_,_,?_,f1,f2⟩,w1,w2⟩
  rw [<-List.drop_drop,List.take_append_drop]
 | [],_,.prod _ _,_,_,h,_,_=>by simp [readF] at h
 | [],_,.bool,_,_,h,_,_=>by simp [readF] at h
 | [],_,.int _,_,_,h,_,_=>by simp [readF] at h
 | [],_,.slice _,_,_,h,_,_=>by simp [readF] at h
 | _ :: _,_,.unit,_,_,h,_,_=>by simp [readF] at h
 | _ :: _,_,.bool,_,_,h,_,_=>by simp [readF] at h
 | _ :: _,_,.int _,_,_,h,_,_=>by simp [readF] at h
 | _ :: _,_,.slice _,_,_,h,_,_=>by simp [readF] at h
 | [],_,.raw _,_,_,h,_,_=>by simp [readF] at h
 | _ :: _,_,.raw _,_,_,h,_,_=>by simp [readF] at h
 | [],_,.ifo _ _,_,_,h,_,_=>by simp [readF] at h
 | _ :: _,_,.ifo _ _,_,_,h,_,_=>by simp [readF] at h
theorem list_read {α:Type} {Q:Nat->α->Prop}:∀ (n:Nat),(∀ i,i < n->∃ x,Q i x)->∃ l:List α,l.length=n/\∀ i (hi:i < l.length),Q i l[i]
 | 0,_=>⟨[],rfl,fun i hi=>by simp at hi⟩
 | n+1,h=>by
  obtain ⟨l,hl,hq⟩:=list_read n fun i hi=>h i (by omega)
  obtain ⟨x,hx⟩:=h n (by omega)
  refine ⟨l ++ [x],by simp [hl],fun i hi=>?_⟩
  by_cases hin:i < l.length
  · rw [List.getElem_append_left hin];exact hq i hin
  · have:i=l.length:=by simp at hi;omega
    subst this
    have e1:(l ++ [x])[l.length]'hi=x:=by simp
    rw [e1,hl];exact hx
theorem read_ok:∀ (d:Nat) (t:TypeId) (ty:Ty),readB P d t ty=true->Reads P enc w spare held t ty
 | 0,_,_,h=>by simp [readB] at h
 | d+1,t,.raw k,h=>fun n cs x hx=>by
  simp only [readB] at h
  split at h
  · rename_i fs hu
    simp only [Bool.and_eq_true] at h
    have h2:=h.2
    cases hfs:fs.toList <;> (rw [hfs] at h2;simp [readF] at h2)
  · cases h
 | d+1,t,.ifo k s,h=>fun n cs x hx=>by
  simp only [readB] at h
  split at h
  · rename_i fs hu
    simp only [Bool.and_eq_true] at h
    have h2:=h.2
    cases hfs:fs.toList <;> (rw [hfs] at h2;simp [readF] at h2)
  · cases h
 | d+1,t,.bool,h=>fun n cs x hx=>by
  simp only [readB] at h
  split at h
  · rename_i hu
    obtain ⟨b,rfl,_⟩:=DataW.trod_bool hu hx
    exact ⟨b,rfl,trivial⟩
  · cases h
 | d+1,t,.int k,h=>fun n cs x hx=>by
  simp only [readB] at h
  split at h
  · rename_i k' hu
    have:=of_decide_eq_true h
    subst this
    obtain ⟨m,rfl,_,hw⟩:=DataW.trod_int hu hx
    exact ⟨m,rfl,hw⟩
  · cases h
 | d+1,t,.slice e,h=>fun n cs x hx=>by
  simp only [readB] at h
  split at h
  · rename_i u hu
    simp only [Bool.and_eq_true] at h
    obtain ⟨⟨h1,h2⟩,h3⟩:=h
    have h1:=Nat.eq_of_beq_eq_true h1
    simp only [Nat.blt_eq] at h2
    have ih:=read_ok d u e h3
    rcases DataW.trod_slice hu hx with ⟨rfl,_⟩ | ⟨a,len,cap,elems,rest,m,_,rfl,_,_,hl,hc,hlen,hel,_⟩
    · exact ⟨([]:List e.den),⟨none,0,rfl,fun _=>rfl,by simp,by simp⟩,by simp [maxLen],by simp⟩
    · rw [h1] at hel
      have hsp:0 < len->a.spot=none:=fun h0=>by
       have:=hel 0 h0
       rw [Nat.zero_mul,show a.add 0=a by simp [Addr.add]] at this
       have hsome:∃ y,elems[0]?=some y:=⟨elems[0]'(by omega),List.getElem?_eq_getElem _⟩
       obtain ⟨y,hy⟩:=hsome
       rw [hy] at this
       obtain ⟨cs',q1,_⟩:=Option.bind_eq_some_iff.1 this
       exact (cells_of q1 h2).1
      obtain ⟨l,hll,hq⟩:=list_read (α:=e.den) (Q:=fun i (v:e.den)=>(a.spot=none/\a.block < w.heap.size/\∃ cur T fz,w.heap[a.block]?=some (.cells cur T fz)/\a.off+(i+1)*e.size<=cur.size/\Fits w.heap (fun c=>c < w.heap.size) e v ((cur.toList.drop (a.off+i*e.size)).take e.size))/\wfD e v) len fun i hi=>by
       have:=hel i hi
       have hsome:∃ y,elems[i]?=some y:=⟨elems[i]'(by omega),List.getElem?_eq_getElem _⟩
       obtain ⟨y,hy⟩:=hsome
       rw [hy] at this
       obtain ⟨cs',q1,q2⟩:=Option.bind_eq_some_iff.1 this
       obtain ⟨s1,cur,T,fz,s2,s3,s4⟩:=cells_of q1 h2
       obtain ⟨v,f1,w1⟩:=ih m cs' y q2
       obtain ⟨ab,ao,asp⟩:=a
       have hasp:asp=none:=hsp (by omega)
       subst hasp
       rw [Addr.add_lit] at s2 s3 s4
       simp only at s2 s3 s4
       refine ⟨v,⟨rfl,(Array.getElem?_eq_some_iff.1 s2).1,cur,T,fz,s2,?_,?_⟩,w1⟩
       · rw [Nat.add_mul,Nat.one_mul,<-Nat.add_assoc];exact s3
       · rw [<-s4];exact f1
      refine ⟨l,⟨some a,cap,by rw [hll],by simp,fun y hy hne=>?_,by omega⟩,by omega,fun y hy=>?_⟩
      · simp at hy;subst hy
        have hpos:0 < l.length:=List.length_pos_iff.2 hne
        obtain ⟨⟨s1,s2,cur,T,fz,s3,_,_⟩,_⟩:=hq (l.length - 1) (by omega)
        refine ⟨s1,s2,cur,T,fz,s3,?_,fun i hi=>?_⟩
        · obtain ⟨⟨_,_,cur',_,_,s3',s4',_⟩,_⟩:=hq (l.length - 1) (by omega)
          rw [s3] at s3';cases s3'
          rwa [Nat.sub_add_cancel hpos] at s4'
        · obtain ⟨⟨_,_,cur',_,_,s3',_,s5⟩,_⟩:=hq i hi
          rw [s3] at s3';cases s3'
          exact s5
      · obtain ⟨i,hi,rfl⟩:=List.getElem_of_mem hy
        exact (hq i hi).2
  · cases h
 | d+1,t,.prod a b,h=>fun n cs x hx=>by
  simp only [readB] at h
  split at h
  · rename_i fs hu
    simp only [Bool.and_eq_true] at h
    obtain ⟨xs,m,_,_,hl,hlen,hf⟩:=DataW.trod_struct hu hx
    have:=readF_ok (n:=m) (cs:=cs) (fun t ty h=>read_ok d t ty h) fs.toList 0 (.prod a b) h.2 (by rw [hl,Nat.eq_of_beq_eq_true h.1];simp) fun i f hf'=>by
     have:=hf i f (by simpa using hf')
     have hi:i < xs.length:=by rw [hlen];simpa using (List.getElem?_eq_some_iff.1 hf').1
     exact ⟨xs[i],by rw [this,List.getElem?_eq_getElem hi]⟩
    simpa using this
  · cases h
 | d+1,t,.unit,h=>fun n cs x hx=>by
  simp only [readB] at h
  split at h
  · rename_i fs hu
    simp only [Bool.and_eq_true] at h
    obtain ⟨xs,m,_,_,hl,hlen,hf⟩:=DataW.trod_struct hu hx
    have:=readF_ok (n:=m) (cs:=cs) (fun t ty h=>read_ok d t ty h) fs.toList 0 .unit h.2 (by rw [hl,Nat.eq_of_beq_eq_true h.1];simp) fun i f hf'=>by
     have:=hf i f (by simpa using hf')
     have hi:i < xs.length:=by rw [hlen];simpa using (List.getElem?_eq_some_iff.1 hf').1
     exact ⟨xs[i],by rw [this,List.getElem?_eq_getElem hi]⟩
    simpa using this
  · cases h
end
end Go.VI
namespace Go.VI
open Go Go.RowKit Go.WideShapes
section
variable {H:Type} {enc:TypeId × Value->H} {P:Program} {w:World} {spare:Nat->Bool} {held:Bool}
def argsB (P:Program):List PTy->List TypeId->Bool
 | [],[]=>true
 | .val ty :: ps,t :: ts=>readB P 30 t ty && argsB P ps ts
 | _,_=>false
def wfP:(ps:List PTy)->Pden ps->Prop
 | [],_=>True
 | .val t :: ps,d=>wfD t d.1/\wfP ps d.2
 | .ptr _ t :: ps,d=>wfD t d.1/\wfP ps d.2
theorem value_read {t:TypeId} {ty:Ty} {v:Value} {d:Nat} {r:Reach} {base:Nat} (hr:readB P (d+1) t ty=true) (hv:Value.okWide P w r base t v):v=mkVal ty v.cells.toList:=by
 cases ty with
 | bool =>
  simp only [readB] at hr
  split at hr
  · rename_i hu;obtain ⟨b,rfl⟩:=okWide_bool hu hv;rfl
  · cases hr
 | int k =>
  simp only [readB] at hr
  split at hr
  · rename_i hu;obtain ⟨b,rfl⟩:=okWide_int hu hv;rfl
  · cases hr
 | raw k =>
  simp only [readB] at hr
  split at hr
  · rename_i fs hu
    simp only [Bool.and_eq_true] at hr
    have h2:=hr.2
    cases hfs:fs.toList <;> (rw [hfs] at h2;simp [readF] at h2)
  · cases hr
 | ifo k s =>
  simp only [readB] at hr
  split at hr
  · rename_i fs hu
    simp only [Bool.and_eq_true] at hr
    have h2:=hr.2
    cases hfs:fs.toList <;> (rw [hfs] at h2;simp [readF] at h2)
  · cases hr
 | slice e =>
  simp only [readB] at hr
  split at hr
  · rename_i hu;obtain ⟨a,n,c,rfl⟩:=okWide_slice hu hv;rfl
  · cases hr
 | prod a b =>
  simp only [readB] at hr
  split at hr
  · rename_i hu
    unfold Value.okWide at hv
    rw [hu] at hv
    obtain ⟨cs,rfl,_⟩:=hv
    simp [mkVal,Ty.isAgg,Value.cells]
  · cases hr
 | unit =>
  simp only [readB] at hr
  split at hr
  · rename_i hu
    unfold Value.okWide at hv
    rw [hu] at hv
    obtain ⟨cs,rfl,_⟩:=hv
    simp [mkVal,Ty.isAgg,Value.cells]
  · cases hr
theorem args_read {r:Reach} {base:Nat}:∀ {ps:List PTy} {ts:List TypeId} {vs:List Value} {ds:List (DataW H)} {p:List MemPlace},argsB P ps ts=true->DataW.TrodAll enc P w 0 spare held ts vs ds p ->
 (∀ (j:Nat) t v,ts[j]?=some t->vs[j]?=some v->Value.okWide P w r base t v)->∃ d:Pden ps,ArgsR w.heap (fun c=>c < w.heap.size) ps d vs []/\wfP ps d
 | [],[],[],_,_,_,_,_=>⟨(),trivial,trivial⟩
 | .val ty :: ps,t :: ts,v :: vs,d :: ds,p,hb,ht,hv=>by
  simp only [argsB,Bool.and_eq_true] at hb
  obtain ⟨q1,q2,⟨n,h1⟩,h2,_⟩:=ht
  obtain ⟨x,hx,hw⟩:=read_ok (enc:=enc) (w:=w) (spare:=spare) (held:=held) 30 t ty hb.1 n _ _ h1
  obtain ⟨xs,hxs,hws⟩:=args_read (ps:=ps) hb.2 h2 fun j t v a b=>hv (j+1) t v (by simpa using a) (by simpa using b)
  exact ⟨(x,xs),⟨⟨_,value_read hb.1 (hv 0 t v rfl rfl),hx⟩,hxs⟩,hw,hws⟩
 | .ptr _ _ :: _,_,_,_,_,hb,_,_=>by simp [argsB] at hb
 | .val _ :: _,[],_,_,_,hb,_,_=>by simp [argsB] at hb
 | [],_ :: _,_,_,_,hb,_,_=>by simp [argsB] at hb
 | [],[],_ :: _,_,_,_,ht,_=>by simp [DataW.TrodAll] at ht
 | .val _ :: _,_ :: _,[],_,_,_,ht,_=>by simp [DataW.TrodAll] at ht
 | .val _ :: _,_ :: _,_ :: _,[],_,_,ht,_=>by simp [DataW.TrodAll] at ht
theorem groupV_plain:∀ {n:Nat} {vs:List Value},vs.length=n->groupV (List.replicate n .p) vs=vs
 | 0,[],_=>rfl
 | n+1,v :: vs,h=>by simp [List.replicate_succ,groupV,groupV_plain (n:=n) (vs:=vs) (by simpa using h)]
theorem law_ok {f:FuncId} {ps:List PTy} {F:Pden ps->Option (Rden [⟨.bool,[none],none⟩] × Oden ps)} {sh:List AP} (hsh:sh=List.replicate ps.length .p) (hs:(⟨f,sh,ps,[⟨.bool,[none],none⟩],F⟩:Entry).Sound P) (hF:∀ d,wfP ps d->∃ o,F d=some ((true,()),o))
 {ts:List TypeId} {vs:List Value} {ds:List (DataW H)} {p:List MemPlace} {r:Reach} {base:Nat} (hb:argsB P ps ts=true) (ht:DataW.TrodAll enc P w 0 spare held ts vs ds p)
 (hv:∀ (j:Nat) t v,ts[j]?=some t->vs[j]?=some v->Value.okWide P w r base t v) :
 Calls P f vs.toArray w fun e w'=>e = .returned (.bool true)/\Below w.heap.size w w':=by
 obtain ⟨d,ha,hw⟩:=args_read hb ht hv
 obtain ⟨o,ho⟩:=hF d hw
 have hcall:=hs w _ d vs [] _ ha (fun _ h=>h) ho 0
 subst hsh
 rw [show groupV (⟨f,List.replicate ps.length .p,ps,[⟨.bool,[none],none⟩],F⟩:Entry).sh vs=vs from groupV_plain ha.lt.2] at hcall
 refine hcall.mono ?_
 rintro e w' ⟨vals,env,own,rfl,hr⟩
 have hres:=hr.res
 simp only [resL,flat,ownL,Ty.isAgg,cond_false] at hres
 obtain ⟨v,rfl,hv⟩:=All2.one hres
 simp only [A1R,LfR,Fits,List.cons.injEq,and_true] at hv
 subst hv
 exact ⟨rfl,hr.behind.os,hr.behind.tape,hr.behind.output,hr.behind.size,fun k hk=>hr.behind.old k hk (by simp)⟩
end
end Go.VI
