import Derived.Test.YtfjkjbffdhoejaaGreatV02
import Derived.Laws.Cover3
import Derived.ChangeArms
import Derived.DataReads
import Derived.WideShapes
import Derived.RowKit2
set_option linter.unusedSimpArgs false
set_option linter.unusedVariables false
set_option maxRecDepth 100000
set_option maxHeartbeats 4000000
noncomputable section
namespace Go.VI
open Go Go.RowKit
theorem zuG{t:Ty}(h:t.isAgg=false):t.size=1:=by cases t <;> first | rfl | simp [Ty.isAgg]at h
theorem zar:∀ {a b:Ws},zaL (a++b)=zaL a++zaL b
 | [],_=>rfl
 | (x,.no)::a,b=>by simp [zaL,zar (a:=a)]
 | (x,.av _)::a,b=>by simp [zaL,zar (a:=a)]
 | (x,.arr _ _ _ _)::a,b=>by simp [zaL,zar (a:=a)]
 | (x,.box _ _)::a,b=>by simp [zaL,zar (a:=a)]
 | (x,.ln _)::a,b=>by simp [zaL,zar (a:=a)]
 | (x,.rb _ _)::a,b=>by simp [zaL,zar (a:=a)]
theorem zdE{fs:FS}{a:Ws}(h:Frz fs a):zaL a=[]:=by
 induction a with
 | nil=>rfl
 | cons p a ih=>
  obtain ⟨x,c⟩:=p;obtain ⟨m,T,e,l,_,h2⟩:=h (x,c) (by simp)
  simp only at h2
  subst h2;exact ih fun p hp=>h p (qaF _ hp)
theorem zbM:∀ {a:Ws} {b:Nat},b∈zaL a↔(b,Cell.no)∈a
 | [],b=>by simp [zaL]
 | (x,.no)::a,b=>by simp [zaL,zbM (a:=a)]
 | (x,.av _)::a,b=>by simp [zaL,zbM (a:=a)]
 | (x,.arr _ _ _ _)::a,b=>by simp [zaL,zbM (a:=a)]
 | (x,.box _ _)::a,b=>by simp [zaL,zbM (a:=a)]
 | (x,.ln _)::a,b=>by simp [zaL,zbM (a:=a)]
 | (x,.rb _ _)::a,b=>by simp [zaL,zbM (a:=a)]
theorem zjv{ws:Ws}(h:zra ws=true):(zaL ws).Nodup/\∀ p∈ws,p.2≠.no->p.1 ∉ zaL ws:=by
 induction ws with
 | nil=>simp [zaL]
 | cons p r ih=>
  obtain ⟨b,c⟩:=p;simp only [zra,qae]at h;obtain ⟨h1,h2⟩:=ih h.2;cases hl:c.live with
  | false=>
   have hc:c = .no:=by cases c <;> simp_all [Cell.live]
   subst hc;have h3:=h.1;simp only [Cell.live,qaf,qar,qbr]at h3;have hb:∀ p∈r,p.1≠b:=fun p hp he=>h3 p hp (by rw [he];exact Nat.beq_refl b)
   refine ⟨qbD.2 ⟨fun hm=>hb _ (zbM.1 hm) rfl,h1⟩,fun p hp hne hm=>?_⟩
   rcases qas.1 hp with rfl | hp
   . exact hne rfl
   . rcases qas.1 hm with he | hm
     . exact hb p hp he
     . exact h2 p hp hne hm
  | true=>
   have hs:zaL ((b,c)::r)=zaL r:=by cases c <;> first | rfl | simp [Cell.live]at hl
   have h3:=h.1;simp only [hl,qah,qaN]at h3;rw [hs];refine ⟨h1,fun p hp hne hm=>?_⟩
   rcases qas.1 hp with rfl | hp
   . have:=h3 _ (zbM.1 hm)
     simp [Cell.live]at this
   . exact h2 p hp hne hm
theorem zh4{fs:FS}:∀ {t:Ty} {zs:List Lf} {v:t.den} {rest:List Lf} {ws:Ws},(za2 true t zs).evs fs=some (v,rest,ws)->Frz fs ws:=by
 intro t;induction t with
 | bool=>
  intro zs v rest ws h;cases zs with
  | nil=>simp [za2,T.evs]at h
  | cons x r=>obtain ⟨b,_,h2⟩:=zaa.1 h;simp at h2;obtain ⟨_,_,rfl⟩:=h2;exact Frz.nil
 | int k=>
  intro zs v rest ws h;cases zs with
  | nil=>simp [za2,T.evs]at h
  | cons x r=>
   simp only [za2]at h;split at h
   . obtain ⟨b,_,h2⟩:=zaa.1 h;simp at h2;obtain ⟨_,_,rfl⟩:=h2;exact Frz.nil
   . simp [T.evs]at h
 | ifo K t=>
  intro zs v rest ws h;cases zs with
  | nil=>simp [za2,T.evs]at h
  | cons x r=>
   simp only [za2]at h;split at h
   . obtain ⟨b,_,h2⟩:=zaa.1 h;simp at h2;obtain ⟨_,_,rfl⟩:=h2;exact Frz.nil
   . simp [T.evs]at h
 | raw k=>
  intro zs v rest ws h;cases zs with
  | nil=>simp [za2,T.evs]at h
  | cons x r=>
   simp only [za2]at h;obtain ⟨_,_,h2⟩:=zaa.1 h;simp at h2;obtain ⟨_,rfl⟩:=h2;exact Frz.nil
 | unit=>intro zs v rest ws h;simp only [za2,T.evs_pure,Option.some.injEq,Prod.mk.injEq]at h;obtain ⟨_,_,rfl⟩:=h;exact Frz.nil
 | prod a b iha ihb=>
  intro zs v rest ws h;obtain ⟨⟨v1,r1,u1⟩,q1,q2⟩:=zaa.1 h;obtain ⟨⟨v2,r2,u2⟩,q3,q4⟩:=zaa.1 q2;simp at q4
  obtain ⟨_,_,rfl⟩:=q4;exact (iha q1).append (ihb q3)
 | slice e ih=>
  intro zs v rest ws h;cases zs with
  | nil=>simp [za2,T.evs]at h
  | cons x r=>
   obtain ⟨⟨l,ws'⟩,q1,q2⟩:=zaa.1 h;simp at q2
   obtain ⟨_,_,rfl⟩:=q2;unfold zl6 at q1;split at q1
   . simp [T.evs]at q1;obtain ⟨_,rfl⟩:=q1;exact Frz.nil
   . obtain ⟨_,_,q4⟩:=zaa.1 q1;simp at q4;obtain ⟨_,rfl⟩:=q4;exact Frz.nil
   . obtain ⟨c,q3,q4⟩:=zaa.1 q1;simp only [zaS,Option.some.injEq]at q3;subst q3;split at q4
     . rename_i m TT e' l' hfs
       obtain ⟨_,_,q6⟩:=zaa.1 q4;simp at q6;obtain ⟨_,rfl⟩:=q6
       intro p hp;simp at hp;subst hp
       exact ⟨m,TT,e',l',hfs,rfl⟩
     . simp [T.evs]at q4
   . obtain ⟨c,q3,q4⟩:=zaa.1 q1;simp only [zaS,Option.some.injEq]at q3;subst q3;split at q4
     . rename_i m TT e' l' hfs
       obtain ⟨_,_,q6⟩:=zaa.1 q4;obtain ⟨_,_,q8⟩:=zaa.1 q6;simp at q8;obtain ⟨_,rfl⟩:=q8
       intro p hp;simp at hp;subst hp
       exact ⟨m,TT,e',l',hfs,rfl⟩
     . simp [T.evs]at q4
   . simp [T.evs]at q1
section
variable {P:Program} {te:TE} {cx:Cx} {fs:FS} {w:World} {env:Nm} {own:Ow} {act:Act}
def zsX(tm:Array Value):ResultVar->Sem Value
 | .tmp t=>pure (tm.getD t undef)
 | .cell a t=>do loadVar t (<-asAddr (tm.getD a undef))
theorem resV_ok(ht:TEok P te)(hB:RB cx fs w env own)(hR:RS cx fs act.tmps w env own){t:Ty}{x:ResultVar}{ys:List Lf}(h:(resV te t x).evs fs=some ys):
 ∃ val,(zsX act.tmps x).run P w = .ok val w/\All2 (LfR w.heap (cx.ok own) env) ys val.cells.toList/\val=zaW t val.cells.toList:=by
 cases x with
 | tmp n=>
  simp only [resV]at h;obtain ⟨a,h1,h2⟩:=zaa.1 h;obtain ⟨k1,k2⟩:=zb1 h2 (zuI hR h1) (.inr trivial);exact ⟨_,rfl,k1,k2 _ rfl⟩
 | cell n tt=>
  simp only [resV]at h;obtain ⟨r,h1,h2⟩:=zaa.1 h;obtain ⟨_,h3,h4⟩:=zaa.1 h2;obtain ⟨l,h5,h6⟩:=zaa.1 h4;obtain ⟨htr,hr⟩:=zb3 ht h1;have hagg:=zah.1 h3;split at h6
  . rename_i b;obtain ⟨c,h7,h8⟩:=zaa.1 h6;simp only [zaS,Option.some.injEq]at h7;subst h7;split at h8
    . rename_i T xs hfs;obtain ⟨_,h9,h10⟩:=zaa.1 h8;simp at h10;subst h10
      have hb:=hB b;rw [hfs]at hb;obtain ⟨g,cs,e1,e2,e3,e4⟩:=hb;obtain ⟨g',q1,q2⟩:=zbc hR h5;rw [e1]at q1;simp at q1;subst q1
      have hlen:=qan (zah.1 h9);rw [e3.len]at hlen;have hrun:=zg9 (P:=P) hr htr e2 (off:=0) (by simp at hlen;omega)
      simp only [qb3]at hrun;rw [qa3 (by omega)]at hrun
      have hmk:zaW r.ty cs.toList=zaW t cs.toList:=by
       simp only [zaW];cases hr1:r.ty.isAgg <;> cases ht1:t.isAgg <;> simp_all
      have hcells:=ztA hlen e3.ones;refine ⟨zaW r.ty cs.toList,?_,by rw [hcells];exact e3,by rw [hcells];exact hmk⟩
      simp only [zsX,Sem.run_bind];rw [show act.tmps.getD n undef = .pointer (some ⟨g,0,none⟩) from q2]
      simpa [asAddr] using hrun
    . simp [T.evs]at h8
  . simp [T.evs]at h6
theorem zsc{N:Nat->Prop}(hw:RW cx w env own N)(hB:RB cx fs w env own)(hno:∀ g,¬cx.outer g):∀ {t:Ty} {Ts:List TypeId} {cs:List Cp} {v:t.den} {ws:Ws} {us:List Value},(zed t Ts cs).evs fs=some (v,ws)->All2 (CpR w.heap (cx.ok own) env) cs us ->
 Ts.length=cs.length/\(∀ p∈ws,p.2≠.no->∃ m T e l,fs (.b p.1) = .arr m T e l/\p.2 = .arr false T e l)/\∀ nm,∃ (V:List (Nat×Value)) (K:List (Nat×Nat)),V.map (·.1)=List.range' nm Ts.length/\K.map (·.1)=zaL ws /\
  ∀ (ns:List Nat) (ok':Nat->Prop) (ec:Nm) (oc:Ow),(∀ p∈ws,p.2≠.no->p.1∈ns)->To cx w own ns ok'->Outs own cx.low V K ec oc ->
   All2 (CpR w.heap ok' ec) (zzk nm Ts.length) us/\∀ p∈zsd t v Ts nm,za9 cx.low w.heap ok' ec oc p.1 p.2
 | .unit,[],[],v,ws,[],h,_=>by
  simp [zed,T.evs]at h
  subst h;exact ⟨rfl,by simp,fun nm=>⟨[],[],by simp,by simp [zaL],fun _ _ _ _ _ _ _=>⟨trivial,by simp [zsd]⟩⟩⟩
 | .prod a b,tt::Ts,.ptr b0 0::cs,v,ws,u::us,h,hu=>by
  simp only [zed]at h;obtain ⟨c,h1,h2⟩:=zaa.1 h;simp only [zaS,Option.some.injEq]at h1;subst h1;split at h2
  . rename_i T' xs hfs
    obtain ⟨_,h3,h4⟩:=zaa.1 h2;obtain ⟨⟨v1,rest,w1⟩,h5,h6⟩:=zaa.1 h4;obtain ⟨_,h7,h8⟩:=zaa.1 h6;obtain ⟨⟨vs,w2⟩,h9,h10⟩:=zaa.1 h8;simp at h10
    obtain ⟨rfl,rfl⟩:=h10;have hT:=qan (zah.1 h3);subst hT;have:=zcw h7
    subst this;obtain ⟨hl,hfz,hbx⟩:=zsc hw hB hno h9 hu.2;have hbb:=hB b0;rw [hfs]at hbb;obtain ⟨g,cs1,e1,e2,e3,e4⟩:=hbb;obtain ⟨g',q1,q2⟩:=hu.1;rw [e1]at q1;simp at q1;subst q1
    have hge:cx.w0.heap.size<=g:=(hw.ge e4).elim id fun h=>absurd h (hno g)
    obtain ⟨f1,f2⟩:=zh5 hB h5 e3;refine ⟨by simp [hl],fun p hp hne=>?_,fun nm=>?_⟩
    . rcases qas.1 hp with rfl | hp
      . exact absurd rfl hne
      . rcases qak.1 hp with hp | hp
        . exact f1 p hp
        . exact hfz p hp hne
    . obtain ⟨V,K,m1,m2,m3⟩:=hbx (nm+1);refine ⟨(nm,u)::V,(b0,nm)::K,?_,?_,fun ns ok' ec oc hns hto ho=>?_⟩
      . rw [qaX,m1,qaJ,qcs]
      . rw [qaX,m2,zaL,zar,zdE f1,qaS]
      . have ho2:Outs own cx.low V K ec oc:=⟨fun p hp=>ho.val p (qaF _ hp),fun p hp=>ho.row p (qaF _ hp)⟩
        obtain ⟨i1,i2⟩:=m3 ns ok' ec oc (fun p hp hne=>hns p (qaF _ (qay _ hp)) hne) hto ho2
        have hec:=ho.val (nm,u) (by simp)
        simp only at hec
        rw [q2]at hec;refine ⟨⟨⟨g,hec,q2⟩,i1⟩,fun p hp=>?_⟩
        rcases qas.1 hp with rfl | hp
        . refine ⟨g,cs1,hec,e2,zcZ (hto.fits (f2 ns fun p hp=>hns p (qaF _ (qaG _ hp)) ?_)),ho.row (b0,nm) (by simp) g e4 (.inl hge) ⟨_,hec,rfl⟩⟩
          obtain ⟨m,T,e,l,_,q⟩:=f1 p hp;rw [q];intro hq;cases hq
        . exact i2 p hp
  . simp [T.evs]at h2
 | .prod _ _,_::_,.ptr _ (_+1)::_,_,_,_,h,_=>by simp [zed,T.evs]at h
 | .prod _ _,_::_,.imm _ _::_,_,_,_,h,_=>by simp [zed,T.evs]at h
 | .unit,_::_,_,_,_,_,h,_=>by simp [zed,T.evs]at h
 | .unit,[],_::_,_,_,_,h,_=>by simp [zed,T.evs]at h
 | .prod _ _,[],_,_,_,_,h,_=>by simp [zed,T.evs]at h
 | .prod _ _,_::_,[],_,_,_,h,_=>by simp [zed,T.evs]at h
 | .bool,_,_,_,_,_,h,_=>by simp [zed,T.evs]at h
 | .int _,_,_,_,_,_,h,_=>by simp [zed,T.evs]at h
 | .slice _,_,_,_,_,_,h,_=>by simp [zed,T.evs]at h
 | .unit,[],[],_,_,_::_,_,hu=>hu.elim
 | .prod _ _,_::_,_::_,_,_,[],_,hu=>hu.elim
theorem zph(ht:TEok P te){N:Nat->Prop}(hw:RW cx w env own N)(hB:RB cx fs w env own)(hR:RS cx fs act.tmps w env own){nop:Bool}(hno:nop=true->∀ g,¬cx.outer g):∀ {rs:List RTy} {rv:List ResultVar} {r:Rden rs} {ws:Ws},(resT te nop rs rv).evs fs=some (r,ws) ->
 ∃ vals,(rv.mapM (zsX act.tmps)).run P w = .ok vals w/\(∀ p∈ws,p.2≠.no->∃ m T e l,fs (.b p.1) = .arr m T e l/\p.2 = .arr false T e l)/\∀ nm,∃ (V:List (Nat×Value)) (K:List (Nat×Nat)),V.map (·.1)=List.range' nm ((resL rs r nm).2.2-nm)/\nm<=(resL rs r nm).2.2/\K.map (·.1)=zaL ws /\
  ∀ (ns:List Nat) (ok':Nat->Prop) (ec:Nm) (oc:Ow),(∀ p∈ws,p.2≠.no->p.1∈ns)->To cx w own ns ok'->Outs own cx.low V K ec oc ->
   All2 (A1R w.heap ok' ec) (resL rs r nm).1 vals/\∀ p∈(resL rs r nm).2.1,za9 cx.low w.heap ok' ec oc p.1 p.2
 | [],[],r,ws,h=>by
  simp [resT,T.evs]at h
  subst h;exact ⟨[],rfl,by simp,fun nm=>⟨[],[],by simp [resL],by simp [resL],by simp [zaL],fun _ _ _ _ _ _ _=>by simp [resL,All2]⟩⟩
 | r0::rs,x::rv,r,ws,h=>by
  cases hcl:r0.clo with
  | some gT=>
   obtain ⟨g0,Ts⟩:=gT;simp only [resT,hcl]at h;cases x with
   | cell n tt=>simp [T.evs]at h
   | tmp n=>
    obtain ⟨_,h1,h2⟩:=zaa.1 h;obtain ⟨l,h3,h4⟩:=zaa.1 h2;obtain ⟨⟨v,w1⟩,h5,h6⟩:=zaa.1 h4;obtain ⟨⟨vs,w3⟩,h7,h8⟩:=zaa.1 h6;simp at h8
    obtain ⟨rfl,rfl⟩:=h8;obtain ⟨vals,hrun2,hfr,hrest⟩:=zph ht hw hB hR hno h7;have hnop:=zah.1 h1;have hl:=zbc hR h3;unfold cloT at h5;split at h5
    . rename_i g' ca
      obtain ⟨_,h9,h10⟩:=zaa.1 h5;have hg:=qan (zah.1 h9);subst hg;obtain ⟨us0,us,e0,q1,q2⟩:=hl;have hus0:us0=#[]:=by
       have:=q1.len
       simpa using this.symm
      obtain ⟨hlen,hfz,hbx⟩:=zsc hw hB (hno hnop) h10 q2;refine ⟨(.func (.func g0) #[] us)::vals,?_,fun p hp hne=>?_,fun nm=>?_⟩
      . simp only [List.mapM_cons,Sem.run_bind,hrun2,Result.andThen_ok,Sem.run_pure,zsX];rw [show act.tmps.getD n undef = .func (.func g0) #[] us from by
         have:act.tmps.getD n undef = .func (.func g0) us0 us:=e0
         rw [this,hus0]]
      . rcases qak.1 hp with hp | hp
        . exact hfz p hp hne
        . exact hfr p hp hne
      . obtain ⟨V,K,m1,m2,m3,m4⟩:=hrest (nm+Ts.length);obtain ⟨V0,K0,n1,n2,n3⟩:=hbx nm;have hres:(resL (r0::rs) (v,vs) nm)=(.one (.clo g0 [] (zzk nm Ts.length))::(resL rs vs (nm+Ts.length)).1,zsd r0.t v Ts nm++(resL rs vs (nm+Ts.length)).2.1,(resL rs vs (nm+Ts.length)).2.2):=by simp only [resL,hcl]
        rw [hres];refine ⟨V0++V,K0++K,?_,?_,?_,fun ns ok' ec oc hns hto ho=>?_⟩
        . rw [qa2,n1,m1];simp only
          rw [show (resL rs vs (nm+Ts.length)).2.2-nm=Ts.length+((resL rs vs (nm+Ts.length)).2.2-(nm+Ts.length)) by omega,<-qbW]
        . simp only;omega
        . rw [qa2,n2,m3,zar]
        . have ho1:Outs own cx.low V0 K0 ec oc:=⟨fun p hp=>ho.val p (qaG _ hp),fun p hp=>ho.row p (qaG _ hp)⟩
          have ho2:Outs own cx.low V K ec oc:=⟨fun p hp=>ho.val p (qay _ hp),fun p hp=>ho.row p (qay _ hp)⟩
          obtain ⟨j1,j2⟩:=m4 ns ok' ec oc (fun p hp=>hns p (qay _ hp)) hto ho2
          obtain ⟨i1,i2⟩:=n3 ns ok' ec oc (fun p hp=>hns p (qaG _ hp)) hto ho1
          refine ⟨⟨⟨#[],us,rfl,trivial,i1⟩,j1⟩,fun p hp=>?_⟩
          rcases qak.1 hp with hp | hp
          . exact i2 p hp
          . exact j2 p hp
    . simp [T.evs]at h5
  | none=>
   simp only [resT,hcl]at h;obtain ⟨ys,h1,h2⟩:=zaa.1 h;obtain ⟨⟨zs,w1⟩,h3,h4⟩:=zaa.1 h2;obtain ⟨⟨v,rest,w2⟩,h5,h6⟩:=zaa.1 h4;obtain ⟨_,h7,h8⟩:=zaa.1 h6;obtain ⟨⟨vs,w3⟩,h9,h10⟩:=zaa.1 h8;simp at h10
   obtain ⟨rfl,rfl⟩:=h10;have:=zcw h7
   subst this;obtain ⟨val,hrun,hys,hval⟩:=resV_ok ht hB hR h1;obtain ⟨z1,hz,hrel⟩:=zeJ h5;rw [qaW]at hz;subst hz;obtain ⟨vals,hrun2,hfr,hrest⟩:=zph ht hw hB hR hno h9;have hno:=fun nm=>(zeK (nm:=nm) h3 hys.len)
   have hf2:Frz fs w2:=by
    exact zh4 h5
   refine ⟨val::vals,?_,fun p hp hne=>?_,fun nm=>?_⟩
   . simp only [List.mapM_cons,Sem.run_bind,hrun,Result.andThen_ok,hrun2,Sem.run_pure]
   . rcases qak.1 hp with hp | hp
     . exact absurd ((hno 0).2.2.2 p hp) hne
     . rcases qak.1 hp with hp | hp
       . exact hf2 p hp
       . exact hfr p hp hne
   . obtain ⟨n1,n2,n3,n4⟩:=hno nm;have hk:(ownL (flat r0.t v) r0.own nm).2.2=(outV ys r0.own val.cells.toList nm).2.2:=by
      have:∀ {ys zs xs:List Lf} {os:List (Option TypeId)} {w1:Ws} {cs:List Value} {nm:Nat},(outL ys os).evs fs=some (zs,w1)->All2 (fun z x=>PR fs z x/\zqG w2 z) zs xs->ys.length=cs.length->(ownL xs os nm).2.2=(outV ys os cs nm).2.2:=by
       intro ys;induction ys with
       | nil=>
        intro zs xs os w1 cs nm h hp hl;have h':zs=[]:=by cases os <;> (simp [outL,T.evs]at h;exact h.1.symm ▸ rfl)
        subst h'
        cases xs with
        | cons _ _=>exact hp.elim
        | nil=>cases cs with
         | cons _ _=>simp at hl
         | nil=>cases os <;> simp [ownL,outV]
       | cons y ys ih=>
        intro zs xs os w1 cs nm h hp hl;cases cs with
        | nil=>simp at hl
        | cons c cs=>
        cases os with
        | nil=>simp [outL,T.evs]at h
        | cons o os=>
         cases o with
         | none=>
          simp only [outL]at h;obtain ⟨⟨zs',u2⟩,q3,q4⟩:=zaa.1 h;simp at q4
          obtain ⟨rfl,rfl⟩:=q4;cases xs with
          | nil=>exact hp.elim
          | cons x xs=>
           have:ownL (x::xs) (none::os) nm=(x::(ownL xs os nm).1,(ownL xs os nm).2):=by
            cases x <;> first | rfl | (rename_i t v;cases t <;> rfl)
           rw [this];simp only [outV];exact ih q3 hp.2 (by simpa using hl)
         | some tt=>
          simp only [outL]at h;obtain ⟨⟨z,u1⟩,q1,q2⟩:=zaa.1 h;obtain ⟨⟨zs',u2⟩,q3,q4⟩:=zaa.1 q2;simp at q4
          obtain ⟨rfl,rfl⟩:=q4;cases xs with
          | nil=>exact hp.elim
          | cons x xs=>
           have hx:∃ e l,x = .imm (.slice e) l:=by
            split at q1
            . obtain ⟨cl,h5,h6⟩:=zaa.1 q1;split at h6
              . obtain ⟨_,h7,h8⟩:=zaa.1 h6;simp at h8
                obtain ⟨rfl,rfl⟩:=h8;have:=hp.1.1
                cases this with
                | raw x h=>simp [Lf.isRaw]at h
                | imm t v=>exact ⟨_,_,rfl⟩
              . simp [T.evs]at h6
            . simp [T.evs]at q1
              obtain ⟨rfl,rfl⟩:=q1;have:=hp.1.1
              cases this with
              | raw x h=>simp [Lf.isRaw]at h
              | nil e=>exact ⟨_,_,rfl⟩
            . simp [T.evs]at q1
           obtain ⟨e,l,rfl⟩:=hx;simp only [ownL,outV];exact ih q3 hp.2 (by simpa using hl)
      exact this h3 hrel hys.len
     obtain ⟨V,K,m1,m2,m3,m4⟩:=hrest (ownL (flat r0.t v) r0.own nm).2.2;have hres:(resL (r0::rs) (v,vs) nm).2.2=(resL rs vs (ownL (flat r0.t v) r0.own nm).2.2).2.2:=by simp only [resL,hcl]
     refine ⟨(outV ys r0.own val.cells.toList nm).1++V,(outV ys r0.own val.cells.toList nm).2.1++K,?_,?_,?_,fun ns ok' ec oc hns hto ho=>?_⟩
     . rw [hres,qa2,n1,m1,hk];rw [hk]at m2;rw [show (resL rs vs (outV ys r0.own val.cells.toList nm).2.2).2.2-nm=((outV ys r0.own val.cells.toList nm).2.2-nm)+((resL rs vs (outV ys r0.own val.cells.toList nm).2.2).2.2-(outV ys r0.own val.cells.toList nm).2.2) by omega,<-qbW]
       congr 2
       omega
     . rw [hres];rw [hk]at m2 ⊢;omega
     . rw [qa2,n3,m3,zar,zar (a:=w2),zdE hf2,qaS]
     . have ho1:Outs own cx.low (outV ys r0.own val.cells.toList nm).1 (outV ys r0.own val.cells.toList nm).2.1 ec oc:=⟨fun p hp=>ho.val p (qaG _ hp),fun p hp=>ho.row p (qaG _ hp)⟩
       have ho2:Outs own cx.low V K ec oc:=⟨fun p hp=>ho.val p (qay _ hp),fun p hp=>ho.row p (qay _ hp)⟩
       obtain ⟨i1,i2,_⟩:=zix hB hto (w2:=w2) (fun p hp=>hns p (qay _ (qaG _ hp)) (by obtain ⟨m,T,e,l,_,q⟩:=hf2 p hp;rw [q];intro hq;cases hq)) h3 hrel hys ho1
       obtain ⟨j1,j2⟩:=m4 ns ok' ec oc (fun p hp=>hns p (qay _ (qay _ hp))) hto ho2
       simp only [resL,hcl];refine ⟨⟨?_,j1⟩,fun p hp=>?_⟩
       . rw [hval];simp only [zaW];cases hagg:r0.t.isAgg with
         | true=>exact ⟨_,rfl,i1⟩
         | false=>
          have hsz:r0.t.size=1:=zuG hagg
          have hone:val.cells.toList.length=1:=by
           have h1:=i1.len;have h2:=hrel.len;have h3':zs.length=ys.length:=by
            have:∀ {ys zs:List Lf} {os:List (Option TypeId)} {w1:Ws},(outL ys os).evs fs=some (zs,w1)->zs.length=ys.length:=by
             intro ys;induction ys with
             | nil=>intro zs os w1 h;cases os <;> (simp [outL,T.evs]at h;simp [<-h.1])
             | cons y ys ih=>
              intro zs os w1 h;cases os with
              | nil=>simp [outL,T.evs]at h
              | cons o os=>
               cases o with
               | none=>
                simp only [outL]at h;obtain ⟨⟨zs',u2⟩,q3,q4⟩:=zaa.1 h;simp at q4
                rw [<-q4.1];simp [ih q3]
               | some tt=>
                simp only [outL]at h;obtain ⟨⟨z,u1⟩,q1,q2⟩:=zaa.1 h;obtain ⟨⟨zs',u2⟩,q3,q4⟩:=zaa.1 q2;simp at q4
                rw [<-q4.1];simp [ih q3]
            exact this h3
           have h4:=hys.len;rw [ziC,hsz,h3',h4]at h2;exact h2
          match hcs:val.cells.toList,hone with
          | [c],_=>
           rw [hcs]at i1;match hys':(ownL (flat r0.t v) r0.own nm).1,i1 with
           | [y],i1=>simpa [A1R] using i1.1
       . rcases qak.1 hp with hp | hp
         . exact i2 p hp
         . exact j2 p hp
 | [],_::_,_,_,h=>by simp [resT,T.evs]at h
 | _::_,[],_,_,h=>by simp [resT,T.evs]at h
end
end Go.VI
namespace Go.VI
open Go Go.RowKit
section
variable {P:Program} {te:TE} {tbl:Tbl} {ann:Ann}
theorem oT_ok{cx:Cx}{fs:FS}{w:World}{env:Nm}{own:Ow}(hB:RB cx fs w env own){ok':Nat->Prop}{ns:List Nat}(hto:To cx w own ns ok'):∀ {ps:List PTy} {gs:List Nat} {i:Nat} {u:Oden ps} {ws:Ws},(oT ps i).evs fs=some (u,ws)->BsOk ps gs ->
 (∀ p∈fixL ps gs i,env p.1=some (ptrV p.2))->(∀ p∈ws,p.1∈ns)->Frz fs ws/\OutR w.heap ok' ps u gs
 | [],gs,i,u,ws,h,_,_,_=>by
  simp [oT,T.evs]at h
  subst h;exact ⟨Frz.nil,trivial⟩
 | .val _::ps,gs,i,u,ws,h,hb,hf,hn=>oT_ok hB hto (ps:=ps) h hb hf hn
 | .ptr tt t::ps,g::gs,i,u,ws,h,hb,hf,hn=>by
  simp only [oT]at h;obtain ⟨c,h1,h2⟩:=zaa.1 h;simp only [zaS,Option.some.injEq]at h1;subst h1;split at h2
  . rename_i T' xs hfs
    obtain ⟨_,h3,h4⟩:=zaa.1 h2;obtain ⟨⟨v,rest,w1⟩,h5,h6⟩:=zaa.1 h4;obtain ⟨_,h7,h8⟩:=zaa.1 h6;obtain ⟨⟨vs,w2⟩,h9,h10⟩:=zaa.1 h8;simp at h10
    obtain ⟨rfl,rfl⟩:=h10;have:=zcw h7
    subst this;have hT:=qan (zah.1 h3);subst hT;have hbb:=hB i;rw [hfs]at hbb;obtain ⟨g',cs,e1,e2,e3,e4⟩:=hbb;have he:=hf (i,g) (by simp [fixL])
    rw [e1]at he;simp [ptrV]at he;subst he
    obtain ⟨f1,f2⟩:=zh5 hB h5 e3;obtain ⟨f3,f4⟩:=oT_ok hB hto (ps:=ps) h9 hb (fun p hp=>hf p (qaF _ hp)) (fun p hp=>hn p (by simp [hp]))
    exact ⟨f1.append f3,⟨cs,e2,hto.fits (f2 ns fun p hp=>hn p (by simp [hp]))⟩,f4⟩
  . simp [T.evs]at h2
 | .ptr _ _::_,[],_,_,_,_,hb,_,_=>hb.elim
theorem zxx{fs:FS}:∀ {ps:List PTy} {i:Nat} {u:Oden ps} {ws:Ws},(oT ps i).evs fs=some (u,ws)->∀ p∈ws,p.2≠.no
 | [],i,u,ws,h=>by
  simp [oT,T.evs]at h
  subst h;simp
 | .val _::ps,i,u,ws,h=>zxx (ps:=ps) h
 | .ptr tt t::ps,i,u,ws,h=>by
  simp only [oT]at h;obtain ⟨c,h1,h2⟩:=zaa.1 h;split at h2
  . obtain ⟨_,h3,h4⟩:=zaa.1 h2;obtain ⟨⟨v,rest,w1⟩,h5,h6⟩:=zaa.1 h4;obtain ⟨_,h7,h8⟩:=zaa.1 h6;obtain ⟨⟨vs,w2⟩,h9,h10⟩:=zaa.1 h8;simp at h10
    obtain ⟨rfl,rfl⟩:=h10;intro p hp;rcases qak.1 hp with hp | hp
    . obtain ⟨m,T,e,l,_,q⟩:=zh4 h5 p hp;rw [q];intro hq;cases hq
    . exact zxx (ps:=ps) h9 p hp
  . simp [T.evs]at h2
theorem zoi(fn:Func)(tm:Array Value):results fn tm=(fn.results.mapM (zsX tm) >>= fun vs=>pure (if h:vs.size=1 then vs[0] else .tuple vs)):=by
 unfold results;congr 1
def finT(te:TE)(rs:List RTy)(rv:List ResultVar)(ps:List PTy)(st:List Wr):Tree (Rden rs×Oden ps) :=
 (T.run (look st) (do
  let (r,w1) <-resT te (ps.all PTy.isVal) rs rv
  let (u,w2) <-oT ps 0
  zao (zra (w1++w2))
  pure (r,u)) []).bind fun x=>.leaf x.1
theorem zxY(ht:TEok P te)(E:Entry){fn:Func}{c:Code}(hf:P.funcs[E.f]?=some fn)(hb:fn.body=some c)(hps:E.sh.length<=fn.ntmps)
 (hC:∀ d r,E.F d=some r->∀ (cx:Cx) (act:Act) (w:World) (Q:Exit->Act->World->Prop),St cx fn.ntmps (look (zbo E.sh E.ps d)) act w (· < E.ps.length) ->
  (∀ e nx W act' w',(∀ id,e≠Ex.exit id)->(finT te E.rs fn.results.toList E.ps (W++zbo E.sh E.ps d)).ev=some r->St cx fn.ntmps (look (W++zbo E.sh E.ps d)) act' w' (· < nx)->Q (exOf e) act' w')->c.wp P Q act w):E.Sound P:=by
 intro w ok d args gs r ha _ hr nm;have hlen:=ha.lt.2;have hbs:BsOk E.ps gs:=by
  have:∀ {ps:List PTy} {d:Pden ps} {args:List Value} {gs:List Nat},zdp w.heap ok ps d args gs->BsOk ps gs:=by
   intro ps;induction ps with
   | nil=>intro d args gs h;cases args <;> cases gs <;> first | trivial | exact h.elim
   | cons p ps ih=>
    intro d args gs h;cases args with
    | nil=>cases p <;> exact h.elim
    | cons a args=>
     cases p with
     | val t=>exact ih h.2
     | ptr T t=>cases gs with
      | nil=>exact h.elim
      | cons g gs=>exact ih h.2.2.2.2
  exact this ha
 have hS:=zyA ha hps;generalize hcx:(⟨w,ok,(·∈gs),fun b=>(lk (fixL E.ps gs 0) b).map ptrV,fun _=>False⟩:Cx)=cx at hS
 refine (callsIn_wide (n:=0)).1 (callsIn_of_wp_marks (F:=Fence.wide) (n:=0) hf hb trivial ((wpIn_wide (n:=0)).2 (hC d r hr cx _ w _ hS fun e nx W act w1 hne hfin hS1=>?_)) rfl)
 have fin:∀ w',St cx fn.ntmps (look (W++zbo E.sh E.ps d)) ⟨act.tmps,[]⟩ w' (· < nx)->((T.run (look (W++zbo E.sh E.ps d)) (do
  let (r,w1) <-resT te (E.ps.all PTy.isVal) E.rs fn.results.toList
  let (u,w2) <-oT E.ps 0
  zao (zra (w1++w2))
  pure (r,u)) []).bind fun x=>Tree.leaf x.1).ev=some r->∃ v,(results fn act.tmps).run P w' = .ok v w'/\∃ vals env own,Ending.returned v = .returned (zs4 vals)/\Returns E w ok gs r nm w' vals env own:=by
  intro w' hS' hfin
  obtain ⟨x,rs,q1,q2⟩:=zdG hfin;simp [Tree.ev]at q2;subst q2
  obtain ⟨⟨rr,w1⟩,q3,q4⟩:=zaa.1 q1;obtain ⟨⟨u,w2⟩,q5,q6⟩:=zaa.1 q4;obtain ⟨_,q7,q8⟩:=zaa.1 q6;simp at q8;subst q8
  have hout:=zjv (zah.1 q7);obtain ⟨env,own,hw,hB,hR,-⟩:=hS'.ex;have hno:E.ps.all PTy.isVal=true->∀ g,¬cx.outer g:=fun hv g hg=>by
   rw [<-hcx]at hg;have:∀ {ps:List PTy} {gs:List Nat},ps.all PTy.isVal=true->BsOk ps gs->gs=[]:=by
    intro ps;induction ps with
    | nil=>intro gs _ h;cases gs with
     | nil=>rfl
     | cons _ _=>exact h.elim
    | cons p ps ih=>intro gs hv h;cases p with
     | val t=>exact ih (by simpa [PTy.isVal] using hv) h
     | ptr T t=>simp [PTy.isVal]at hv
   rw [this hv hbs]at hg;cases hg
  have hlent:∀ g,¬cx.lent g:=by rw [<-hcx];exact fun _ h=>h
  obtain ⟨vals,hvals,hfr,hres⟩:=zph ht hw hB hR hno q3;obtain ⟨V,K,hV,hVle,hK,hres⟩:=hres nm;have hw0:cx.w0=w:=by rw [<-hcx]
  have hok0:cx.ok0=ok:=by rw [<-hcx]
  let ec:Nm:=lk V
  let oc:Ow:=fun g=>if w.heap.size<=g then (own g).bind (lk K) else none
  let ns:List Nat:=(w1++w2).filterMap fun p=>if p.2.live then some p.1 else none
  have hlive:∀ c:Cell,c≠.no->c.live=true:=fun c hc=>by cases c <;> first | rfl | exact absurd rfl hc
  have hns:∀ p∈w1++w2,p.2≠.no->p.1∈ns:=fun p hp hne=>qbO.2 ⟨p,hp,by rw [if_pos (hlive _ hne)]⟩
  have hKn:(K.map (·.1)).Nodup:=by
   rw [hK];have:=hout.1
   rw [zar]at this;exact (List.nodup_append.1 this).1
  have hVn:(V.map (·.1)).Nodup:=by rw [hV];exact List.nodup_range'
  have hnsK:∀ b∈ns,lk K b=none:=fun b hb=>zjI fun v hv=>by
   obtain ⟨p,hp,he⟩:=qbO.1 hb;split at he
   . rename_i hl;simp only [Option.some.injEq]at he;have hne:p.2≠.no:=fun h0=>by rw [h0]at hl;cases hl
     refine hout.2 p hp hne ?_;rw [zar,he];have:b∈K.map (·.1):=qav.2 ⟨_,hv,rfl⟩
     rw [hK]at this;exact qaG _ this
   . cases he
  have hto:To cx w' own ns (okAt ok oc w.heap.size):=⟨fun c hc=>by
   refine ⟨?_,by rw [<-hok0,<-hw0];exact (hc.2.imp id fun h=>h.resolve_right fun q=>hlent _ q.2)⟩
   simp only [oc];split
   . cases ho:own c with
     | none=>rfl
     | some b=>
      by_cases hm:b∈ns
      . exact hnsK b hm
      . have:=hc.1
        rw [zbu ho hm]at this;cases this
   . rfl⟩
  have houts:Outs own cx.low V K ec oc:=⟨fun p hp=>zk3 hVn hp,fun p hp g hg hB _=>by
   simp only [oc];have hB:=hB.resolve_right fun h=>hlent g h.2
   rw [hw0]at hB;rw [if_pos hB,hg];exact zk3 hKn hp⟩
  obtain ⟨r1,r2⟩:=hres ns (okAt ok oc w.heap.size) ec oc (fun p hp=>hns p (qaG _ hp)) hto houts
  obtain ⟨_,r3⟩:=oT_ok hB hto q5 hbs (fun p hp=>hw.fix p.1 (ptrV p.2) (by
   rw [<-hcx];simp only
   rw [zk3 (zfi) (show (p.1,p.2)∈_ from hp)];rfl)) (fun p hp=>hns p (qay _ hp) (zxx q5 p hp))
  have r2:∀ p∈(resL E.rs rr nm).2.1,za9 (fun g=>w.heap.size<=g) w'.heap (okAt ok oc w.heap.size) ec oc p.1 p.2:=fun p hp=>(r2 p hp).conv (fun g _ hg=>by rw [<-hw0];exact hg.resolve_right fun h=>hlent g h.2) (fun c hc _=>⟨hc,rfl⟩) (fun _ _ h=>h) fun g hg=>⟨hg,rfl⟩
  refine ⟨zs4 vals,?_,vals,ec,oc,rfl,⟨⟨by rw [<-hw0];exact hw.os,by rw [<-hw0];exact hw.tape,by rw [<-hw0];exact hw.output,by rw [<-hw0];exact hw.size,fun c hc hg=>?_⟩,fun c hc=>?_,fun b hb=>?_,r1,r2,r3⟩⟩
  . have hm:(fn.results.toList.mapM (zsX act.tmps)).run P w' = .ok vals w':=hvals
    rw [zoi,Array.mapM_eq_mapM_toList];simp only [Sem.run_bind,Sem.run_map,hm,Result.andThen_ok,Sem.run_pure];congr 1
    match vals with
    | []=>rfl
    | [v]=>rfl
    | _::_::_=>rfl
  . rw [<-hw0]at hc ⊢
    exact (hw.old c hc (by rw [<-hcx];exact hg)).2
  . simp only [oc]at hc;split at hc
    . rename_i hle;refine ⟨hle,?_⟩;cases ho:own c with
      | none=>simp [ho]at hc
      | some b=>exact hw.lt ho
    . exact absurd rfl hc
  . cases hl:lk V b with
    | none=>exact absurd hl hb
    | some v=>
     have:b∈V.map (·.1):=qav.2 ⟨_,zmt hl,rfl⟩
     rw [hV]at this;have:=qb1.1 this
     show nm<=b/\b<(resL E.rs rr nm).2.2
     omega
 cases e with
 | normal=>exact zdh act.defers w1 hS1 fun w' hS'=>fin w' hS' hfin
 | exit id=>exact absurd rfl (hne id)
 | ret=>exact zdh act.defers w1 hS1 fun w' hS'=>fin w' hS' hfin
theorem zxX(ht:TEok P te)(hT:tbl.Sound P)(hA:ann.Sound P)(hmix:P.follows .mixedOrders=true)(E:Entry){fn:Func}{c:Code}(hf:P.funcs[E.f]?=some fn)(hb:fn.body=some c)(hps:E.sh.length<=fn.ntmps)
 (hF:∀ d r,E.F d=some r->(funT te tbl ann fn.ntmps c fn.results.toList E.sh E.ps E.rs d).ev=some r):E.Sound P:=by
 refine zxY (te:=te) ht E hf hb hps fun d r hr cx act w Q hS hQ=>?_
 have hr:=hF d r hr;unfold funT at hr;rw [Tree.ev_bind]at hr;cases hrun:(runCode te tbl ann fn.ntmps c 0 E.ps.length (zbo E.sh E.ps d)).ev with
 | none=>simp [hrun]at hr
 | some o=>
  obtain ⟨e,nx,W⟩:=o;simp only [hrun,qaa]at hr;refine zjR ht hT hA hmix c 0 E.ps.length _ _ _ w _ hrun hS fun act' w' hS'=>?_
  cases e with
  | normal=>exact hQ .normal nx W act' w' (fun _ h=>by cases h) hr hS'
  | exit id=>simp [Tree.ev]at hr
  | ret=>exact hQ .ret nx W act' w' (fun _ h=>by cases h) hr hS'
end
end Go.VI
namespace Go.VI
open Go Go.RowKit
def zvW:(ts:List Ty)->List AV->T (Tden ts)
 | [],[]=>.ret ()
 | t::ts,a::as=>do
  let ys <-zdU t a
  let (v,rest,_) <-za2 true t ys
  zao rest.isEmpty
  let vs <-zvW ts as
  pure (v,vs)
 | _,_=>.fail
theorem zu2{cx:Cx}{fs:FS}{w:World}{env:Nm}{own:Ow}(hb:RB cx fs w env own):∀ {ts:List Ty} {as:List AV} {vals:List Value} {v:Tden ts},(∀ t∈ts,t.plain=true)->(zvW ts as).evs fs=some v->All2 (AvR w.heap (cx.ok own) env) as vals->vals=encL ts v
 | [],[],[],v,_,_,_=>rfl
 | t::ts,a::as,x::xs,v,hp,h,hv=>by
  simp only [zvW]at h;obtain ⟨ys,h3,h4⟩:=zaa.1 h;obtain ⟨⟨v1,rest,w1⟩,h5,h6⟩:=zaa.1 h4;obtain ⟨_,h7,h8⟩:=zaa.1 h6;obtain ⟨vs,h9,h10⟩:=zaa.1 h8;simp at h10;subst h10
  have hrest:=zcw h7;subst hrest;obtain ⟨k1,k2⟩:=zb1 h3 hv.1 (.inr trivial);obtain ⟨f1,c1,c2,hc,hr0,hfit⟩:=zcf hb h5 k1;have:c2=[]:=by cases c2 with
   | nil=>rfl
   | cons _ _=>exact hr0.elim
  subst this;rw [qaW]at hc;have e:=zmL (hp t (by simp)) (hfit (nms w1) fun p hp=>qav.2 ⟨p,hp,rfl⟩)
  have ih:=zu2 hb (fun t ht=>hp t (by simp [ht])) h9 hv.2
  rw [encL,<-ih,k2 c1 hc,e]
 | [],_::_,_,_,_,h,_=>by simp [zvW,T.evs]at h
 | _::_,[],_,_,_,h,_=>by simp [zvW,T.evs]at h
 | [],[],_::_,_,_,_,hv=>hv.elim
 | _::_,_::_,[],_,_,_,hv=>hv.elim
def zoG(ts:List Ty)(args:List Operand):T (Tden ts):=do zvW ts (<-zsZ args)
def zjJ(n:Nat):T Unit:=do
 match <-rdS n with
 | .v (.one (.nam 0))=>pure ()
 | _=>.fail
def kbW(d:Nat)(b:Bool):Wr:=.w (.s d) (.av (.v (.one (.kb b))))
section
variable {α:Type} {p:PC} {nt:Nat} {a a':Act} {W W':World} {N N':Nat->Prop}
theorem PS.region{P:Program}{te:TE}{tbl:Tbl}(ht:TEok P te)(hTb:tbl.Sound P){ts:List Ty}(hp:∀ t∈ts,t.plain=true){J Jx:(Nat->Prop)->List (Tden ts)->World->Prop}{pre L:List (Tden ts)}(hJ:Free p.B J)(hJx:Free p.B Jx){l:Nat}(hyv:p.yv = .func (.yield l) #[] #[])
 (hY:∀ X pre x W1,J X pre W1->(∀ c,p.X0 c->X c)->(pre++[x]) <+: L->YieldAt Fence.wide 0 P l (encs ts x) W1 fun e W'=>
  (e = .returned (.bool true)/\J X (pre++[x]) W'/\Kept X W1 W')\/(e = .returned (.bool false)/\Jx X (pre++[x]) W'/\Kept X W1 W'))
 {ops:Array Oper} {o:Oper} {id nx j d:Nat} {fr:Option Nat} {m0:Nat} {st w1 wT wF:List Wr} {fo:Nat} {args:List Operand} {tys:Array TypeId} {gs:List Nat} {x:Tden ts} {Q:Exit->Act->World->Prop}
 (h:PS p J nt (look st) a W (· < nx) pre) (hj:List.range ops.size=List.range j++(j::List.range' (j+1) (ops.size-j-1))) (ho:ops[j]?=some o) (hop:o.op = .call ⟨.value (.tmp fo),⟨args⟩,tys⟩) (hgd:o.guard=none) (hd:o.dst=some d) (hdn:d<nt)
 (h1:(za4 te tbl ops nt nx gs none (List.range j) st []).ev=some w1) (h2:(zjJ fo).evs (look (frzW (w1++st)))=some ()) (h3:(zoG ts args).evs (look (frzW (w1++st)))=some x) (hpre:(pre++[x]) <+: L)
 (h4:(za4 te tbl ops nt nx gs none (List.range' (j+1) (ops.size-j-1)) (kbW d true::frzW (w1++st)) []).ev=some wT)
 (h5:(za4 te tbl ops nt nx gs none (List.range' (j+1) (ops.size-j-1)) (kbW d false::frzW (w1++st)) []).ev=some wF)
 (hQ:∀ a' W',PS p J nt (look (frzW (wT++(kbW d true::frzW (w1++st))))) a' W' (· < nx+64*ops.size) (pre++[x])->Q .normal a' W')
 (hQx:∀ a' W',PS p Jx nt (look (frzW (wF++(kbW d false::frzW (w1++st))))) a' W' (· < nx+64*ops.size) (pre++[x])->Q .normal a' W') :
 (Code.region id ops false).wpIn (Fw fr) m0 P Q a W:=by
 have hsz:j<ops.size:=by
  rcases Nat.lt_or_ge j ops.size with h | h
  . exact h
  . rw [Array.getElem?_eq_none h]at ho;cases ho
 refine wpIn_region ?_;rw [hj];refine PS.ops (m:=0) (k:=j) ht hTb hJ (h.mono fun b hb=>by omega) h1 List.nodup_range (fun i hi=>qbe _) (fun i hi=>qbN.1 hi) (qbe _) fun a1 W1 hS1=>?_
 rw [wpOpsIn_cons];have hf:a1.eval (.tmp fo) = .func (.yield l) #[] #[]:=by
  obtain ⟨X,env,q1,q2,q3,_⟩:=hS1.ex;obtain ⟨av,s1,r2⟩:=zaa.1 h2;split at r2
  . have hsl:=q1.rs fo;simp only [rdS,T.evs]at s1;split at s1
    . rename_i b hb;simp [T.evs]at s1;subst s1
      rw [hb]at hsl;have hsl:env 0=some (a1.tmps.getD fo undef)/\_:=hsl
      rw [q3]at hsl;have:=Option.some.inj hsl.1
      show a1.tmps.getD fo undef=_
      rw [<-this,hyv]
    . simp [T.evs]at s1
  . simp [T.evs]at r2
 have hvs:(⟨args⟩:Array Operand).map a1.eval=encs ts x:=by
  obtain ⟨cx,hS,-⟩:=hS1.into hJ;obtain ⟨env,own,q1,q2,q3,-⟩:=hS.ex;obtain ⟨avs,r1,r2⟩:=zaa.1 h3;have:=zu2 q2 hp r2 (zpl q3 r1)
  unfold encs;rw [<-this];simp
 have hY1:=hS1.yield (x:=x) hY hpre
 refine zyp ho hop hgd hf hvs hY1 fun e W2 hr=>?_
 rw [hd];have fin:∀ {T:(Nat->Prop)->List (Tden ts)->World->Prop} {b:Bool} {w2:List Wr},Free p.B T->PS p T nt (look (frzW (w1++st))) a1 W2 (· < nx+64*j) (pre++[x])->(za4 te tbl ops nt nx gs none (List.range' (j+1) (ops.size-j-1)) (kbW d b::frzW (w1++st)) []).ev=some w2 ->
  (∀ a' W',PS p T nt (look (frzW (w2++(kbW d b::frzW (w1++st))))) a' W' (· < nx+64*ops.size) (pre++[x])->Q .normal a' W')->wpOpsIn (Fw fr) m0 P ops Q (List.range' (j+1) (ops.size-j-1)) (a1.put (some d) (.bool b)) W2:=by
  intro T b w2 hT hS h6 hq;have hs:=hS.setSlot (d:=d) (v:=.bool b) (c:=.av (.v (.one (.kb b)))) hdn fun _ _ _=>rfl
  have:=PS.ops (m:=j) (k:=ops.size) (rest:=[]) (fr:=fr) (m0:=m0) (Q:=Q) ht hTb hT hs (show (za4 te tbl ops nt nx gs none _ (kbW d b::frzW (w1++st)) []).ev=some w2 from h6) (List.nodup_range') (fun i hi=>by have:=(qb1.1 hi).1;omega) (fun i hi=>by have:=(qb1.1 hi).2;omega) (by omega) fun a' W' hS'=>by simp only [wpOpsIn];exact hq a' W' hS'
  rwa [qaW]at this
 rcases hr with ⟨rfl,hS2⟩ | ⟨rfl,hS2⟩
 . exact ⟨_,rfl,fin hJ hS2 h4 hQ⟩
 . exact ⟨_,rfl,fin hJx hS2 h5 hQx⟩
theorem PS.leaves{P:Program}{T:(Nat->Prop)->List α->World->Prop}{pre:List α}(hT:Free p.B T){fn:Func}(hres:fn.results=#[]){R:Ending->World->Prop}{fs:FS}{tm:Array Value}(hR:∀ v X W',T X pre W'->R (.returned v) W'):∀ {ds:List Deferred} {W:World},PS p T nt fs ⟨tm,ds⟩ W N pre->LeavesInM Fence.wide 0 P fn tm R ds .returning W
 | [],W,h=>by
  obtain ⟨X,env,h1,h2,h3,h4,h5,h6,_⟩:=h.ex;refine ⟨_,?_,hR (.tuple #[]) X W h6⟩;simp [results,hres]
 | d::ds,W,h=>by
  obtain ⟨X,env,h1,h2,h3,h4,h5,h6,Ds,m1,m2,m3⟩:=h.ex;cases Ds with
  | nil=>simp at m1
  | cons D Ds=>
   simp only [qaX,List.cons.injEq]at m1;obtain ⟨rfl,m1⟩:=m1;obtain ⟨n1,n2⟩:=qbD.1 m2;obtain ⟨q1,q2,q3,q4⟩:=m3 D (qbg ..);have hw:Went p.B W (W.putObj D (.deferred none)):=Went.put _ q3 q1 rfl;refine ⟨by simp,.inl ⟨D,_,rfl,run_takeDeferred q1,PS.leaves hT hres hR (ds:=ds) ⟨h.size,by simpa using h.lo,by simpa using h.wr,X,env,h1.stay hw.stay,h2,h3,⟨h4.1,fun c hc=>⟨(h4.2 c hc).1,(World.putObj_heap_other (by rintro rfl;exact q4 hc)).trans (h4.2 c hc).2⟩⟩,fun c hc=>by simpa using h5 c hc,hT _ _ _ _ _ h6 hw fun c hc=>⟨.inl hc,by simpa using h5 c hc⟩,Ds,m1,n2,fun D' hD'=>?_⟩⟩⟩
   obtain ⟨r1,r2⟩:=m3 D' (qaF _ hD');exact ⟨(World.putObj_heap_other (by rintro rfl;exact n1 hD')).trans r1,r2⟩
def zb7(ps:List PTy)(d:Pden ps):List Wr:=frzW (zeC (List.replicate (ps.length+1) .p) (.v (.one (.nam 0))::ztW ps d 1) 0++zn1 ps d 1)
theorem zu6:∀ {n:Nat} {vs:List Value},zbA (List.replicate n .p) vs=vs.take n
 | 0,vs=>by cases vs <;> rfl
 | n+1,[]=>rfl
 | n+1,v::vs=>by simp only [List.replicate_succ,zbA,qcv];rw [zu6]
def zc7(h:Array Obj)(X:Nat->Prop):(ps:List PTy)->Pden ps->List Value->Prop
 | [],_,[]=>True
 | .val t::ps,d,x::xs=>(∃ cs,x=zaW t cs/\Fits h X t d.1 cs)/\zc7 h X ps d.2 xs
 | .ptr T t::ps,d,x::xs=>(∃ g cs,x = .pointer (some ⟨g,0,none⟩)/\h[g]?=some (.cells cs T (0,0))/\Fits h X t d.1 cs.toList/\X g)/\zc7 h X ps d.2 xs
 | _,_,_=>False
theorem zdp.caps{h:Array Obj}{ok:Nat->Prop}{X:Nat->Prop}(hok:∀ c,ok c->X c):∀ {ps:List PTy} {d:Pden ps} {args:List Value} {gs:List Nat},zdp h ok ps d args gs->(∀ g∈gs,X g)->zc7 h X ps d args
 | [],_,[],[],_,_=>trivial
 | .val t::ps,d,x::xs,gs,⟨⟨cs,e,hf⟩,ha⟩,hg=>⟨⟨cs,e,hf.mono fun c hc _=>⟨hok c hc,rfl⟩⟩,zdp.caps hok (ps:=ps) ha hg⟩
 | .ptr T t::ps,d,x::xs,g::gs,⟨e,⟨cs,h1,hf⟩,_,_,ha⟩,hg=>⟨⟨g,cs,e,h1,hf.mono fun c hc _=>⟨hok c hc,rfl⟩,hg g (by simp)⟩,zdp.caps hok (ps:=ps) ha fun g hg'=>hg g (by simp [hg'])⟩
 | .val _::_,_,[],_,ha,_=>ha.elim
 | .ptr _ _::_,_,[],_,ha,_=>ha.elim
 | .ptr _ _::_,_,_::_,[],ha,_=>ha.elim
 | [],_,_::_,_,ha,_=>by simp [zdp]at ha
 | [],_,[],_::_,ha,_=>ha.elim
theorem zc7.mono{h h':Array Obj}{X:Nat->Prop}(hh:∀ c,X c->h'[c]?=h[c]?):∀ {ps:List PTy} {d:Pden ps} {args:List Value},zc7 h X ps d args->zc7 h' X ps d args
 | [],_,[],_=>trivial
 | .val t::ps,d,x::xs,⟨⟨cs,e,hf⟩,ha⟩=>⟨⟨cs,e,hf.mono fun c hc _=>⟨hc,hh c hc⟩⟩,zc7.mono hh (ps:=ps) ha⟩
 | .ptr T t::ps,d,x::xs,⟨⟨g,cs,e,h1,hf,hg⟩,ha⟩=>⟨⟨g,cs,e,(hh g hg).trans h1,hf.mono fun c hc _=>⟨hc,hh c hc⟩,hg⟩,zc7.mono hh (ps:=ps) ha⟩
 | .val _::_,_,[],ha=>ha.elim
 | .ptr _ _::_,_,[],ha=>ha.elim
 | [],_,_::_,ha=>ha.elim
theorem zc7.len{h:Array Obj}{X:Nat->Prop}:∀ {ps:List PTy} {d:Pden ps} {args:List Value},zc7 h X ps d args->args.length=ps.length
 | [],_,[],_=>rfl
 | .val t::ps,d,x::xs,ha=>by simp [zc7.len (ps:=ps) ha.2]
 | .ptr T t::ps,d,x::xs,ha=>by simp [zc7.len (ps:=ps) ha.2]
 | .val _::_,_,[],ha=>ha.elim
 | .ptr _ _::_,_,[],ha=>ha.elim
 | [],_,_::_,ha=>ha.elim
theorem zc7.slots{h:Array Obj}{X:Nat->Prop}{env:Nm}:∀ {ps:List PTy} {d:Pden ps} {args:List Value} {i:Nat},zc7 h X ps d args->(∀ k,k<args.length->env (i+k)=args[k]?)->All2 (AvR h X env) (ztW ps d i) args
 | [],_,[],_,_,_=>trivial
 | .val t::ps,d,x::xs,i,⟨⟨cs,e,hf⟩,ha⟩,he=>⟨by rw [e];exact zpS hf,zc7.slots (ps:=ps) (i:=i+1) ha fun k hk=>by rw [show i+1+k=i+(k+1) by omega];simpa using he (k+1) (by simpa using hk)⟩
 | .ptr T t::ps,d,x::xs,i,⟨⟨g,cs,e,h1,hf,hg⟩,ha⟩,he=>⟨⟨g,by have:=he 0 (by simp);rw [e]at this;simpa using this,e⟩,zc7.slots (ps:=ps) (i:=i+1) ha fun k hk=>by rw [show i+1+k=i+(k+1) by omega];simpa using he (k+1) (by simpa using hk)⟩
 | .val _::_,_,[],_,ha,_=>ha.elim
 | .ptr _ _::_,_,[],_,ha,_=>ha.elim
 | [],_,_::_,_,ha,_=>ha.elim
theorem zc7.blocks{h:Array Obj}{X:Nat->Prop}{env:Nm}:∀ {ps:List PTy} {d:Pden ps} {args:List Value} {i:Nat},zc7 h X ps d args->(∀ k,k<args.length->env (i+k)=args[k]?)->∀ b,za9 (fun _=>False) h X env (fun _=>none) b (look (frzW (zn1 ps d i)) (.b b))
 | [],_,[],_,_,_,_=>trivial
 | .val t::ps,d,x::xs,i,ha,he,b=>zc7.blocks (ps:=ps) (i:=i+1) ha.2 (fun k hk=>by rw [show i+1+k=i+(k+1) by omega];simpa using he (k+1) (by simpa using hk)) b
 | .ptr T t::ps,d,x::xs,i,⟨⟨g,cs,e,h1,hf,hg⟩,ha⟩,he,b=>by
  have k1:=zc7.blocks (ps:=ps) (i:=i+1) ha (fun k hk=>by rw [show i+1+k=i+(k+1) by omega];simpa using he (k+1) (by simpa using hk)) b
  show za9 _ _ _ _ _ _ (look (Wr.w (.b i) (.rb T (flat t d.1))::frzW (zn1 ps d.2 (i+1))) (.b b))
  simp only [look];by_cases hib:i=b
  . subst hib;rw [zaO,qah];exact ⟨g,cs,by have:=he 0 (by simp);rw [e]at this;simpa using this,h1,zcZ hf,hg⟩
  . rw [zbh (show Loc.b i≠Loc.b b from fun e=>by cases e;exact hib rfl),qaf]
    exact k1
 | .val _::_,_,[],_,ha,_,_=>ha.elim
 | .ptr _ _::_,_,[],_,ha,_,_=>ha.elim
 | [],_,_::_,_,ha,_,_=>ha.elim
theorem PS.start{ps:List PTy}{d:Pden ps}{lb:List Value}{X:Nat->Prop}{w:World}{J:(Nat->Prop)->List α->World->Prop}{yv:Value}(ha:zc7 w.heap X ps d lb)(hX:∀ c,X c->c<w.heap.size)(hsz:w.heap.size<=W.heap.size)(hsame:∀ c,X c->W.heap[c]?=w.heap[c]?)
 (hJ:J X [] W) (hnt:ps.length+1<=nt) (hyv:yv.oneCell'=true) :
 PS ⟨yv,X,fun _=>False,W,W.heap.size⟩ J nt (look (zb7 ps d)) ⟨(#[yv]++lb.toArray)++Array.replicate (nt-(#[yv]++lb.toArray).size) undef,[]⟩ W (· < ps.length+1) []:=by
 have hl:=ha.len;let env:Nm:=fun b=>(yv::lb)[b]?
 have he:∀ k,k<lb.length->env (1+k)=lb[k]?:=fun k hk=>by simp only [env];rw [Nat.add_comm,qbv]
 have ha':=ha.mono hsame;refine ⟨by simp;omega,qao _,qao _,X,env,⟨fun b=>?_,fun n=>?_⟩,fun b hb=>?_,rfl,⟨fun _ h=>h,fun _ h=>h.elim⟩,fun c hc=>qbq (hX c hc) hsz,hJ,[],rfl,qcq,fun _ h=>nomatch h⟩
 . unfold zb7;have:=ha'.blocks (i:=1) he b
   rw [zcy]at this;rw [zcy,zeB];exact this
 . unfold zb7;rw [zcy];have hall:All2 (AvR W.heap X env) (.v (.one (.nam 0))::ztW ps d 1) (yv::lb):=⟨⟨rfl,hyv⟩,ha'.slots he⟩;refine zbQ.frz (zh0 (s:=List.replicate (ps.length+1) .p) (i:=0) (fun n=>zgN (ps:=ps) (d:=d) (i:=1)) hall (fun k v hk=>?_) n)
   rw [zu6]at hk;have hk:(yv::lb)[k]?=some v:=by
    rw [qa7]at hk;split at hk
    . exact hk
    . cases hk
   have hlt:=(qap.1 hk).1;rw [qaH,qbh,Array.getElem?_append_left (by simpa [Nat.add_comm] using hlt)]
   have:(#[yv]++lb.toArray)[k]?=some v:=by rw [<-hk];simp
   rw [this];rfl
 . have hb:(yv::lb)[b]?≠none:=hb;have:=(qap.1 (Option.eq_some_iff_get_eq.2 ⟨Option.ne_none_iff_isSome.1 hb,rfl⟩)).1
   simp at this;omega
theorem PS.forget{T:(Nat->Prop)->List α->World->Prop}{fs fs':FS}{pre:List α}{m:Nat}(h:PS p T nt fs a W N pre)(hl:FsLe fs fs')(hk:∀ l,zyl m l (fs' l))(hm:0<m):PS p T nt fs' a W (· < m) pre:=by
 obtain ⟨X,env,h1,h2,h3,h4⟩:=(h.le hl).ex;let env':Nm:=fun b=>if b<m then env b else none
 have he:∀ b,b<m->env' b=env b:=fun b hb=>if_pos hb
 refine ⟨h.size,h.lo,h.wr,X,env',⟨fun b=>?_,fun n=>?_⟩,fun b hb=>?_,by rw [he 0 hm];exact h3,h4⟩
 . have q:=h1.rb b;have k:=hk (.b b);cases hc:fs' (.b b) with
   | no=>trivial
   | av _=>trivial
   | ln n=>
    rw [hc]at q k;obtain ⟨p,c,e1⟩:=q;exact ⟨p,c,by rw [he b k];exact e1⟩
   | arr m T e l=>
    rw [hc]at q k;obtain ⟨v,e1,e2⟩:=q;exact ⟨v,by rw [he b k];exact e1,e2⟩
   | box T xs=>
    rw [hc]at q;obtain ⟨g,cs,e1,e2,e3,e4⟩:=q;cases e4
   | rb T xs=>
    rw [hc]at q k;obtain ⟨g,cs,e1,e2,e3,e4⟩:=q;exact ⟨g,cs,by rw [he b k.1];exact e1,e2,All2.of_mem (fun a ha b hab=>LfR.rename (p:=(· < m)) he (k.2 a ha) hab) e3,e4⟩
 . have q:=h1.rs n;have k:=hk (.s n);cases hc:fs' (.s n) with
   | av x=>rw [hc]at q k;exact AvR.rename (p:=(· < m)) he k q
   | _=>trivial
 . by_cases h:b<m
   . exact h
   . simp only [env',if_neg h]at hb;exact absurd rfl hb
end
theorem zdT{keep:List Loc}{ws st:List Wr}(h:zct keep ws=true){l:Loc}(hl:l∈keep):look (frzW (ws++st)) l=(look st l).frz:=by
 rw [zcy,zaH,zkk h l hl]
theorem ztL(c:Cell):c.frz.frz=c.frz:=by cases c <;> rfl
theorem zrW(st:List Wr):frzW (frzW st)=frzW st:=by
 unfold frzW;rw [List.map_map];congr 1
 funext w
 cases w with
 | w l c=>show Wr.w l c.frz.frz=Wr.w l c.frz;rw [ztL]
 | cut=>rfl
def cAt:List Nat->Code->Code
 | 0::p,.seq a _=>cAt p a
 | _::p,.seq _ b=>cAt p b
 | 0::p,.cond _ a _=>cAt p a
 | _::p,.cond _ _ b=>cAt p b
 | _::p,.block _ c=>cAt p c
 | _::p,.loop c=>cAt p c
 | _::p,.scope c=>cAt p c
 | 0::p,.rangeFunc _ _ a _=>cAt p a
 | _::p,.rangeFunc _ _ _ b=>cAt p b
 | _,c=>c
def opsOf:Code->Array Oper
 | .region _ ops _=>ops
 | _=>#[]
def idOf:Code->Nat
 | .region id _ _=>id
 | _=>0
def zco{V X:Type}(step:V->Option ((X×Option V)⊕Unit)):Nat->V->Option (List X)
 | 0,_=>none
 | n+1,v=>match step v with
  | none=>none
  | some (.inr _)=>some []
  | some (.inl (x,none))=>some [x]
  | some (.inl (x,some v'))=>(zco step n v').map (x :: ·)
open Classical in
def listOf{V X:Type}(step:V->Option ((X×Option V)⊕Unit))(v:V):Option (List X) :=
 if h:∃ n L,zco step n v=some L then some (Classical.choose (Classical.choose_spec h)) else none
theorem ztB{V X:Type}{step:V->Option ((X×Option V)⊕Unit)}{v:V}{L:List X}(h:listOf step v=some L):∃ n,zco step n v=some L:=by
 unfold listOf at h;split at h
 . rename_i hex;cases h;exact ⟨_,Classical.choose_spec (Classical.choose_spec hex)⟩
 . cases h
theorem ziv{V X:Type}{step:V->Option ((X×Option V)⊕Unit)}:∀ {n k:Nat} {v:V} {L M:List X},zco step n v=some L->zco step k v=some M->L=M
 | 0,_,_,_,_,h,_=>by simp [zco]at h
 | _,0,_,_,_,_,h=>by simp [zco]at h
 | n+1,k+1,v,L,M,h1,h2=>by
  simp only [zco]at h1 h2;cases hs:step v with
  | none=>rw [hs]at h1;cases h1
  | some r=>
   rw [hs]at h1 h2;rcases r with ⟨x,v' | v'⟩ | _
   . simp only [Option.some.injEq]at h1 h2;rw [<-h1,<-h2]
   . simp only [qb4]at h1 h2;obtain ⟨L1,a1,rfl⟩:=h1;obtain ⟨L2,a2,rfl⟩:=h2;rw [ziv a1 a2]
   . simp only [Option.some.injEq]at h1 h2;rw [<-h1,<-h2]
theorem zrK{V X:Type}{step:V->Option ((X×Option V)⊕Unit)}{v:V}{L:List X}{n:Nat}(h:zco step n v=some L):listOf step v=some L:=by
 have hex:∃ n L,zco step n v=some L:=⟨n,L,h⟩
 unfold listOf;rw [dif_pos hex,ziv h (Classical.choose_spec (Classical.choose_spec hex))]
end Go.VI
namespace Go.VI
open Go Go.RowKit
def zn0:(ps:List PTy)->List Cp->T (Pden ps)
 | [],[]=>.ret ()
 | .ptr tt t::ps,.ptr b 0::cs=>do
  match <-rdB b with
  | .rb T' ys=>do
   zao (Nat.beq tt T')
   let (v,rest,_) <-za2 true t ys
   zao rest.isEmpty
   let vs <-zn0 ps cs
   pure (v,vs)
  | _=>.fail
 | _,_=>.fail
theorem zvl{cx:Cx}{fs:FS}{w:World}{env:Nm}{own:Ow}{X:Nat->Prop}(hb:RB cx fs w env own)(hX:∀ c,cx.ok own c->c<w.heap.size->X c)(hu:∀ bs,unown own bs=own):∀ {ps:List PTy} {cs:List Cp} {vals:List Value} {d:Pden ps},(zn0 ps cs).evs fs=some d->All2 (CpR w.heap (cx.ok own) env) cs vals->zc7 w.heap X ps d vals
 | [],[],[],d,_,_=>trivial
 | .ptr tt t::ps,.ptr b o::cs,v::vals,d,h,hv=>by
  cases o with
  | succ _=>simp [zn0,T.evs]at h
  | zero=>
  simp only [zn0]at h;obtain ⟨c,h1,h2⟩:=zaa.1 h;simp only [zaS,Option.some.injEq]at h1;subst h1;split at h2
  . rename_i T' ys hfs
    obtain ⟨_,h3,h4⟩:=zaa.1 h2;obtain ⟨⟨v1,rest,w1⟩,h5,h6⟩:=zaa.1 h4;obtain ⟨_,h7,h8⟩:=zaa.1 h6;obtain ⟨vs,h9,h10⟩:=zaa.1 h8;simp at h10;subst h10
    have hT:=qan (zah.1 h3);subst hT;have hrest:=zcw h7;subst hrest;have q:=hb b;rw [hfs]at q;obtain ⟨g,cs',e1,e2,e3,e4⟩:=q;obtain ⟨g',f1,f2⟩:=hv.1;rw [e1]at f1;simp at f1;subst f1
    obtain ⟨k1,c1,c2,hc,hr0,hfit⟩:=zcf hb h5 e3;have:c2=[]:=by cases c2 with
     | nil=>rfl
     | cons _ _=>exact hr0.elim
    subst this;rw [qaW]at hc;have hf:=hfit (nms w1) fun p hp=>qav.2 ⟨p,hp,rfl⟩
    rw [hu,<-hc]at hf;exact ⟨⟨g,cs',f2,e2,hf.mono fun c hc hl=>⟨hX c hc hl,rfl⟩,hX g e4 (qaL.1 e2).1⟩,zvl hb hX hu h9 hv.2⟩
  . simp [T.evs]at h2
 | [],_::_,_,_,h,_=>by simp [zn0,T.evs]at h
 | .val _::_,_,_,_,h,_=>by simp [zn0,T.evs]at h
 | .ptr _ _::_,[],_,_,h,_=>by simp [zn0,T.evs]at h
 | .ptr _ _::_,.imm _ _::_,_,_,h,_=>by simp [zn0,T.evs]at h
 | [],[],_::_,_,_,hv=>hv.elim
 | .ptr _ _::_,.ptr _ _::_,[],_,_,hv=>hv.elim
section
variable {α:Type} {p:PC} {nt:Nat} {a a':Act} {W W':World} {N N':Nat->Prop} {T J Jx:(Nat->Prop)->List α->World->Prop} {fs:FS} {pre:List α}
theorem PS.went(hT:Free p.B T)(h:PS p T nt fs a W N pre)(hXr:∀ c,¬p.Xr c){B':Nat}(hB:p.B<=B')(g:Went B' W W')(hD:∀ D,zuZ D∈a.defers->D<B'){X1:Nat->Prop}(hX1:∀ c,X1 c->p.X0 c\/(W.heap.size<=c/\c<W'.heap.size)):PS ⟨p.yv,X1,fun _=>False,p.Wr,p.B⟩ T nt fs a W' N pre:=by
 obtain ⟨X,env,h1,h2,h3,h4,h5,h6,Ds,m1,m2,m3⟩:=h.ex;refine ⟨h.size,qaA h.lo g.size,qaA h.wr g.size,fun c=>(X c\/W.heap.size<=c)/\c<W'.heap.size,env,(h1.stay g.stay).mono (fun c hc hl=>⟨⟨.inl hc,hl⟩,rfl⟩) (fun _ _ h=>h),h2,h3,⟨fun c hc=>?_,fun _ h=>h.elim⟩,fun c hc=>hc.2,hT _ _ _ _ _ h6 (g.mono hB) fun c hc=>hc,Ds,m1,m2,fun D hm=>?_⟩
 . rcases hX1 c hc with h | h
   . exact ⟨.inl (h4.1 c h),qbq (h5 c (h4.1 c h)) g.size⟩
   . exact ⟨.inr h.1,h.2⟩
 . obtain ⟨q1,q2,q3,q4⟩:=m3 D hm;have hlt:=hD D (by rw [m1];exact qav.2 ⟨D,hm,rfl⟩)
   exact ⟨g.old _ _ q1 (.inr hlt),⟨.inl q2,qbq (h5 D q2) g.size⟩,q3,fun h=>h⟩
theorem PS.weak(h:PS p T nt fs a W N pre){X1:Nat->Prop}(hX1:∀ c,X1 c->p.X0 c):PS ⟨p.yv,X1,fun _=>False,p.Wr,p.B⟩ T nt fs a W N pre:=by
 obtain ⟨X,env,h1,h2,h3,h4,h5,h6,Ds,m1,m2,m3⟩:=h.ex;exact ⟨h.size,h.lo,h.wr,X,env,h1,h2,h3,⟨fun c hc=>h4.1 c (hX1 c hc),fun _ h=>h.elim⟩,h5,h6,Ds,m1,m2,fun D hD=>⟨(m3 D hD).1,(m3 D hD).2.1,(m3 D hD).2.2.1,fun h=>h⟩⟩
end
section
variable {nt:Nat}
set_option maxHeartbeats 1000000 in
theorem PS.rangeFunc{p:PC}{a:Act}{W:World}{P:Program}{m0:Nat}{ts:List Ty}{J Jx:(Nat->Prop)->List (Tden ts)->World->Prop}{acc:List (Tden ts)}{st:List Wr}{nx g:Nat}{ps:Array Tmp}{assign body:Code}{gf:FuncId}{cs:List Cp}{psG:List PTy}{d:Pden psG}{Li:List (Tden ts)}{Q:Exit->Act->World->Prop}
 (hJ:Free p.B J) (hJx:Free p.B Jx) (hXr:∀ c,¬p.Xr c) (h:PS p J nt (look st) a W (· < nx) acc) (hg:look st (.s g) = .av (.v (.one (.clo gf [] cs)))) (hc:(zn0 psG cs).evs (look st)=some d) (eg:zbZ P gf)
 (hseq:∀ (w:World) (X:Nat->Prop) (lb:List Value),zc7 w.heap X psG d lb->(∀ c,X c->c<w.heap.size)->zo1 P gf lb.toArray (encs ts) X Li w)
 (hpl:∀ t∈ts,t.plain=true) (hps:ps.toList.length=ts.length) (hnd:ps.toList.Nodup) (hlt:∀ q∈ps.toList,q<nt) (Last Ok:List (Tden ts)->Prop) (hOk:Ok []) (stA:Tden ts->List Wr) (nA:Tden ts->Nat)
 (hassign:∀ (l:Nat) (p':PC) (pre:List (Tden ts)) (x:Tden ts) (a1:Act) (W1:World) (Q:Exit->Act->World->Prop),p'.yv=p.yv->p'.B=p.B->(∀ c,p.X0 c->p'.X0 c)->(pre++[x]) <+: Li->PS p' J nt (look (zfz ps.toList ts x++st)) a1 W1 (· < nx) (acc++pre) ->
  (∀ a2 W2,PS p' J nt (look (stA x)) a2 W2 (· < nA x) (acc++pre)->Q .normal a2 W2)->assign.wpIn (Fw (some l)) 0 P Q a1 W1)
 (hbody:∀ (l:Nat) (p':PC) (pre:List (Tden ts)) (x:Tden ts) (a2:Act) (W2:World) (Q:Exit->Act->World->Prop),p'.yv=p.yv->p'.B=p.B->(∀ c,p.X0 c->p'.X0 c)->(pre++[x]) <+: Li->PS p' J nt (look (stA x)) a2 W2 (· < nA x) (acc++pre) ->
  (∀ a3 W3 fs N,Ok (pre++[x])->PS p' J nt fs a3 W3 N (acc++(pre++[x]))->Q .normal a3 W3)->(∀ a3 W3 fs N,Last (pre++[x])->PS p' J nt fs a3 W3 N (acc++(pre++[x]))->Q .ret a3 W3)->(∀ a3 W3 fs N,PS p' Jx nt fs a3 W3 N (acc++(pre++[x]))->Q .ret a3 W3)->body.wpIn (Fw (some l)) 0 P Q a2 W2)
 (hdone:∀ a' W',Ok Li->PS p J nt (look st) a' W' (· < nx) (acc++Li)->Q .normal a' W') (hret:∀ a' W' s,Last s->PS p J nt (look st) a' W' (· < nx) (acc++s)->Q .ret a' W') (hretx:∀ a' W' s,s <+: Li->PS p Jx nt (look st) a' W' (· < nx) (acc++s)->Q .ret a' W') :
 (Code.rangeFunc (.tmp g) ps assign body).wpIn (Fw none) m0 P Q a W:=by
 have hDs:∀ D,zuZ D∈a.defers->D<W.heap.size:=by
  obtain ⟨X,env,h1,h2,h3,h4,h5,h6,Ds,m1,m2,m3⟩:=h.ex;intro D hD;rw [m1]at hD;obtain ⟨D',q1,q2⟩:=qav.1 hD;have:D'=D:=by simpa [zuZ] using q2
  subst this;exact h5 D' (m3 D' q1).2.1
 obtain ⟨I,hI⟩:∃ I:((Nat->Prop)->List (Tden ts)->World->Prop)->(Nat->Prop)->List (Tden ts)->World->Prop,I=fun T X s W'=>PS ⟨p.yv,fun c=>p.X0 c\/X c\/((c=W.heap.size\/c=W.heap.size+1)/\c<W'.heap.size),fun _=>False,p.Wr,p.B⟩ T nt (look st) a W' (· < nx) (acc++s):=⟨_,rfl⟩
 have hfree:∀ {T:(Nat->Prop)->List (Tden ts)->World->Prop},Free p.B T->Free W.heap.size (I T):=by
  intro T hT;rw [hI];intro X X' s W1 W2 h1 hw hX
  refine PS.went (p:=⟨p.yv,fun c=>p.X0 c\/X c\/((c=W.heap.size\/c=W.heap.size+1)/\c<W1.heap.size),fun _=>False,p.Wr,p.B⟩) hT h1 (fun _ h=>h) h.lo hw hDs fun c hc=>?_
  rcases hc with hc | hc | ⟨hc,hc2⟩
  . exact .inl (.inl hc)
  . rcases hX c hc with ⟨q | q,q2⟩
    . exact .inl (.inr (.inl q))
    . exact .inr ⟨q,q2⟩
  . rcases Nat.lt_or_ge c W1.heap.size with hl | hl
    . exact .inl (.inr (.inr ⟨hc,hl⟩))
    . exact .inr ⟨hl,hc2⟩
 obtain ⟨lb,hge,X0,hcr,hXl,hst⟩:∃ lb:List Value,a.eval (.tmp g) = .func (.func gf) #[] lb.toArray/\∃ X,zc7 W.heap X psG d lb/\(∀ c,X c->c<W.heap.size)/\PS ⟨p.yv,fun c=>p.X0 c\/X c,fun _=>False,p.Wr,p.B⟩ J nt (look st) a W (· < nx) acc:=by
  obtain ⟨cx,hS,hb⟩:=h.into hJ;obtain ⟨X,env,h1,h2,h3,h4,h5,h6,Ds,m1,m2,m3⟩:=h.ex;have hsl:=h1.rs g;rw [hg]at hsl;obtain ⟨vs,us,e1,e2,e3⟩:∃ vs us,a.tmps.getD g undef = .func (.func gf) vs us/\All2 (CpR W.heap X env) [] vs.toList/\All2 (CpR W.heap X env) cs us.toList:=hsl
  have hvs:vs=#[]:=by
   cases hq:vs.toList with
   | nil=>exact Array.toList_eq_nil_iff.1 hq
   | cons a b=>rw [hq]at e2;exact e2.elim
  subst hvs;let cx1:Cx:=⟨W,X,fun _=>False,env,fun _=>False⟩
  have hok:∀ c,X c->cx1.ok (fun _=>none) c:=fun c hc=>⟨rfl,.inl hc⟩
  have hRB:RB cx1 (look st) W env (fun _=>none):=fun b=>(h1.rb b).conv (fun _ h=>nomatch h) (fun c hc _=>⟨hok c hc,rfl⟩) (fun _ _ h=>h) (fun _ h=>nomatch h)
  refine ⟨us.toList,by show a.tmps.getD g undef=_;rw [e1],X,zvl (X:=X) hRB (fun c hcc hl=>?_) (fun bs=>by funext c;rfl) hc (e3.mono fun _ _=>CpR.mono (fun c hc _=>⟨hok c hc,rfl⟩) fun _ _ h=>h),h5,h.size,h.lo,h.wr,X,env,h1,h2,h3,⟨fun c hc=>hc.elim (h4.1 c) id,fun _ h=>h.elim⟩,h5,h6,Ds,m1,m2,fun D hD=>⟨(m3 D hD).1,(m3 D hD).2.1,(m3 D hD).2.2.1,fun h=>h⟩⟩
  rcases hcc.2 with h | h | h
  . exact h
  . have:W.heap.size<=c:=h
    omega
  . exact h.1.elim
 have hbk:∀ {T:(Nat->Prop)->List (Tden ts)->World->Prop} {X:Nat->Prop} {s:List (Tden ts)} {W2:World},I T X s W2->W.heap.size<W2.heap.size->W2.heap[W.heap.size]?=some (.deferred (some []))->PS p T nt (look st) { a with defers:={ target:=.collected W.heap.size,args:=#[] }::a.defers } W2 (· < nx) (acc++s):=by
  intro T X s W2 hi hlt hD;rw [hI]at hi;obtain ⟨X2,env,h1,h2,h3,h4,h5,h6,Ds,m1,m2,m3⟩:=hi.ex;refine ⟨hi.size,hi.lo,hi.wr,X2,env,h1,h2,h3,⟨fun c hc=>h4.1 c (.inl hc),fun c hc=>absurd hc (hXr c)⟩,h5,h6,W.heap.size::Ds,by rw [m1];rfl,qbD.2 ⟨fun hm=>?_,m2⟩,fun D hm=>?_⟩
  . have:=hDs W.heap.size (by rw [m1];exact qav.2 ⟨_,hm,rfl⟩)
    omega
  . rcases qas.1 hm with rfl | hm
    . exact ⟨hD,h4.1 _ (.inr (.inr ⟨.inl rfl,hlt⟩)),h.lo,hXr _⟩
    . exact ⟨(m3 D hm).1,(m3 D hm).2.1,(m3 D hm).2.2.1,hXr _⟩
 refine zkj (m0:=m0) (L:=Li) (encs:=encs ts) (X0:=X0) hge eg (hseq W X0 lb hcr hXl) hXl (fun x=>by simp [encs,zp6,<-hps]) (fun X s W'=>Ok s/\I J X s W') (fun c X s W'=>c = .ret/\((Last s/\I J X s W')\/(s <+: Li/\I Jx X s W'))) (fun X X' s W1 W2 hj hw hX=>⟨hj.1,hfree hJ _ _ _ _ _ hj.2 hw hX⟩)
  (fun c X X' s W1 W2 hj hw hX=>⟨hj.1,hj.2.imp (fun q=>⟨q.1,hfree hJ _ _ _ _ _ q.2 hw hX⟩) fun q=>⟨q.1,hfree hJx _ _ _ _ _ q.2 hw hX⟩⟩) ?start ?round ?done ?stop
 case start=>
  refine ⟨hOk,?_⟩;rw [hI];dsimp only;rw [qaW];exact hst.weak fun c hc=>by
   rcases hc with hc | hc | ⟨hc,hc2⟩
   . exact .inl hc
   . exact .inr hc
   . omega
 case done=>
  rintro X W2 ⟨hO,hi⟩ hlt hnX hD;exact hdone _ _ hO (hbk hi hlt hD)
 case stop=>
  rintro X c s W2 ⟨rfl,hor⟩ hlt hnX hD;rcases hor with ⟨hl,hi⟩ | ⟨hl,hi⟩
  . exact wpIn_ret (hret _ _ s hl (hbk hi hlt hD))
  . exact wpIn_ret (hretx _ _ s hl (hbk hi hlt hD))
 case round=>
  rintro l X pre x W1 o ho rfl nXl nXB hXs hol hD ⟨_,hi⟩ hsub hpre;have hi':=hi;rw [hI]at hi'
  obtain ⟨X1,env,h1,h2,h3,h4,h5,h6,Ds,m1,m2,m3⟩:=hi'.ex;have hlW:=(qaL.1 hol).1;have hBW:=(qaL.1 hD).1;have xl:X1 (W.heap.size+1):=h4.1 _ (.inr (.inr ⟨.inr rfl,hlW⟩));have xD:X1 W.heap.size:=h4.1 _ (.inr (.inr ⟨.inl rfl,hBW⟩));have htm:(ps.zip (encs ts x)).foldl (fun t (p,v)=>t.setIfInBounds p v) a.tmps=(ps.toList.zip (encL ts x)).foldl (fun (t:Array Value) (p:Tmp×Value)=>t.setIfInBounds p.1 p.2) a.tmps:=by
   rw [<-Array.foldl_toList,Array.toList_zip]
   rfl
  rw [htm];have hP1:PS ⟨p.yv,X1,X1,W1,p.B⟩ J nt (look (zfz ps.toList ts x++st)) ⟨(ps.toList.zip (encL ts x)).foldl (fun (t:Array Value) (p:Tmp×Value)=>t.setIfInBounds p.1 p.2) a.tmps,[]⟩ W1 (· < nx) (acc++pre):=by
   refine ⟨by rw [zmB];exact hi'.size,hi'.lo,qao _,X1,env,⟨fun b=>by rw [zln];exact h1.rb b,fun n=>zhh hpl hps hnd (fun q hq=>by rw [hi'.size];exact hlt q hq) (h1.rs n)⟩,h2,h3,⟨fun _ h=>h,fun c hc=>⟨hc,rfl⟩⟩,h5,h6,[],rfl,qcq,fun _ h=>nomatch h⟩
  refine hassign _ ⟨p.yv,X1,X1,W1,p.B⟩ pre x _ W1 _ rfl rfl (fun c hc=>h4.1 c (.inl hc)) hpre hP1 fun a2 W2 hP2=>?_
  obtain ⟨X2,env2,g1,g2,g3,g4,g5,g6,Ds2,n1,n2,n3⟩:=hP2.ex;have hl2:W2.heap[W.heap.size+1]?=some o:=(g4.2 _ xl).2.trans hol
  refine ⟨hl2,fun o' ho'=>?_⟩
  have hput:Went p.B W2 (W2.putObj (W.heap.size+1) o'):=Went.put o' (Nat.le_succ_of_le h.lo) hl2 ho;have hlt2:=(qaL.1 hl2).1;obtain ⟨W3,hW3⟩:∃ W3,W3=W2.putObj (W.heap.size+1) o':=⟨_,rfl⟩
  rw [<-hW3]at hput ⊢
  have s3:W3.heap.size=W2.heap.size:=by rw [hW3];simp
  have l3:W3.heap[W.heap.size+1]?=some o':=by rw [hW3];exact World.putObj_heap_same hlt2
  have k3:∀ c,X1 c->c≠W.heap.size+1->W3.heap[c]?=W1.heap[c]?:=fun c hc hne=>by rw [hW3,World.putObj_heap_other hne];exact (g4.2 c hc).2
  have hP3:PS ⟨p.yv,X1,X1,W3,p.B⟩ J nt (look (stA x)) a2 W3 (· < nA x) (acc++pre):=by
   refine ⟨hP2.size,by rw [s3];exact hP2.lo,qao _,X2,env2,g1.stay hput.stay,g2,g3,⟨g4.1,fun c hc=>⟨g4.1 c hc,rfl⟩⟩,fun c hc=>by rw [s3];exact g5 c hc,hJ _ _ _ _ _ g6 hput fun c hc=>⟨.inl hc,by rw [s3];exact g5 c hc⟩,Ds2,n1,n2,fun D hDm=>?_⟩
   obtain ⟨q1,q2,q3,q4⟩:=n3 D hDm;exact ⟨by rw [hW3,World.putObj_heap_other (by rintro rfl;exact q4 xl)];exact q1,q2,q3,q4⟩
  have back:∀ {T:(Nat->Prop)->List (Tden ts)->World->Prop} {fs:FS} {a3:Act} {W4:World} {N:Nat->Prop},PS ⟨p.yv,X1,X1,W3,p.B⟩ T nt fs a3 W4 N (acc++(pre++[x]))->W4.heap[W.heap.size+1]?=some o'/\W4.heap[W.heap.size]?=some (.deferred (some []))/\Kept X W1 W4/\I T X (pre++[x]) W4:=by
   intro T fs a3 W4 N h4'
   obtain ⟨X4,env4,f1,f2,f3,f4,f5,f6,-⟩:=h4'.ex;have k4:∀ c,X1 c->W4.heap[c]?=W3.heap[c]?:=fun c hc=>(f4.2 c hc).2
   have s4:W1.heap.size<=W4.heap.size:=qaA (qaA hP2.wr (Nat.le_of_eq s3.symm)) h4'.wr
   refine ⟨(k4 _ xl).trans l3,((k4 _ xD).trans (k3 _ xD (by omega))).trans hD,⟨s4,fun c hc=>(k4 c (h4.1 c (.inr (.inl hc)))).trans (k3 c (h4.1 c (.inr (.inl hc))) (by rintro rfl;exact nXl hc))⟩,?_⟩
   rw [hI];have hst:Stay W1.heap (W1.putObj (W.heap.size+1) o').heap:=(Went.put (B:=0) o' (qbe _) hol ho).stay
   refine ⟨hi'.size,h4'.lo,qaA hi'.wr s4,X4,env,(h1.stay hst).mono (fun c hc _=>⟨f4.1 c hc,?_⟩) (fun _ _ h=>h),h2,h3,⟨fun c hc=>?_,fun _ h=>h.elim⟩,f5,f6,Ds,m1,m2,fun D hDm=>?_⟩
   . by_cases e:c=W.heap.size+1
     . subst e;rw [World.putObj_heap_same hlW];exact (k4 _ xl).trans l3
     . rw [World.putObj_heap_other e];exact (k4 c hc).trans (k3 c hc e)
   . rcases hc with hc | hc | ⟨hc | hc,hc2⟩
     . exact f4.1 c (h4.1 c (.inl hc))
     . exact f4.1 c (h4.1 c (.inr (.inl hc)))
     . subst hc;exact f4.1 _ xD
     . subst hc;exact f4.1 _ xl
   . obtain ⟨q1,q2,q3,q4⟩:=m3 D hDm;have hlt:=hDs D (by rw [m1];exact qav.2 ⟨D,hDm,rfl⟩)
     exact ⟨((k4 D q2).trans (k3 D q2 (by omega))).trans q1,f4.1 D q2,q3,fun h=>h⟩
  refine hbody _ ⟨p.yv,X1,X1,W3,p.B⟩ pre x a2 W3 _ rfl rfl (fun c hc=>h4.1 c (.inl hc)) hpre hP3 (fun a3 W4 fs N hO hq=>?_) (fun a3 W4 fs N hl hq=>?_) (fun a3 W4 fs N hq=>?_)
  . obtain ⟨q1,q2,q3,q4⟩:=back hq;exact ⟨q1,q2,q3,hO,q4⟩
  . obtain ⟨q1,q2,q3,q4⟩:=back hq;exact ⟨q1,q2,q3,rfl,.inl ⟨hl,q4⟩⟩
  . obtain ⟨q1,q2,q3,q4⟩:=back hq;exact ⟨q1,q2,q3,rfl,.inr ⟨hpre,q4⟩⟩
end
end Go.VI
namespace Go.VI
open Go Go.RowKit
def zB:Ty->List Value->Option (List Value)
 | .bool,.bool false::r=>some r
 | .int k,.int k' n::r=>cond (decide (k=k')&&n == 0) (some r) none
 | .slice _,.slice none 0 0::r=>some r
 | .prod a b,xs=>(zB a xs).bind fun r=>zB b r
 | .unit,xs=>some xs
 | .raw .fn,.nilFunc::r=>some r
 | .raw .map,.map none::r=>some r
 | .raw .ifc,.nilIface::r=>some r
 | .raw .ptr,.pointer none::r=>some r
 | .ifo _ _,.nilIface::r=>some r
 | _,_=>none
theorem zB_ok:∀ {t:Ty} {xs r:List Value},zB t xs=some r->xs=zgR t++r
 | .bool,xs,r,h=>by
  unfold zB at h;split at h <;> simp_all [zgR]
 | .int k,xs,r,h=>by
  match xs,h with
  | .int k' n::r',h=>
   simp only [zB]at h;cases hc:(decide (k=k')&&n == 0) with
   | false=>simp [hc]at h
   | true=>
    simp [hc]at h;subst h
    simp only [qae,qab,qaz]at hc;obtain ⟨rfl,rfl⟩:=hc
    rfl
  | [],h=>simp [zB]at h
 | .slice _,xs,r,h=>by
  unfold zB at h;split at h <;> simp_all [zgR]
 | .prod a b,xs,r,h=>by
  simp only [zB]at h;obtain ⟨r1,h1,h2⟩:=qbt.1 h;rw [zB_ok h1,zB_ok h2];simp [zgR]
 | .unit,xs,r,h=>by simp [zB]at h;simp [zgR,h]
 | .raw k,xs,r,h=>by
  cases k <;> (unfold zB at h;split at h <;> simp_all [zgR])
 | .ifo _ _,xs,r,h=>by
  unfold zB at h;split at h <;> simp_all [zgR]
def zvX(P:Program)(t:TypeId)(ty:Ty)(f:TypeInfo->Bool):Bool:=match P.info? t with
 | some i=>Nat.beq i.size ty.size&&f i
 | none=>false
def zyo(ty:Ty)(i:TypeInfo):Bool:=match i.zero with
 | some z=>match zB ty z.cells.toList with
  | some []=>true
  | _=>false
 | none=>false
def aggB(P:Program)(t:TypeId)(ty:Ty):Bool:=match P.underlying t with
 | some d=>aggD d == ty.isAgg
 | none=>false
def zjN(P:Program):List Field->List (Nat×Ty)->Bool
 | [],[]=>true
 | f::fs,p::ps=>Nat.beq f.offset p.1&&zvX P f.type p.2 (fun _=>true)&&Nat.blt 0 p.2.size&&aggB P f.type p.2&&zjN P fs ps
 | _,_=>false
def zjq(e:Ty):Nat->Nat->List (Nat×Ty)->Bool
 | 0,_,[]=>true
 | n+1,k,p::ps=>Nat.beq p.1 (k*e.size)&&Ty.eqb p.2 e&&zjq e n (k+1) ps
 | _,_,_=>false
def arrB(P:Program)(r:Row):Bool:=match r.arr with
 | none=>true
 | some (n,e)=>r.ty.isAgg&&(match P.underlying r.t with
  | some (.array m t)=>Nat.beq m n&&Nat.beq t r.elem
  | _=>false)&&zvX P r.elem e (fun _=>true)&&Nat.blt 0 e.size&&aggB P r.elem e&&zjq e n 0 r.fields
def rowB(P:Program)(r:Row):Bool :=
 zvX P r.t r.ty (zyo r.ty)&&aggB P r.t r.ty &&
 (match r.ty with
  | .int k=>(match P.underlying r.t with
   | some (.int k')=>decide (k'=k)
   | _=>false)
  | .slice e=>(match P.underlying r.t with
   | some (.slice t)=>Nat.beq t r.elem
   | _=>false)&&zvX P r.elem e (fun i=>Nat.beq i.bytes r.bytes&&zyo e i)&&Nat.blt 0 e.size&&Nat.blt 0 r.bytes
  | _=>true) &&
 cond r.isStruct (match P.underlying r.t with
  | some (.struct fs)=>zjN P fs.toList r.fields
  | _=>false) true &&
 arrB P r &&
 cond r.cmp (!P.eqGuardType P.depth r.t&&zp9 P 20 r.t r.ty) true
section
variable {P:Program} {te:TE}
theorem zly{t:TypeId}{ty:Ty}{f:TypeInfo->Bool}(h:zvX P t ty f=true):∃ i,P.info? t=some i/\i.size=ty.size/\f i=true:=by
 unfold zvX at h;split at h
 . rename_i i hi;simp only [qae]at h;exact ⟨i,hi,qan h.1,h.2⟩
 . cases h
theorem zuz{ty:Ty}{i:TypeInfo}(h:zyo ty i=true):∃ z,i.zero=some z/\z.cells.toList=zgR ty:=by
 unfold zyo at h;split at h
 . rename_i z hz;split at h
   . rename_i h2;exact ⟨z,hz,by simpa using zB_ok h2⟩
   . cases h
 . cases h
theorem zt1{t:TypeId}{ty:Ty}(h:aggB P t ty=true):∃ d,P.underlying t=some d/\aggD d=ty.isAgg:=by
 unfold aggB at h;split at h
 . rename_i d hd;exact ⟨d,hd,by simpa using h⟩
 . cases h
theorem zoN:∀ {fs:List Field} {ps:List (Nat×Ty)},zjN P fs ps=true->fs.length=ps.length/\∀ (j:Nat) f,fs[j]?=some f->∃ p,ps[j]?=some p/\f.offset=p.1/\∃ i d,P.info? f.type=some i/\i.size=p.2.size/\0<p.2.size/\P.underlying f.type=some d/\aggD d=p.2.isAgg
 | [],[],_=>⟨rfl,fun j f h=>by simp at h⟩
 | f::fs,p::ps,h=>by
  simp only [zjN,qae]at h;obtain ⟨⟨⟨⟨h1,h2⟩,h3⟩,h4⟩,h5⟩:=h;obtain ⟨e,k⟩:=zoN h5;refine ⟨by simp [e],fun j g hg=>?_⟩
  cases j with
  | zero=>
   simp at hg;subst hg
   obtain ⟨i,hi,hs,_⟩:=zly h2;obtain ⟨d,hd,ha⟩:=zt1 h4;exact ⟨p,rfl,qan h1,i,d,hi,hs,by simpa using h3,hd,ha⟩
  | succ j=>exact k j g (by simpa using hg)
 | [],_::_,h=>by simp [zjN]at h
 | _::_,[],h=>by simp [zjN]at h
theorem zon{e:Ty}:∀ {n k:Nat} {ps:List (Nat×Ty)},zjq e n k ps=true->ps=(List.range' k n).map fun j=>(j*e.size,e)
 | 0,k,[],_=>rfl
 | n+1,k,(a,b)::ps,h=>by
  simp only [zjq,qae]at h;rw [qcs,qaX,<-zon h.2,qan h.1.1,Ty.eqb_eq h.1.2]
 | 0,_,_::_,h=>by simp [zjq]at h
 | _+1,_,[],h=>by simp [zjq]at h
theorem rowB_ok{r:Row}(h:rowB P r=true):RowOk P te r:=by
 unfold rowB at h;simp only [qae]at h;obtain ⟨⟨⟨⟨⟨h1,h2⟩,h3⟩,h4⟩,h6⟩,h5⟩:=h;obtain ⟨i,hi,hs,hz⟩:=zly h1;obtain ⟨z,hz1,hz2⟩:=zuz hz;refine ⟨⟨i,z,hi,hs,hz1,hz2⟩,zt1 h2,fun k hk=>?_,fun e he=>?_,fun ha hna=>?_,fun n e hra=>?_,fun hc=>?_⟩
 . rw [hk]at h3;simp only at h3
   split at h3
   . rename_i k' hu
     rw [hu,qat h3]
   . cases h3
 . rw [he]at h3;simp only [qae]at h3;obtain ⟨⟨⟨q1,q2⟩,q3⟩,q4⟩:=h3;obtain ⟨j,hj,hjs,hjf⟩:=zly q2;simp only [qae]at hjf;obtain ⟨y,hy1,hy2⟩:=zuz hjf.2;split at q1
   . rename_i t hu;exact ⟨by rw [hu,qan q1],j,y,hj,hjs,qan hjf.1,by simpa using q3,by simpa using q4,hy1,hy2⟩
   . cases q1
 . rw [show r.isStruct=true by simp [Row.isStruct,ha,hna],qah]at h4
   split at h4
   . rename_i fs hu;obtain ⟨e,k⟩:=zoN h4;exact ⟨fs,hu,by simpa using e,fun j f hf=>k j f (by simpa using hf)⟩
   . cases h4
 . unfold arrB at h6;rw [hra]at h6;simp only [qae]at h6;obtain ⟨⟨⟨⟨⟨q1,q2⟩,q3⟩,q4⟩,q5⟩,q6⟩:=h6;obtain ⟨j,hj,hjs,_⟩:=zly q3;obtain ⟨d,hd,hda⟩:=zt1 q5;split at q2
   . rename_i m t hu;simp only [qae]at q2;refine ⟨q1,by rw [hu,qan q2.1,qan q2.2],j,d,hj,hjs,by simpa using q4,hd,hda,?_⟩
     rw [zon q6,List.range_eq_range']
   . cases q2
 . rw [hc,qah]at h5;simpa using h5
theorem TEok.of(h:te.all (rowB P)=true):TEok P te:=by
 have:∀ te':TE,(∀ r∈te',r∈te)->∀ t r,te'.find t=some r->r.t=t/\r∈te:=by
  intro te'
  induction te' with
  | nil=>intro _ t r h;simp [TE.find]at h
  | cons r' te' ih=>
   intro hm t r hf;simp only [TE.find]at hf;cases hb:Nat.beq r'.t t with
   | true=>
    simp [hb]at hf;subst hf
    exact ⟨qan hb,hm _ (by simp)⟩
   | false=>
    simp [hb]at hf
    exact ih (fun r hr=>hm r (by simp [hr])) t r hf
 intro t r hf;obtain ⟨h1,h2⟩:=this te (fun _ h=>h) t r hf
 exact ⟨h1,rowB_ok (qaN.1 h r h2)⟩
theorem Tbl.sound_nil:Tbl.Sound P []:=fun E h=>by cases h
theorem Tbl.sound_more{E:Ent}{tbl:Tbl}(h1:zbZ P E.f)(h2:E.Sound P)(h3:Tbl.Sound P tbl):Tbl.Sound P (E::tbl):=fun E' h=>by
 rcases qas.1 h with rfl | h
 . exact ⟨h1,h2⟩
 . exact h3 E' h
theorem Tbl.sound_cons{E:Entry}{tbl:Tbl}(h1:zbZ P E.f)(h2:E.Sound P)(h3:Tbl.Sound P tbl):Tbl.Sound P (E.ent::tbl):=Tbl.sound_more h1 h2.ent h3
def zcE(f:Func):Code:=f.body.getD .skip
def okF (fn : Func) (n k : Nat) : Bool := !(fn.name == "runtime.NumGoroutine") && fn.body.isSome && Nat.beq k fn.ntmps && Nat.ble n k
theorem ent_ok{tbl:Tbl}{ann:Ann}(ht:TEok P te)(hmix:P.follows .mixedOrders=true)(hT:tbl.Sound P){fn:Func}{f k:Nat}{sh:List AP}{ps:List PTy}{rs:List RTy}(hf:P.funcs[f]?=some fn)(hk:okF fn sh.length k=true)
 {F:Pden ps->Option (Rden rs×Oden ps)} (hF:F=fun d=>(funT te tbl ann k (zcE fn) fn.results.toList sh ps rs d).ev) (hA:ann.Sound P):zbZ P f/\(⟨f,sh,ps,rs,F⟩:Entry).Sound P:=by
 simp only [okF,qae,qar]at hk;obtain ⟨⟨⟨h1,h2⟩,h3⟩,h4⟩:=hk;obtain ⟨c,hc⟩:=Option.isSome_iff_exists.1 h2;have h3:=qan h3;subst h3;have hb:zcE fn=c:=by simp [zcE,hc]
 refine ⟨fun args w=>?_,zxX (ann:=ann) ht hT hA hmix ⟨f,sh,ps,rs,F⟩ hf hc (qa5 h4) fun d r h=>?_⟩
 . simp only [qaI,ne_eq]at h1;simp [callFunc,hf,h1,hc]
 . subst hF;rw [hb]at h;exact h
end
end Go.VI
namespace Go.VI
open Go Go.RowKit
section
variable {P:Program} {te:TE} {tbl:Tbl} {ann:Ann}
theorem St.put{cx:Cx}{nt:Nat}{st:List Wr}{act:Act}{w:World}{N:Nat->Prop}(hS:St cx nt (look st) act w N){q:Nat}{v:Value}{c:Cell}(hq:q<nt)(hv:∀ h ok env,zbQ h ok env c v):St cx nt (look (.w (.s q) c::st)) (act.put (some q) v) w N:=by
 obtain ⟨env,own,h1,h2,h3,h4⟩:=hS.ex;refine ⟨by rw [zpe];exact hS.size,env,own,h1,fun b=>?_,fun n=>?_,by rw [zjQ];exact h4⟩
 . simp only [look,Loc.eqb,qaf];exact h2 b
 . rw [zpX _ _ _ _ (by simp [zx5,hS.size,hq])]
   by_cases hn:q=n
   . subst hn;simp only [look,zaO,qah,if_true];exact hv _ _ _
   . simp only [look];rw [zbh (fun e=>hn (by injection e)),qaf,if_neg (fun e=>hn (by injection e))]
     exact h3 n
theorem zy1(ht:TEok P te)(hT:tbl.Sound P)(hA:ann.Sound P)(hmix:P.follows .mixedOrders=true)(E:Entry){fn:Func}{r0 cnd rest:Code}{i1:Nat}{o1 o2:Oper}(hf:P.funcs[E.f]?=some fn)(hb:fn.body=some (.seq r0 (.seq (.seq (.region i1 #[o1,o2] false) cnd) rest)))(hps:E.sh.length<=fn.ntmps)
 {t t' e:TypeId} {s q:Nat} (ho:o2.op = .binOp .eql t (.tmp s) (.const (.slice none 0 0)) t') (hg:o2.guard=none) (hd:o2.dst=some q) (hq:q<fn.ntmps) (hu:P.underlying t=some (.slice e))
 (hrun:∀ d r,E.F d=some r->∃ (W0 W1 Wa W2 W3:List Wr) (n1 na n2 n3:Nat) (ee:Ty) (l:List ee.den),
  (runCode te tbl ann fn.ntmps r0 0 E.ps.length (zbo E.sh E.ps d)).ev=some (.normal,n1,W0)/\(opT te tbl #[o1,o2] fn.ntmps n1 0).evs (look (W0++zbo E.sh E.ps d))=some W1 /\
  look (W1++(W0++zbo E.sh E.ps d)) (.s s) = .av (.v (.one (.imm (.slice ee) l))) /\
  (l=[]->(runCode te tbl ann fn.ntmps cnd 0 (n1+128) (.w (.s q) (.av (.v (.one (.kb true))))::(W1++(W0++zbo E.sh E.ps d)))).ev=some (.ret,na,Wa) /\
   (finT te E.rs fn.results.toList E.ps (Wa++(.w (.s q) (.av (.v (.one (.kb true))))::(W1++(W0++zbo E.sh E.ps d))))).ev=some r) /\
  (runCode te tbl ann fn.ntmps cnd 0 (n1+128) (.w (.s q) (.av (.v (.one (.kb false))))::(W1++(W0++zbo E.sh E.ps d)))).ev=some (.normal,n2,W2) /\
  (runCode te tbl ann fn.ntmps rest 0 n2 (W2++(.w (.s q) (.av (.v (.one (.kb false))))::(W1++(W0++zbo E.sh E.ps d))))).ev=some (.ret,n3,W3) /\
  (finT te E.rs fn.results.toList E.ps (W3++(W2++(.w (.s q) (.av (.v (.one (.kb false))))::(W1++(W0++zbo E.sh E.ps d)))))).ev=some r):E.Sound P:=by
 refine zxY (te:=te) ht E hf hb hps fun d r hr cx act w Q hS hQ=>?_
 obtain ⟨W0,W1,Wa,W2,W3,n1,na,n2,n3,ee,l,h0,h1,h2,h3,h4,h5,h6⟩:=hrun d r hr;refine wp_seq (zjR ht hT hA hmix r0 0 _ _ _ act w _ h0 hS fun a1 w1 hS1=>?_)
 refine wp_seq (wp_seq ((wpIn_wide (n:=0)).1 (wpIn_region (F:=Fw none) ?_)))
 rw [show List.range (#[o1,o2]:Array Oper).size=[0,1] from rfl,wpOpsIn_cons]
 refine zxq ht hT hS1 (N:=(· < n1)) (nx:=n1) (fun b hb _ h=>by omega) h1 (gs:=[]) (.inl ⟨by
  unfold zp8;split <;> simp,rfl⟩) fun a2 w2 hS2=>?_
 rw [wpOpsIn_cons];have hS2':St cx fn.ntmps (look (W1++(W0++zbo E.sh E.ps d))) a2 w2 (· < n1+128):=by
  rw [zaH];exact hS2.mono fun b hb=>by rcases hb with hb | hb <;> omega
 obtain ⟨env,own,k1,k2,k3,-⟩:=hS2'.ex;have hs:=k3 s;rw [h2]at hs;obtain ⟨p,c,hv,hp,_,_⟩:=(show Fits _ _ (.slice ee) l [a2.tmps.getD s undef] from hs)
 simp at hv
 have hrunop:(execOp a2.eval o2).run P w2 = .ok (.value (.bool p.isNone)) w2:=by
  simp only [execOp,ho];simp [Act.eval,hv,eqGuard,binOp,run_equal_slice_nil w2 t e p l.length c hu]
 unfold wpOpIn;simp only [show (#[o1,o2]:Array Oper)[1]?=some o2 from rfl,Region.wanted,hg,if_true]
 refine za7 hrunop ?_;rw [hd];simp only [wpOpsIn];cases p with
 | none=>
  have hl:=hp rfl;obtain ⟨q1,q2⟩:=h3 hl;have hS3:=hS2'.put (v:=.bool true) (c:=.av (.v (.one (.kb true)))) hq fun _ _ _=>rfl
  exact zjR ht hT hA hmix cnd 0 _ _ _ _ w2 _ q1 hS3 fun a3 w3 hS3=>hQ .ret na (Wa++(.w (.s q) (.av (.v (.one (.kb true))))::(W1++W0))) a3 w3 (fun _ h=>by cases h) (by simpa using q2) (by simpa using hS3)
 | some x=>
  have hS3:=hS2'.put (v:=.bool false) (c:=.av (.v (.one (.kb false)))) hq fun _ _ _=>rfl
  refine zjR ht hT hA hmix cnd 0 _ _ _ _ w2 _ h4 hS3 fun a3 w3 hS3=>?_
  exact zjR ht hT hA hmix rest 0 _ _ _ a3 w3 _ h5 hS3 fun a4 w4 hS4=>hQ .ret n3 (W3++(W2++(.w (.s q) (.av (.v (.one (.kb false))))::(W1++W0)))) a4 w4 (fun _ h=>by cases h) (by simpa using h6) (by simpa using hS4)
def nilT(te:TE)(tbl:Tbl)(ann:Ann)(nt:Nat)(r0 cnd rest:Code)(o1 o2:Oper)(s q:Nat)(rs:List RTy)(rv:List ResultVar)(sh:List AP)(ps:List PTy)(d:Pden ps):Option (Bool×Option (Rden rs×Oden ps)×Option (Rden rs×Oden ps)) :=
 match (runCode te tbl ann nt r0 0 ps.length (zbo sh ps d)).ev with
 | some (.normal,n1,W0)=>match (opT te tbl #[o1,o2] nt n1 0).evs (look (W0++zbo sh ps d)) with
  | some W1=>match look (W1++(W0++zbo sh ps d)) (.s s) with
   | .av (.v (.one (.imm (.slice _) l)))=>some (l.isEmpty,
    ((runCode te tbl ann nt cnd 0 (n1+128) (.w (.s q) (.av (.v (.one (.kb true))))::(W1++(W0++zbo sh ps d)))).bind fun o=>match o.1 with
     | .ret=>finT te rs rv ps (o.2.2++(.w (.s q) (.av (.v (.one (.kb true))))::(W1++(W0++zbo sh ps d))))
     | _=>.bad).ev,
    ((runCode te tbl ann nt cnd 0 (n1+128) (.w (.s q) (.av (.v (.one (.kb false))))::(W1++(W0++zbo sh ps d)))).bind fun o=>match o.1 with
     | .normal=>(runCode te tbl ann nt rest 0 o.2.1 (o.2.2++(.w (.s q) (.av (.v (.one (.kb false))))::(W1++(W0++zbo sh ps d))))).bind fun o2=>match o2.1 with
      | .ret=>finT te rs rv ps (o2.2.2++(o.2.2++(.w (.s q) (.av (.v (.one (.kb false))))::(W1++(W0++zbo sh ps d)))))
      | _=>.bad
     | _=>.bad).ev)
   | _=>none
  | none=>none
 | _=>none
theorem zxA(ht:TEok P te)(hT:tbl.Sound P)(hA:ann.Sound P)(hmix:P.follows .mixedOrders=true)(E:Entry){fn:Func}{r0 cnd rest:Code}{i1:Nat}{o1 o2:Oper}(hf:P.funcs[E.f]?=some fn)(hb:fn.body=some (.seq r0 (.seq (.seq (.region i1 #[o1,o2] false) cnd) rest)))(hps:E.sh.length<=fn.ntmps)
 {t t' e:TypeId} {s q:Nat} (ho:o2.op = .binOp .eql t (.tmp s) (.const (.slice none 0 0)) t') (hg:o2.guard=none) (hd:o2.dst=some q) (hq:q<fn.ntmps) (hu:P.underlying t=some (.slice e))
 (hrun:∀ d r,E.F d=some r->∃ x rt,nilT te tbl ann fn.ntmps r0 cnd rest o1 o2 s q E.rs fn.results.toList E.sh E.ps d=some (x,rt,some r)/\(x=true->rt=some r)):E.Sound P:=by
 refine zy1 (ann:=ann) ht hT hA hmix E hf hb hps ho hg hd hq hu fun d r hr=>?_
 obtain ⟨x,rt,h,hx⟩:=hrun d r hr;unfold nilT at h;split at h
 . rename_i n1 W0 h0;split at h
   . rename_i W1 h1;split at h
     . rename_i ee l h2;simp only [Option.some.injEq,Prod.mk.injEq]at h;obtain ⟨rfl,rfl,h⟩:=h;rw [Tree.ev_bind]at h;obtain ⟨⟨ex,n2,W2⟩,h4,h⟩:=qbt.1 h;cases ex with
       | normal=>
        simp only at h
        rw [Tree.ev_bind]at h;obtain ⟨⟨ex,n3,W3⟩,h5,h⟩:=qbt.1 h;cases ex with
        | ret=>
         simp only at h
         cases hta:(runCode te tbl ann fn.ntmps cnd 0 (n1+128) (.w (.s q) (.av (.v (.one (.kb true))))::(W1++(W0++zbo E.sh E.ps d)))).ev with
         | none=>
          refine ⟨W0,W1,[],W2,W3,n1,0,n2,n3,ee,l,h0,h1,h2,fun hl=>?_,h4,h5,h⟩
          have:=hx (by simp [hl])
          rw [Tree.ev_bind,hta]at this;cases this
         | some o=>
          obtain ⟨ex,na,Wa⟩:=o;refine ⟨W0,W1,Wa,W2,W3,n1,na,n2,n3,ee,l,h0,h1,h2,fun hl=>?_,h4,h5,h⟩
          have:=hx (by simp [hl])
          rw [Tree.ev_bind,hta]at this;cases ex with
          | ret=>exact ⟨by rw [hta],this⟩
          | normal=>cases this
          | exit id=>cases this
        | normal=>cases h
        | exit id=>cases h
       | ret=>cases h
       | exit id=>cases h
     . cases h
   . cases h
 . cases h
def seqL:Code->Code
 | .seq a _=>a
 | c=>c
def seqR:Code->Code
 | .seq _ b=>b
 | c=>c
def regId:Code->Nat
 | .region i _ _=>i
 | _=>0
def zok:Code->Array Oper
 | .region _ ops _=>ops
 | _=>#[]
theorem zmK {fn : Func} {f : Nat} (hf : P.funcs[f]? = some fn) (hk : (!(fn.name == "runtime.NumGoroutine") && fn.body.isSome) = true) : zbZ P f := by
 simp only [qae,qar]at hk;obtain ⟨h1,h2⟩:=hk;obtain ⟨c,hc⟩:=Option.isSome_iff_exists.1 h2;intro args w;simp only [qaI,ne_eq]at h1;simp [callFunc,hf,h1,hc]
def zfC(e:Ty)(T:TypeId)(bytes:Nat)(d:Pden [.val (.slice e)]):Option (Rden [⟨.slice e,[some T],none⟩]×Oden [.val (.slice e)]):=cond (zaA (0+d.1.length) bytes) (some ((d.1,()),())) none
theorem zqc (ht : TEok P te) (hmix : P.follows .mixedOrders = true) {f : Nat} {e : Ty} {T bytes : Nat} {fn : Func} {c : Code} {o1 o2 : Oper} {t t' u : TypeId} {s q : Nat} (hf : P.funcs[f]? = some fn) (hk : (!(fn.name == "runtime.NumGoroutine") && fn.body.isSome) = true)
 (hb:fn.body=some (.seq (seqL c) (.seq (.seq (.region (regId (seqL (seqL (seqR c)))) #[o1,o2] false) (seqR (seqL (seqR c)))) (seqR (seqR c)))))
 (hps:1<=fn.ntmps) (ho:o2.op = .binOp .eql t (.tmp s) (.const (.slice none 0 0)) t') (hg:o2.guard=none) (hd:o2.dst=some q) (hq:q<fn.ntmps) (hu:P.underlying t=some (.slice u))
 (hkey:∀ d:Pden [.val (.slice e)],nilT te [] [] fn.ntmps (seqL c) (seqR (seqL (seqR c))) (seqR (seqR c)) o1 o2 s q [⟨.slice e,[some T],none⟩] fn.results.toList [.p] [.val (.slice e)] d=some (d.1.isEmpty,some ((([]:List e.den),()),()),zfC e T bytes d)) :
 zbZ P f/\(⟨f,[.p],[.val (.slice e)],[⟨.slice e,[some T],none⟩],zfC e T bytes⟩:Entry).Sound P:=by
 refine ⟨zmK hf hk,zxA (ann:=[]) ht Tbl.sound_nil (fun _ h=>nomatch h) hmix ⟨f,[.p],[.val (.slice e)],[⟨.slice e,[some T],none⟩],zfC e T bytes⟩ hf hb hps ho hg hd hq hu fun d r h=>⟨d.1.isEmpty,_,(hkey d).trans (by rw [show zfC e T bytes d=some r from h]),fun hx=>?_⟩⟩
 have hnil:d.1=[]:=by simpa using hx
 have h:zfC e T bytes d=some r:=h
 unfold zfC at h;cases hc:zaA (0+d.1.length) bytes with
 | false=>rw [hc,qaf]at h;cases h
 | true=>
  rw [hc,qah]at h;rw [<-h,hnil]
end
end Go.VI
namespace Go.VI
open Go Go.RowKit
inductive OP where
 | val (t:Ty) (own:List (Option TypeId))
 | kep (t:Ty) (own:List (Option TypeId))
 | ptr (T:TypeId) (t:Ty) (own:List (Option TypeId))
@[reducible] def OPden:List OP->Type
 | []=>Unit
 | .val t _::ps=>t.den×OPden ps
 | .kep t _::ps=>t.den×OPden ps
 | .ptr _ t _::ps=>t.den×OPden ps
@[reducible] def OOden:List OP->Type
 | []=>Unit
 | .val _ _::ps=>OOden ps
 | .kep t _::ps=>t.den×OOden ps
 | .ptr _ t _::ps=>t.den×OOden ps
def mkA1(t:Ty)(ys:List Lf):A1:=cond t.isAgg (.agg ys) (match ys with
 | [y]=>.one y
 | _=>.agg ys)
def entO:(ps:List OP)->OPden ps->Nat->List AV×Ws×Nat
 | [],_,k=>([],[],k)
 | .val t os::ps,d,k=>
  let (ys,ws,k1):=ownL (flat t d.1) os k
  let (as,w2,k2):=entO ps d.2 k1
  (.v (mkA1 t ys)::as,ws++w2,k2)
 | .kep t os::ps,d,k=>
  let (ys,ws,k1):=ownL (flat t d.1) os k
  let (as,w2,k2):=entO ps d.2 k1
  (.v (mkA1 t ys)::as,ws++w2,k2)
 | .ptr T t os::ps,d,k=>
  let (ys,ws,k1):=ownL (flat t d.1) os (k+1)
  let (as,w2,k2):=entO ps d.2 k1
  (.v (.one (.bptr k 0))::as,(k,.box T ys)::(ws++w2),k2)
def zdu:(ps:List OP)->OPden ps->Nat->List Nat
 | [],_,_=>[]
 | .val t os::ps,d,k=>zdu ps d.2 (ownL (flat t d.1) os k).2.2
 | .kep t os::ps,d,k=>(ownL (flat t d.1) os k).2.1.map (·.1)++zdu ps d.2 (ownL (flat t d.1) os k).2.2
 | .ptr _ t os::ps,d,k=>k::zdu ps d.2 (ownL (flat t d.1) os (k+1)).2.2
def zpU:List Lf->List (Option TypeId)->Nat->T (List Lf)
 | .imm (.slice e) _::xs,some tt::os,k=>do
  match <-rdB k with
  | .arr true T' e' l'=>do
   zao (Nat.beq tt T')
   let l2 <-zcm (.slice e') (.slice e) l'
   let ys <-zpU xs os (k+1)
   pure (.imm (.slice e) l2::ys)
  | _=>.fail
 | x::xs,none::os,k=>do
  let ys <-zpU xs os k
  pure (x::ys)
 | xs,[],_=>.ret xs
 | _,_,_=>.fail
def oTO:(ps:List OP)->OPden ps->Nat->T (OOden ps×Ws)
 | [],_,_=>.ret ((),[])
 | .val t os::ps,d,k=>oTO ps d.2 (ownL (flat t d.1) os k).2.2
 | .kep t os::ps,d,k=>do
  let zs <-zpU (flat t d.1) os k
  let (v,rest,w1) <-za2 true t zs
  zao (rest.isEmpty&&w1.isEmpty)
  let (vs,w2) <-oTO ps d.2 (ownL (flat t d.1) os k).2.2
  pure ((v,vs),w2)
 | .ptr tt t os::ps,d,k=>do
  match <-rdB k with
  | .box T' xs=>do
   zao (Nat.beq tt T')
   let (zs,w1) <-outL xs os
   let (v,rest,w2) <-za2 true t zs
   zao rest.isEmpty
   let (vs,w3) <-oTO ps d.2 (ownL (flat t d.1) os (k+1)).2.2
   pure ((v,vs),w1++(w2++w3))
  | _=>.fail
def outO:(ps:List OP)->OPden ps->OOden ps->Nat->Nat->Ws×Ws×Nat
 | [],_,_,_,nm=>([],[],nm)
 | .val t os::ps,d,o,k,nm=>outO ps d.2 o (ownL (flat t d.1) os k).2.2 nm
 | .kep t os::ps,d,o,k,nm=>
  let (a,b,n):=outO ps d.2 o.2 (ownL (flat t d.1) os k).2.2 nm
  ((ownL (flat t o.1) os k).2.1++a,b,n)
 | .ptr T t os::ps,d,o,k,nm=>
  let (ys,ws,n1):=ownL (flat t o.1) os nm
  let (a,b,n):=outO ps d.2 o.2 (ownL (flat t d.1) os (k+1)).2.2 n1
  ((k,.box T ys)::a,ws++b,n)
structure EntryO where
 f:FuncId
 ps:List OP
 rs:List RTy
 F:OPden ps->Option (Rden rs×OOden ps)
structure ArgsO (ps:List OP) (d:OPden ps) (w:World) (ok:Nat->Prop) (env:Nm) (own:Ow) (args:List Value):Prop where
 rd:∀ c,ok c->c<w.heap.size/\own c=none
 lt:∀ c,own c≠none->c<w.heap.size
 blk:∀ c k,own c=some k->∃ v,env k=some v/\blkV v=some c
 nm:∀ b,env b≠none->b<(entO ps d 0).2.2
 av:All2 (AvR w.heap ok env) (entO ps d 0).1 args
 cells:∀ p∈(entO ps d 0).2.1,za9 (fun _=>True) w.heap ok env own p.1 p.2
def ze9(ps:List OP)(d:OPden ps)(own:Ow):Ow:=fun c=>match own c with
 | some k=>cond ((zdu ps d 0).contains k) (some k) none
 | none=>none
def okO(ps:List OP)(d:OPden ps)(w:World)(ok:Nat->Prop)(own oc:Ow)(c:Nat):Prop:=oc c=none/\ze9 ps d own c=none/\(ok c\/w.heap.size<=c\/own c≠none)
def OutC(h:Array Obj)(ok:Nat->Prop)(env ec:Nm)(own:Ow)(k:Nat):Cell->Prop
 | .box T xs=>∃ g cs,env k=some (.pointer (some ⟨g,0,none⟩))/\own g=some k/\h[g]?=some (.cells cs T (0,0))/\All2 (LfR h ok ec) xs cs.toList
 | .arr m T e l=>za9 (fun _=>True) h ok env own k (.arr m T e l)
 | _=>False
def endN(E:EntryO)(d:OPden E.ps)(r:Rden E.rs×OOden E.ps)(nm:Nat):Nat:=(outO E.ps d r.2 0 (resL E.rs r.1 nm).2.2).2.2
structure ReturnsO (E:EntryO) (d:OPden E.ps) (w:World) (ok:Nat->Prop) (env:Nm) (own:Ow) (r:Rden E.rs×OOden E.ps) (nm:Nat) (w':World) (vals:List Value) (ec:Nm) (oc:Ow):Prop where
 os:w'.os=w.os
 tape:w'.tape=w.tape
 output:w'.output=w.output
 size:w.heap.size<=w'.heap.size
 old:∀ c,c<w.heap.size->own c=none->w'.heap[c]?=w.heap[c]?
 owns:∀ c,oc c≠none->c<w'.heap.size/\(w.heap.size<=c\/own c≠none)
 stay:∀ c,ze9 E.ps d own c≠none->oc c=none
 envs:∀ b,ec b≠none->nm<=b/\b<endN E d r nm
 res:All2 (A1R w'.heap (okO E.ps d w ok own oc) ec) (resL E.rs r.1 nm).1 vals
 rows:∀ p∈(resL E.rs r.1 nm).2.1++(outO E.ps d r.2 0 (resL E.rs r.1 nm).2.2).2.1,za9 (fun g=>w.heap.size<=g\/own g≠none) w'.heap (okO E.ps d w ok own oc) ec oc p.1 p.2
 outs:∀ p∈(outO E.ps d r.2 0 (resL E.rs r.1 nm).2.2).1,OutC w'.heap (okO E.ps d w ok own oc) env ec (ze9 E.ps d own) p.1 p.2
def EntryO.Sound(P:Program)(E:EntryO):Prop :=
 ∀ (w:World) (ok:Nat->Prop) (d:OPden E.ps) (args:List Value) (env:Nm) (own:Ow) (r:Rden E.rs×OOden E.ps),ArgsO E.ps d w ok env own args->E.F d=some r->∀ nm,
  Calls P E.f args.toArray w fun e w'=>∃ vals ec oc,e = .returned (zs4 vals)/\ReturnsO E d w ok env own r nm w' vals ec oc
def ztQ(ws:Ws):List Wr:=ws.map fun p=>.w (.b p.1) p.2
def zhc(ps:List OP)(d:OPden ps):List Wr:=zeC (ps.map fun _=>.p) (entO ps d 0).1 0++ztQ (entO ps d 0).2.1
theorem zoP:∀ {ws:Ws} {n:Nat},look (ztQ ws) (.s n) = .no
 | [],_=>rfl
 | p::ws,n=>by
  show cond (Loc.eqb (.b p.1) (.s n)) p.2 (look (ztQ ws) (.s n)) = .no
  simp only [Loc.eqb,qaf];exact zoP
theorem zr4:∀ {ws:Ws} {b:Nat},look (ztQ ws) (.b b) = .no\/∃ p∈ws,p.1=b/\look (ztQ ws) (.b b)=p.2
 | [],_=>.inl rfl
 | p::ws,b=>by
  show cond (Loc.eqb (.b p.1) (.b b)) p.2 (look (ztQ ws) (.b b)) = .no\/∃ q∈p::ws,q.1=b/\cond (Loc.eqb (.b p.1) (.b b)) p.2 (look (ztQ ws) (.b b))=q.2
  cases hh:Loc.eqb (.b p.1) (.b b) with
  | true=>exact .inr ⟨p,by simp,by simpa using Loc.eqb_iff.1 hh,rfl⟩
  | false=>
   simp only [qaf];rcases zr4 (ws:=ws) (b:=b) with h | ⟨q,hq,h1,h2⟩
   . exact .inl h
   . exact .inr ⟨q,by simp [hq],h1,h2⟩
theorem zu7:∀ {ps:List OP} {vs:List Value},vs.length=ps.length->zbA (ps.map fun _=>.p) vs=vs
 | [],[],_=>rfl
 | _::ps,v::vs,h=>by
  show v::zbA (ps.map fun _=>.p) vs=_
  rw [zu7 (by simpa using h)]
theorem zlE:∀ {ps:List OP} {d:OPden ps} {k:Nat},(entO ps d k).1.length=ps.length
 | [],_,_=>rfl
 | .val _ _::ps,d,k=>by simp [entO,zlE (ps:=ps)]
 | .kep _ _::ps,d,k=>by simp [entO,zlE (ps:=ps)]
 | .ptr _ _ _::ps,d,k=>by simp [entO,zlE (ps:=ps)]
def cxO(w:World)(ok:Nat->Prop)(env:Nm)(own:Ow):Cx:=⟨w,ok,fun g=>own g≠none,env,fun g=>own g≠none⟩
theorem zw2{ps:List OP}{d:OPden ps}{w:World}{ok:Nat->Prop}{env:Nm}{own:Ow}{args:List Value}(ha:ArgsO ps d w ok env own args){nt:Nat}(hnt:ps.length<=nt):
 St (cxO w ok env own) nt (look (zhc ps d)) ⟨args.toArray++Array.replicate (nt-args.toArray.size) undef,[]⟩ w (· < (entO ps d 0).2.2):=by
 have hlen:args.length=ps.length:=by rw [<-ha.av.len,zlE]
 have hok:∀ c,ok c->(cxO w ok env own).ok own c:=fun c hc=>⟨(ha.rd c hc).2,.inl hc⟩
 refine ⟨by simp;omega,env,own,⟨rfl,rfl,rfl,qao _,fun c _ hc=>⟨Classical.not_not.1 hc,rfl⟩,fun c hc=>?_,ha.nm,fun _ _ h=>h⟩,fun b=>?_,?_,.nil⟩
 . cases h:own c with
   | none=>rfl
   | some k=>have:=ha.lt c (by simp [h]);omega
 . unfold zhc;rw [zeB];rcases zr4 (ws:=(entO ps d 0).2.1) (b:=b) with h | ⟨p,hp,rfl,h⟩
   . rw [h];trivial
   . rw [h];exact (ha.cells p hp).conv (fun g hg _=>.inr ⟨by simp [cxO,hg],by simp [cxO,hg]⟩) (fun c hc _=>⟨hok c hc,rfl⟩) (fun _ _ h=>h) fun g hg=>⟨hg,rfl⟩
 . refine zh0 (s:=ps.map fun _=>.p) (i:=0) (fun n=>zoP) (ha.av.mono fun a v h=>h.mono (fun c hc _=>⟨hok c hc,rfl⟩) (fun _ _ h=>h)) fun k v hk=>?_
   rw [zu7 hlen]at hk;have hlt:=(qap.1 hk).1;rw [qaH,qbh,Array.getElem?_append_left (by simpa using hlt)]
   simp [hk]
section
variable {P:Program} {te:TE} {cx:Cx} {fs:FS} {w:World} {env:Nm} {own:Ow}
theorem zgL{x:Lf}{xs:List Lf}{os:List (Option TypeId)}{nm:Nat}:ownL (x::xs) (none::os) nm=(x::(ownL xs os nm).1,(ownL xs os nm).2):=by
 cases x <;> first | rfl | (rename_i t v;cases t <;> rfl)
theorem zl8{xs:List Lf}{nm:Nat}:ownL xs [] nm=(xs,[],nm):=by
 cases xs with
 | nil=>rfl
 | cons x xs=>cases x <;> first | rfl | (rename_i t v;cases t <;> rfl)
theorem zl7{w2:Ws}:∀ {ys zs xs:List Lf} {os:List (Option TypeId)} {w1:Ws} {cs:List Value} {nm:Nat},(outL ys os).evs fs=some (zs,w1)->All2 (fun z x=>PR fs z x/\zqG w2 z) zs xs->ys.length=cs.length->(ownL xs os nm).2.2=(outV ys os cs nm).2.2:=by
 intro ys;induction ys with
 | nil=>
  intro zs xs os w1 cs nm h hp hl;have h':zs=[]:=by cases os <;> (simp [outL,T.evs]at h;exact h.1.symm ▸ rfl)
  subst h'
  cases xs with
  | cons _ _=>exact hp.elim
  | nil=>cases cs with
   | cons _ _=>simp at hl
   | nil=>cases os <;> simp [ownL,outV]
 | cons y ys ih=>
  intro zs xs os w1 cs nm h hp hl;cases cs with
  | nil=>simp at hl
  | cons c cs=>
  cases os with
  | nil=>simp [outL,T.evs]at h
  | cons o os=>
   cases o with
   | none=>
    simp only [outL]at h;obtain ⟨⟨zs',u2⟩,q3,q4⟩:=zaa.1 h;simp at q4
    obtain ⟨rfl,rfl⟩:=q4;cases xs with
    | nil=>exact hp.elim
    | cons x xs=>
     rw [zgL];simp only [outV];exact ih q3 hp.2 (by simpa using hl)
   | some tt=>
    simp only [outL]at h;obtain ⟨⟨z,u1⟩,q1,q2⟩:=zaa.1 h;obtain ⟨⟨zs',u2⟩,q3,q4⟩:=zaa.1 q2;simp at q4
    obtain ⟨rfl,rfl⟩:=q4;cases xs with
    | nil=>exact hp.elim
    | cons x xs=>
     have hx:∃ e l,x = .imm (.slice e) l:=by
      split at q1
      . obtain ⟨cl,h5,h6⟩:=zaa.1 q1;split at h6
        . obtain ⟨_,h7,h8⟩:=zaa.1 h6;simp at h8
          obtain ⟨rfl,rfl⟩:=h8;have:=hp.1.1
          cases this with
          | raw x h=>simp [Lf.isRaw]at h
          | imm t v=>exact ⟨_,_,rfl⟩
        . simp [T.evs]at h6
      . simp [T.evs]at q1
        obtain ⟨rfl,rfl⟩:=q1;have:=hp.1.1
        cases this with
        | raw x h=>simp [Lf.isRaw]at h
        | nil e=>exact ⟨_,_,rfl⟩
      . simp [T.evs]at q1
     obtain ⟨e,l,rfl⟩:=hx;simp only [ownL,outV];exact ih q3 hp.2 (by simpa using hl)
def zyh(env0 env:Nm)(stay0:Ow)(n:Nat):Prop:=∃ v0,env0 n=some v0/\env n=some v0/\∀ g,blkV v0=some g->stay0 g=some n
def Held(env:Nm)(own:Ow)(n:Nat):Prop:=∀ v g,env n=some v->blkV v=some g->own g=some n
theorem ztD(hB:RB cx fs w env own){env0:Nm}{stay0:Ow}{ok':Nat->Prop}{ns:List Nat}(hto:To cx w own ns ok'){w2:Ws}:∀ {ls zs xs:List Lf} {os:List (Option TypeId)} {k:Nat},(zpU ls os k).evs fs=some zs->All2 (fun z x=>PR fs z x/\zqG w2 z) zs xs ->
 (∀ n∈(ownL ls os k).2.1.map (·.1),zyh env0 env stay0 n)->(∀ n∈(ownL ls os k).2.1.map (·.1),Held env own n)/\∀ ec,∀ p∈(ownL xs os k).2.1,OutC w.heap ok' env0 ec stay0 p.1 p.2
 | ls,zs,xs,[],k,h,hp,hE=>by
  rw [zl8,zl8];exact ⟨by simp,by simp⟩
 | [],zs,xs,o::os,k,h,hp,hE=>by
  cases o <;> simp [zpU,T.evs]at h
 | x::ls,zs,xs,none::os,k,h,hp,hE=>by
  have h:(do let ys <-zpU ls os k;pure (x::ys):T (List Lf)).evs fs=some zs:=by
   cases x <;> first | exact h | (rename_i t v;cases t <;> exact h)
  obtain ⟨ys,h1,h2⟩:=zaa.1 h;simp at h2;subst h2
  cases xs with
  | nil=>exact hp.elim
  | cons y xs=>
   rw [zgL]at hE ⊢
   rw [zgL];exact ztD hB hto h1 hp.2 hE
 | x::ls,zs,xs,some tt::os,k,h,hp,hE=>by
  cases x with
  | imm t v=>
   cases t with
   | slice e=>
    simp only [zpU]at h;obtain ⟨c,h1,h2⟩:=zaa.1 h;simp only [zaS,Option.some.injEq]at h1;subst h1;split at h2
    . rename_i T' e' l' hfs
      obtain ⟨_,h3,h4⟩:=zaa.1 h2;obtain ⟨l2,h5,h6⟩:=zaa.1 h4;obtain ⟨ys,h7,h8⟩:=zaa.1 h6;simp at h8;subst h8
      have hT:=qan (zah.1 h3);subst hT;simp only [zcm,zbb]at h5;have h9:=zjS h5;have he:e'=e:=by injection h9 with h;injection h
      subst he;injection h9 with _ hv
      subst hv;cases xs with
      | nil=>exact hp.elim
      | cons y xs=>
       have hy:y = .imm (.slice e') l':=by
        have:=hp.1.1
        cases this with
        | raw x h=>simp [Lf.isRaw]at h
        | imm t v=>rfl
       subst hy;simp only [ownL]at hE ⊢;obtain ⟨i1,i2⟩:=ztD (xs:=xs) hB hto h7 hp.2 (fun n hn=>hE n (by simp only [qaX];exact qaF _ hn))
       obtain ⟨v0,e1,e2,e3⟩:=hE k (by simp)
       have hb:=hB k;rw [hfs]at hb;obtain ⟨v',q1,q2⟩:=hb;rw [e2]at q1;simp at q1;subst q1
       refine ⟨fun n hn=>?_,fun ec p hp=>?_⟩
       . simp only [qaX,qas]at hn;rcases hn with rfl | hn
         . intro v g hv hg;rw [e2]at hv;simp at hv;subst hv
           rcases q2 with ⟨rfl,_⟩ | ⟨g',cap,cur,rfl,_,_,_,_,_,q5,_⟩
           . simp [blkV]at hg
           . simp [blkV]at hg;subst hg
             exact (q5 rfl).1
         . exact i1 n hn
       . simp only [qas]at hp;rcases hp with rfl | hp
         . refine ⟨v0,e1,q2.imp id ?_⟩;rintro ⟨g,cap,cur,rfl,hg,q1,q2,q3,q4,q5,q6⟩;exact ⟨g,cap,cur,rfl,hg,q1,q2,q3,fun i hi=>hto.fits0 (q4 i hi),fun _=>⟨e3 g rfl,trivial⟩,fun h=>by cases h⟩
         . exact i2 ec p hp
    . simp [T.evs]at h2
   | _=>simp [zpU,T.evs]at h
  | _=>simp [zpU,T.evs]at h
theorem zuU{N:Nat->Prop}(hw:RW cx w env own N)(hB:RB cx fs w env own){env0:Nm}{stay0:Ow}:∀ {ps:List OP} {d:OPden ps} {k:Nat} {u:OOden ps} {ws:Ws},(oTO ps d k).evs fs=some (u,ws)->(∀ n∈zdu ps d k,zyh env0 env stay0 n) ->
 (∀ p∈ws,p.2≠.no->∃ m T e l,fs (.b p.1) = .arr m T e l/\p.2 = .arr false T e l)/\(∀ n∈zdu ps d k,Held env own n) /\
 ∀ nm,∃ (V:List (Nat×Value)) (K:List (Nat×Nat)),V.map (·.1)=List.range' nm ((outO ps d u k nm).2.2-nm)/\nm<=(outO ps d u k nm).2.2/\K.map (·.1)=zaL ws /\
  ∀ (ns:List Nat) (ok':Nat->Prop) (ec:Nm) (oc:Ow),(∀ p∈ws,p.2≠.no->p.1∈ns)->To cx w own ns ok'->Outs own cx.low V K ec oc ->
   (∀ p∈(outO ps d u k nm).2.1,za9 cx.low w.heap ok' ec oc p.1 p.2)/\∀ p∈(outO ps d u k nm).1,OutC w.heap ok' env0 ec stay0 p.1 p.2
 | [],d,k,u,ws,h,hE=>by
  simp [oTO,T.evs]at h
  subst h;exact ⟨by simp,by simp [zdu],fun nm=>⟨[],[],by simp [outO],by simp [outO],by simp [zaL],fun _ _ _ _ _ _ _=>by simp [outO]⟩⟩
 | .val t os::ps,d,k,u,ws,h,hE=>zuU hw hB (ps:=ps) (d:=d.2) h hE
 | .kep t os::ps,d,k,u,ws,h,hE=>by
  simp only [oTO]at h;obtain ⟨zs,h1,h2⟩:=zaa.1 h;obtain ⟨⟨v,rest,w1⟩,h3,h4⟩:=zaa.1 h2;obtain ⟨_,h5,h6⟩:=zaa.1 h4;obtain ⟨⟨vs,w2⟩,h7,h8⟩:=zaa.1 h6;simp at h8
  obtain ⟨rfl,rfl⟩:=h8;have h5:=zah.1 h5;simp only [qae,List.isEmpty_iff]at h5;obtain ⟨rfl,rfl⟩:=h5;obtain ⟨z1,hz,hrel⟩:=zeJ h3;rw [qaW]at hz;subst hz;simp only [zdu]at hE ⊢;obtain ⟨i1,i2,i3⟩:=zuU hw hB (ps:=ps) (d:=d.2) h7 fun n hn=>hE n (qay _ hn)
  have hk:=fun (ns:List Nat) (ok':Nat->Prop) (hto:To cx w own ns ok')=>ztD hB hto h1 hrel fun n hn=>hE n (qaG _ hn)
  refine ⟨i1,fun n hn=>?_,fun nm=>?_⟩
  . rcases qak.1 hn with hn | hn
    . exact (hk [] (cx.ok (unown own [])) ⟨fun _ h=>h⟩).1 n hn
    . exact i2 n hn
  . obtain ⟨V,K,m1,m2,m3,m4⟩:=i3 nm;refine ⟨V,K,m1,m2,m3,fun ns ok' ec oc hns hto ho=>?_⟩
    obtain ⟨j1,j2⟩:=m4 ns ok' ec oc hns hto ho;refine ⟨j1,fun p hp=>?_⟩
    simp only [outO]at hp;rcases qak.1 hp with hp | hp
    . exact (hk ns ok' hto).2 ec p hp
    . exact j2 p hp
 | .ptr tt t os::ps,d,k,u,ws,h,hE=>by
  simp only [oTO]at h;obtain ⟨c,h1,h2⟩:=zaa.1 h;simp only [zaS,Option.some.injEq]at h1;subst h1;split at h2
  . rename_i T' xs hfs
    obtain ⟨_,h3,h4⟩:=zaa.1 h2;obtain ⟨⟨zs,w1⟩,h5,h6⟩:=zaa.1 h4;obtain ⟨⟨v,rest,w2⟩,h7,h8⟩:=zaa.1 h6;obtain ⟨_,h9,h10⟩:=zaa.1 h8;obtain ⟨⟨vs,w3⟩,h11,h12⟩:=zaa.1 h10;simp at h12
    obtain ⟨rfl,rfl⟩:=h12;have:=zcw h9
    subst this;have hT:=qan (zah.1 h3);subst hT;have hbb:=hB k;rw [hfs]at hbb;obtain ⟨g,cs,e1,e2,e3,e4⟩:=hbb;obtain ⟨z1,hz,hrel⟩:=zeJ h7;rw [qaW]at hz;subst hz;simp only [zdu]at hE ⊢;obtain ⟨i1,i2,i3⟩:=zuU hw hB (ps:=ps) (d:=d.2) h11 fun n hn=>hE n (qaF _ hn)
    have hno:=fun nm=>(zeK (nm:=nm) h5 e3.len)
    have hf2:Frz fs w2:=zh4 h7;obtain ⟨v0,s1,s2,s3⟩:=hE k (by simp)
    rw [e1]at s2;simp at s2;subst s2
    refine ⟨fun p hp hne=>?_,fun n hn=>?_,fun nm=>?_⟩
    . rcases qak.1 hp with hp | hp
      . exact absurd ((hno 0).2.2.2 p hp) hne
      . rcases qak.1 hp with hp | hp
        . exact hf2 p hp
        . exact i1 p hp hne
    . rcases qas.1 hn with rfl | hn
      . intro v' g' hv hg
        rw [e1]at hv;simp at hv;subst hv
        simp [blkV]at hg;subst hg
        exact e4
      . exact i2 n hn
    . obtain ⟨n1,n2,n3,n4⟩:=hno nm;have hk:=zl7 (nm:=nm) h5 hrel e3.len
      obtain ⟨V,K,m1,m2,m3,m4⟩:=i3 (ownL (flat t v) os nm).2.2;simp only [outO];refine ⟨(outV xs os cs.toList nm).1++V,(outV xs os cs.toList nm).2.1++K,?_,?_,?_,fun ns ok' ec oc hns hto ho=>?_⟩
      . rw [qa2,n1,m1,hk];rw [hk]at m2;rw [show (outO ps d.2 vs (ownL (flat t d.1) os (k+1)).2.2 (outV xs os cs.toList nm).2.2).2.2-nm=((outV xs os cs.toList nm).2.2-nm)+((outO ps d.2 vs (ownL (flat t d.1) os (k+1)).2.2 (outV xs os cs.toList nm).2.2).2.2-(outV xs os cs.toList nm).2.2) by omega,<-qbW]
        congr 2
        omega
      . rw [hk]at m2;show nm<=(outO ps d.2 vs (ownL (flat t d.1) os (k+1)).2.2 (ownL (flat t v) os nm).2.2).2.2
        rw [hk];omega
      . rw [qa2,n3,m3,zar,zar (a:=w2),zdE hf2,qaS]
      . have ho1:Outs own cx.low (outV xs os cs.toList nm).1 (outV xs os cs.toList nm).2.1 ec oc:=⟨fun p hp=>ho.val p (qaG _ hp),fun p hp=>ho.row p (qaG _ hp)⟩
        have ho2:Outs own cx.low V K ec oc:=⟨fun p hp=>ho.val p (qay _ hp),fun p hp=>ho.row p (qay _ hp)⟩
        obtain ⟨l1,l2,_⟩:=zix hB hto (w2:=w2) (fun p hp=>hns p (qay _ (qaG _ hp)) (by obtain ⟨m,T,e,l,_,q⟩:=hf2 p hp;rw [q];intro hq;cases hq)) h5 hrel e3 ho1
        obtain ⟨j1,j2⟩:=m4 ns ok' ec oc (fun p hp=>hns p (qay _ (qay _ hp))) hto ho2
        refine ⟨fun p hp=>?_,fun p hp=>?_⟩
        . rcases qak.1 hp with hp | hp
          . exact l2 p hp
          . exact j1 p hp
        . rcases qas.1 hp with rfl | hp
          . exact ⟨g,cs,s1,s3 g rfl,e2,l1⟩
          . exact j2 p hp
  . simp [T.evs]at h2
theorem zjO:∀ {ps:List OP} {d:OPden ps} {k:Nat},k<=(entO ps d k).2.2
 | [],_,k=>qao _
 | .val t os::ps,d,k=>qaA (ownL_ge) (zjO (ps:=ps))
 | .kep t os::ps,d,k=>qaA (ownL_ge) (zjO (ps:=ps))
 | .ptr _ t os::ps,d,k=>qaA (Nat.le_succ k) (qaA (ownL_ge) (zjO (ps:=ps)))
where ownL_ge:∀ {xs:List Lf} {os:List (Option TypeId)} {nm:Nat},nm<=(ownL xs os nm).2.2
 | xs,[],nm=>by rw [zl8];exact qao _
 | [],o::os,nm=>by cases o <;> exact qao _
 | x::xs,none::os,nm=>by rw [zgL];exact ownL_ge
 | x::xs,some tt::os,nm=>by
  cases x with
  | imm t v=>
   cases t with
   | slice e=>exact qaA (Nat.le_succ nm) (ownL_ge (xs:=xs) (os:=os))
   | _=>exact ownL_ge (xs:=xs) (os:=os)
  | _=>exact ownL_ge (xs:=xs) (os:=os)
theorem zhY:∀ {ps:List OP} {d:OPden ps} {k:Nat},∀ n∈zdu ps d k,(∃ T xs,(n,Cell.box T xs)∈(entO ps d k).2.1)\/∃ T e l,(n,Cell.arr true T e l)∈(entO ps d k).2.1
 | [],_,_,n,hn=>by simp [zdu]at hn
 | .val t os::ps,d,k,n,hn=>by
  rcases zhY (ps:=ps) (d:=d.2) n hn with ⟨T,xs,h⟩ | ⟨T,e,l,h⟩
  . exact .inl ⟨T,xs,qay _ h⟩
  . exact .inr ⟨T,e,l,qay _ h⟩
 | .kep t os::ps,d,k,n,hn=>by
  rcases qak.1 hn with hn | hn
  . obtain ⟨p,hp,rfl⟩:=qav.1 hn;obtain ⟨T,e,l,h⟩:=ownL_arr p hp;exact .inr ⟨T,e,l,qaG _ (by rw [<-h];exact hp)⟩
  . rcases zhY (ps:=ps) (d:=d.2) n hn with ⟨T,xs,h⟩ | ⟨T,e,l,h⟩
    . exact .inl ⟨T,xs,qay _ h⟩
    . exact .inr ⟨T,e,l,qay _ h⟩
 | .ptr T t os::ps,d,k,n,hn=>by
  rcases qas.1 hn with rfl | hn
  . exact .inl ⟨T,_,qbg ..⟩
  . rcases zhY (ps:=ps) (d:=d.2) n hn with ⟨T,xs,h⟩ | ⟨T,e,l,h⟩
    . exact .inl ⟨T,xs,qaF _ (qay _ h)⟩
    . exact .inr ⟨T,e,l,qaF _ (qay _ h)⟩
where ownL_arr:∀ {xs:List Lf} {os:List (Option TypeId)} {nm:Nat},∀ p∈(ownL xs os nm).2.1,∃ T e l,p=(p.1,Cell.arr true T e l)
 | xs,[],nm=>by rw [zl8];simp
 | [],o::os,nm=>by cases o <;> simp [ownL]
 | x::xs,none::os,nm=>by rw [zgL];exact ownL_arr
 | x::xs,some tt::os,nm=>by
  have ih:=fun nm=>ownL_arr (xs:=xs) (os:=os) (nm:=nm)
  cases x with
  | imm t v=>
   cases t with
   | slice e=>
    intro p hp;rcases qas.1 hp with rfl | hp
    . exact ⟨_,_,_,rfl⟩
    . exact ih _ p hp
   | _=>exact ih nm
  | _=>exact ih nm
def finO(te:TE)(rs:List RTy)(rv:List ResultVar)(ps:List OP)(d:OPden ps)(st:List Wr):Tree (Rden rs×OOden ps) :=
 (T.run (look st) (do
  let (r,w1) <-resT te false rs rv
  let (u,w2) <-oTO ps d 0
  zao (zra (w1++w2)&&(zdu ps d 0).all fun n=>!(w1++w2).any fun p=>Nat.beq p.1 n)
  pure (r,u)) []).bind fun x=>.leaf x.1
def funO(te:TE)(tbl:Tbl)(ann:Ann)(nt:Nat)(c:Code)(rv:List ResultVar)(ps:List OP)(rs:List RTy)(d:OPden ps):Tree (Rden rs×OOden ps) :=
 (runCode te tbl ann nt c 0 (entO ps d 0).2.2 (zhc ps d)).bind fun o=>
  match o.1 with
  | .exit _=>.bad
  | _=>finO te rs rv ps d (o.2.2++zhc ps d)
end
section
variable {P:Program} {te:TE} {tbl:Tbl} {ann:Ann}
theorem zzf(ht:TEok P te)(E:EntryO){fn:Func}{c:Code}(hf:P.funcs[E.f]?=some fn)(hb:fn.body=some c)(hps:E.ps.length<=fn.ntmps)
 (hC:∀ d r,E.F d=some r->∀ (cx:Cx) (act:Act) (w:World) (Q:Exit->Act->World->Prop),St cx fn.ntmps (look (zhc E.ps d)) act w (· < (entO E.ps d 0).2.2) ->
  (∀ e nx W act' w',(∀ id,e≠Ex.exit id)->(finO te E.rs fn.results.toList E.ps d (W++zhc E.ps d)).ev=some r->St cx fn.ntmps (look (W++zhc E.ps d)) act' w' (· < nx)->Q (exOf e) act' w')->c.wp P Q act w):E.Sound P:=by
 intro w ok d args env0 own0 r ha hr nm;have hS:=zw2 ha hps;generalize hcx:cxO w ok env0 own0=cx at hS
 refine (callsIn_wide (n:=0)).1 (callsIn_of_wp_marks (F:=Fence.wide) (n:=0) hf hb trivial ((wpIn_wide (n:=0)).2 (hC d r hr cx _ w _ hS fun e nx W act w1 hne hfin hS1=>?_)) rfl)
 have fin:∀ w',St cx fn.ntmps (look (W++zhc E.ps d)) ⟨act.tmps,[]⟩ w' (· < nx)->(finO te E.rs fn.results.toList E.ps d (W++zhc E.ps d)).ev=some r->∃ v,(results fn act.tmps).run P w' = .ok v w'/\∃ vals ec oc,Ending.returned v = .returned (zs4 vals)/\ReturnsO E d w ok env0 own0 r nm w' vals ec oc:=by
  intro w' hS' hfin
  obtain ⟨x,rs,q1,q2⟩:=zdG hfin;simp [Tree.ev]at q2;subst q2
  obtain ⟨⟨rr,w1⟩,q3,q4⟩:=zaa.1 q1;obtain ⟨⟨u,w2⟩,q5,q6⟩:=zaa.1 q4;obtain ⟨_,q7,q8⟩:=zaa.1 q6;simp at q8;subst q8
  have q7:=zah.1 q7;simp only [qae]at q7;have hout:=zjv q7.1;have hapart:∀ n∈zdu E.ps d 0,∀ p∈w1++w2,p.1≠n:=by
   intro n hn p hp he;have h1:=qaN.1 q7.2 n hn;simp only [qar,qbr]at h1;exact h1 p hp (by rw [he];exact Nat.beq_refl n)
  obtain ⟨env,own,hw,hB,hR,-⟩:=hS'.ex;have hw0:cx.w0=w:=by rw [<-hcx];rfl
  have hok0:cx.ok0=ok:=by rw [<-hcx];rfl
  have hlow:∀ g,cx.low g↔(w.heap.size<=g\/own0 g≠none):=fun g=>by rw [<-hcx];simp [Cx.low,cxO]
  have henv:∀ b v,env0 b=some v->env b=some v:=fun b v h=>hw.fix b v (by rw [<-hcx];exact h)
  have hent:∀ n∈zdu E.ps d 0,∃ v0,env0 n=some v0/\∀ g,blkV v0=some g->own0 g=some n:=by
   intro n hn;rcases zhY n hn with ⟨T,xs,h⟩ | ⟨T,e,l,h⟩
   . obtain ⟨g,cs,e1,_,_,e4⟩:=ha.cells _ h;exact ⟨_,e1,fun g' hg=>by simp [blkV]at hg;subst hg;exact e4⟩
   . obtain ⟨v,e1,e2⟩:=ha.cells _ h;refine ⟨v,e1,fun g hg=>?_⟩
     rcases e2 with ⟨rfl,_⟩ | ⟨g',cap,cur,rfl,_,_,_,_,_,q5,_⟩
     . simp [blkV]at hg
     . simp [blkV]at hg;subst hg;exact (q5 rfl).1
  have hstay:∀ n∈zdu E.ps d 0,zyh env0 env (ze9 E.ps d own0) n:=by
   intro n hn;obtain ⟨v0,e1,e2⟩:=hent n hn;refine ⟨v0,e1,henv _ _ e1,fun g hg=>?_⟩
   simp only [ze9,e2 g hg,qcA.2 hn,qah]
  obtain ⟨vals,hvals,hfr,hres⟩:=zph ht hw hB hR (nop:=false) (fun h=>by cases h) q3
  obtain ⟨hfr2,hheld,houtO⟩:=zuU hw hB q5 hstay;obtain ⟨V,K,hV,hVle,hK,hres⟩:=hres nm;obtain ⟨V2,K2,hV2,hVle2,hK2,hres2⟩:=houtO (resL E.rs rr nm).2.2;let ec:Nm:=lk (V++V2)
  let oc:Ow:=fun g=>if w.heap.size<=g\/own0 g≠none then (own g).bind (lk (K++K2)) else none
  let ns:List Nat:=(w1++w2).filterMap fun p=>if p.2.live then some p.1 else none
  have hlive:∀ c:Cell,c≠.no->c.live=true:=fun c hc=>by cases c <;> first | rfl | exact absurd rfl hc
  have hns:∀ p∈w1++w2,p.2≠.no->p.1∈ns:=fun p hp hne=>qbO.2 ⟨p,hp,by rw [if_pos (hlive _ hne)]⟩
  have hKs:(K++K2).map (·.1)=zaL (w1++w2):=by rw [qa2,hK,hK2,zar]
  have hKn:((K++K2).map (·.1)).Nodup:=by rw [hKs];exact hout.1
  have hVall:(V++V2).map (·.1)=List.range' nm (endN E d (rr,u) nm-nm):=by
   rw [qa2,hV,hV2];show _=List.range' nm ((outO E.ps d u 0 (resL E.rs rr nm).2.2).2.2-nm)
   rw [show (outO E.ps d u 0 (resL E.rs rr nm).2.2).2.2-nm=((resL E.rs rr nm).2.2-nm)+((outO E.ps d u 0 (resL E.rs rr nm).2.2).2.2-(resL E.rs rr nm).2.2) by omega,<-qbW]
   congr 2
   omega
  have hVn:((V++V2).map (·.1)).Nodup:=by rw [hVall];exact List.nodup_range'
  have hnsK:∀ b∈ns,lk (K++K2) b=none:=fun b hb=>zjI fun v hv=>by
   obtain ⟨p,hp,he⟩:=qbO.1 hb;split at he
   . rename_i hl;simp only [Option.some.injEq]at he;have hne:p.2≠.no:=fun h0=>by rw [h0]at hl;cases hl
     refine hout.2 p hp hne ?_;have:b∈(K++K2).map (·.1):=qav.2 ⟨_,hv,rfl⟩
     rw [hKs]at this;rw [he];exact this
   . cases he
  have hstays:∀ c k,ze9 E.ps d own0 c=some k->own0 c=some k/\k∈zdu E.ps d 0/\own c=some k:=fun c k h=>by
   unfold ze9 at h;cases ho:own0 c with
   | none=>simp [ho]at h
   | some k'=>
    simp only [ho]at h;cases hc:(zdu E.ps d 0).contains k' with
    | false=>rw [hc]at h;cases h
    | true=>
     simp only [hc,qah,Option.some.injEq]at h;subst h;have hm:=qcA.1 hc;obtain ⟨v,e1,e2⟩:=ha.blk c k' ho;exact ⟨rfl,hm,hheld k' hm v c (henv _ _ e1) e2⟩
  have hstayK:∀ k∈zdu E.ps d 0,lk (K++K2) k=none/\k ∉ ns:=fun k hk=>by
   refine ⟨zjI fun v hv=>?_,fun hm=>?_⟩
   . have:k∈(K++K2).map (·.1):=qav.2 ⟨_,hv,rfl⟩
     rw [hKs]at this;exact hapart k hk _ (zbM.1 this) rfl
   . obtain ⟨p,hp,he⟩:=qbO.1 hm;split at he
     . simp only [Option.some.injEq]at he;exact hapart k hk p hp he
     . cases he
  have hstay0:∀ c,ze9 E.ps d own0 c≠none->oc c=none:=fun c hc=>by
   cases h:ze9 E.ps d own0 c with
   | none=>exact absurd h hc
   | some k=>
    obtain ⟨_,h2,h3⟩:=hstays c k h;simp only [oc];split
    . rw [h3];exact (hstayK k h2).1
    . rfl
  have hto:To cx w' own ns (okO E.ps d w ok own0 oc):=⟨fun c hc=>by
   refine ⟨?_,?_,?_⟩
   . simp only [oc];split
     . cases ho:own c with
       | none=>rfl
       | some b=>
        by_cases hm:b∈ns
        . exact hnsK b hm
        . have:=hc.1
          rw [zbu ho hm]at this;cases this
     . rfl
   . cases h:ze9 E.ps d own0 c with
     | none=>rfl
     | some k=>
      obtain ⟨_,h2,h3⟩:=hstays c k h;have:=hc.1
      rw [zbu h3 (hstayK k h2).2]at this;cases this
   . rcases hc.2 with h | h
     . exact .inl (hok0 ▸ h)
     . exact .inr ((hlow c).1 h)⟩
  have houts:Outs own cx.low (V++V2) (K++K2) ec oc:=⟨fun p hp=>zk3 hVn hp,fun p hp g hg hB _=>by
   simp only [oc];rw [if_pos ((hlow g).1 hB),hg];exact zk3 hKn hp⟩
  obtain ⟨r1,r2⟩:=hres ns (okO E.ps d w ok own0 oc) ec oc (fun p hp=>hns p (qaG _ hp)) hto ⟨fun p hp=>houts.val p (qaG _ hp),fun p hp=>houts.row p (qaG _ hp)⟩
  obtain ⟨r3,r4⟩:=hres2 ns (okO E.ps d w ok own0 oc) ec oc (fun p hp=>hns p (qay _ hp)) hto ⟨fun p hp=>houts.val p (qay _ hp),fun p hp=>houts.row p (qay _ hp)⟩
  refine ⟨zs4 vals,?_,vals,ec,oc,rfl,⟨by rw [<-hw0];exact hw.os,by rw [<-hw0];exact hw.tape,by rw [<-hw0];exact hw.output,by rw [<-hw0];exact hw.size,fun c hc hg=>?_,fun c hc=>?_,hstay0,fun b hb=>?_,r1,fun p hp=>?_,r4⟩⟩
  . have hm:(fn.results.toList.mapM (zsX act.tmps)).run P w' = .ok vals w':=hvals
    rw [zoi,Array.mapM_eq_mapM_toList];simp only [Sem.run_bind,Sem.run_map,hm,Result.andThen_ok,Sem.run_pure];congr 1
    match vals with
    | []=>rfl
    | [v]=>rfl
    | _::_::_=>rfl
  . rw [<-hw0]at hc ⊢
    exact (hw.old c hc (by rw [<-hcx];simp [cxO,hg])).2
  . simp only [oc]at hc;split at hc
    . rename_i hle;refine ⟨?_,hle⟩;cases ho:own c with
      | none=>simp [ho]at hc
      | some b=>exact hw.lt ho
    . exact absurd rfl hc
  . cases hl:lk (V++V2) b with
    | none=>exact absurd hl hb
    | some v=>
     have:b∈(V++V2).map (·.1):=qav.2 ⟨_,zmt hl,rfl⟩
     rw [hVall]at this;have:=qb1.1 this
     omega
  . have:za9 cx.low w'.heap (okO E.ps d w ok own0 oc) ec oc p.1 p.2:=by
     rcases qak.1 hp with hp | hp
     . exact r2 p hp
     . exact r3 p hp
    exact this.conv (fun g _ hg=>(hlow g).1 hg) (fun c hc _=>⟨hc,rfl⟩) (fun _ _ h=>h) fun g hg=>⟨hg,rfl⟩
 cases e with
 | normal=>exact zdh act.defers w1 hS1 fun w' hS'=>fin w' hS' hfin
 | exit id=>exact absurd rfl (hne id)
 | ret=>exact zdh act.defers w1 hS1 fun w' hS'=>fin w' hS' hfin
theorem zvY(ht:TEok P te)(hT:tbl.Sound P)(hA:ann.Sound P)(hmix:P.follows .mixedOrders=true)(E:EntryO){fn:Func}{c:Code}(hf:P.funcs[E.f]?=some fn)(hb:fn.body=some c)(hps:E.ps.length<=fn.ntmps)
 (hF:∀ d r,E.F d=some r->(funO te tbl ann fn.ntmps c fn.results.toList E.ps E.rs d).ev=some r):E.Sound P:=by
 refine zzf (te:=te) ht E hf hb hps fun d r hr cx act w Q hS hQ=>?_
 have hr:=hF d r hr;unfold funO at hr;rw [Tree.ev_bind]at hr;cases hrun:(runCode te tbl ann fn.ntmps c 0 (entO E.ps d 0).2.2 (zhc E.ps d)).ev with
 | none=>simp [hrun]at hr
 | some o=>
  obtain ⟨e,nx,W⟩:=o;simp only [hrun,qaa]at hr;refine zjR ht hT hA hmix c 0 (entO E.ps d 0).2.2 _ _ _ w _ hrun hS fun act' w' hS'=>?_
  cases e with
  | normal=>exact hQ .normal nx W act' w' (fun _ h=>by cases h) hr hS'
  | exit id=>simp [Tree.ev]at hr
  | ret=>exact hQ .ret nx W act' w' (fun _ h=>by cases h) hr hS'
end
end Go.VI
namespace Go.VI
open Go Go.RowKit
def zg2:List Lf->List (Option TypeId)->List (Option Nat)
 | .own b::xs,some _::os=>some b::zg2 xs os
 | _::xs,some _::os=>none::zg2 xs os
 | _::xs,none::os=>zg2 xs os
 | _,_=>[]
def zjK:(ps:List OP)->List AV->T (OPden ps×Ws×List (Option Nat))
 | [],[]=>.ret ((),[],[])
 | .val t os::ps,x::xs=>do
  let ys <-zdU t x
  let (zs,w1) <-outL ys os
  let (v,rest,w2) <-za2 true t zs
  zao rest.isEmpty
  let (vs,w3,bs) <-zjK ps xs
  pure ((v,vs),w1++(w2++w3),zg2 ys os++bs)
 | .kep t os::ps,x::xs=>do
  let ys <-zdU t x
  let (zs,w1) <-outL ys os
  let (v,rest,w2) <-za2 true t zs
  zao rest.isEmpty
  let (vs,w3,bs) <-zjK ps xs
  pure ((v,vs),w1++(w2++w3),zg2 ys os++bs)
 | .ptr tt t os::ps,x::xs=>do
  match <-one x with
  | .bptr b 0=>match <-rdB b with
   | .box T' ys=>do
    zao (Nat.beq tt T')
    let (zs,w1) <-outL ys os
    let (v,rest,w2) <-za2 true t zs
    zao rest.isEmpty
    let (vs,w3,bs) <-zjK ps xs
    pure ((v,vs),(b,.no)::(w1++(w2++w3)),some b::(zg2 ys os++bs))
   | _=>.fail
  | _=>.fail
 | _,_=>.fail
def outsO(ow:Ws)(back:List (Option Nat)):Ws:=ow.filterMap fun p=>match back.getD p.1 none with
 | some b=>some (b,p.2)
 | none=>none
def ownLf:Lf->Option TypeId->Bool
 | .own _,some _=>true
 | .nil,some _=>true
 | _,some _=>false
 | _,none=>true
def zxn:List Lf->List (Option TypeId)->Bool
 | x::xs,o::os=>ownLf x o&&zxn xs os
 | [],[]=>true
 | _,_=>false
def ownA:List OP->List AV->Bool
 | [],[]=>true
 | .val _ os::ps,.v (.agg xs)::as=>zxn xs os&&ownA ps as
 | .val _ os::ps,.v (.one x)::as=>zxn [x] os&&ownA ps as
 | .kep _ os::ps,.v (.agg xs)::as=>zxn xs os&&ownA ps as
 | .kep _ os::ps,.v (.one x)::as=>zxn [x] os&&ownA ps as
 | .ptr _ _ _::ps,.v (.one (.bptr _ 0))::as=>ownA ps as
 | _,_=>false
def EntryO.G(E:EntryO)(avs:List AV)(nm:Nat):T (Option AV×List (Nat×Cell)):=do
 let (d,ws,back) <-zjK E.ps avs
 zao (zra ws)
 .bnd (E.F d) fun r=>
  cond (Nat.ble (endN E d r nm) (nm+64)) (.ret (some (resAV (resL E.rs r.1 nm).1),
   outsO (outO E.ps d r.2 0 (resL E.rs r.1 nm).2.2).1 back++((resL E.rs r.1 nm).2.1++((outO E.ps d r.2 0 (resL E.rs r.1 nm).2.2).2.1++ws)))) .fail
def EntryO.ent(E:EntryO):Ent:=⟨E.f,ownA E.ps,E.G⟩
section
variable {P:Program} {te:TE} {cx:Cx} {fs:FS} {w:World} {env:Nm} {own:Ow}
theorem Outs.le{B B':Nat->Prop}{V:List (Nat×Value)}{K:List (Nat×Nat)}{ec:Nm}{oc:Ow}(h:Outs own B V K ec oc)(hB:∀ g,B' g->B g):Outs own B' V K ec oc:=⟨h.val,fun p hp g h1 h2 h3=>h.row p hp g h1 (hB g h2) h3⟩
theorem Outs.left{B:Nat->Prop}{V V':List (Nat×Value)}{K K':List (Nat×Nat)}{ec:Nm}{oc:Ow}(h:Outs own B (V++V') (K++K') ec oc):Outs own B V K ec oc:=⟨fun p hp=>h.val p (qaG _ hp),fun p hp=>h.row p (qaG _ hp)⟩
theorem Outs.right{B:Nat->Prop}{V V':List (Nat×Value)}{K K':List (Nat×Nat)}{ec:Nm}{oc:Ow}(h:Outs own B (V++V') (K++K') ec oc):Outs own B V' K' ec oc:=⟨fun p hp=>h.val p (qay _ hp),fun p hp=>h.row p (qay _ hp)⟩
theorem zxH{h:Array Obj}{ok:Nat->Prop}{env:Nm}{t:Ty}{ys:List Lf}{cs:List Value}{v:Value}(hl:ys.length=t.size)(hv:v=zaW t cs)(hy:All2 (LfR h ok env) ys cs):A1R h ok env (mkA1 t ys) v:=by
 subst hv;unfold mkA1 zaW;cases ha:t.isAgg with
 | true=>exact ⟨_,rfl,hy⟩
 | false=>
  have:=zuG ha
  rw [this]at hl;match ys,hl with
  | [y],_=>
   obtain ⟨c,rfl,hc⟩:=hy.one;simpa [A1R] using hc
structure Pairs (fs:FS) (env:Nm) (V:List (Nat×Value)) (K:List (Nat×Nat)) (bk:List (Option Nat)) (stay:List Nat) (k:Nat):Prop where
 val:∀ p∈K,∃ v,(p.2,v)∈V/\env p.1=some v
 back:∀ n b,bk[n]?=some (some b)->(b,k+n)∈K
 ofK:∀ p∈K,k<=p.2/\bk[p.2-k]?=some (some p.1)
 cell:∀ p∈K,(∃ T e l,fs (.b p.1) = .arr true T e l)\/p.2∈stay/\∃ T xs,fs (.b p.1) = .box T xs
theorem Pairs.app{V1 V2:List (Nat×Value)}{K1 K2:List (Nat×Nat)}{b1 b2:List (Option Nat)}{s1 s2 s:List Nat}{k:Nat}(h1:Pairs fs env V1 K1 b1 s1 k)(h2:Pairs fs env V2 K2 b2 s2 (k+b1.length))(e1:∀ n∈s1,n∈s)(e2:∀ n∈s2,n∈s):Pairs fs env (V1++V2) (K1++K2) (b1++b2) s k:=by
 refine ⟨fun p hp=>?_,fun n b hb=>?_,fun p hp=>?_,fun p hp=>?_⟩
 . rcases qak.1 hp with hp | hp
   . obtain ⟨v,h,e⟩:=h1.val p hp;exact ⟨v,qaG _ h,e⟩
   . obtain ⟨v,h,e⟩:=h2.val p hp;exact ⟨v,qay _ h,e⟩
 . by_cases hn:n<b1.length
   . rw [qbL hn]at hb;exact qaG _ (h1.back n b hb)
   . rw [qbo (by omega)]at hb
     have:=h2.back _ b hb
     rw [show k+b1.length+(n-b1.length)=k+n by omega]at this
     exact qay _ this
 . rcases qak.1 hp with hp | hp
   . obtain ⟨e,h⟩:=h1.ofK p hp;refine ⟨e,?_⟩;rw [qbL (qap.1 h).1];exact h
   . obtain ⟨e,h⟩:=h2.ofK p hp;refine ⟨by omega,?_⟩
     rw [qbo (by omega),show p.2-k-b1.length=p.2-(k+b1.length) by omega];exact h
 . rcases qak.1 hp with hp | hp
   . exact (h1.cell p hp).imp id fun h=>⟨e1 _ h.1,h.2⟩
   . exact (h2.cell p hp).imp id fun h=>⟨e2 _ h.1,h.2⟩
theorem Pairs.nil{k:Nat}{s:List Nat}:Pairs fs env [] [] [] s k:=⟨by simp,by simp,by simp,by simp⟩
theorem zjw{h:Array Obj}{ok:Nat->Prop}:∀ {ys zs:List Lf} {os:List (Option TypeId)} {w1:Ws} {cs:List Value} {k:Nat},(outL ys os).evs fs=some (zs,w1)->All2 (LfR h ok env) ys cs ->
 Pairs fs env (outV ys os cs k).1 (outV ys os cs k).2.1 (zg2 ys os) [] k/\(outV ys os cs k).2.2=k+(zg2 ys os).length
 | [],zs,os,w1,cs,k,hh,hy=>by
  cases cs with
  | nil=>cases os <;> exact ⟨by simpa [outV,zg2] using Pairs.nil,by simp [outV,zg2]⟩
  | cons _ _=>exact hy.elim
 | y::ys,zs,[],w1,cs,k,hh,hy=>by simp [outL,T.evs]at hh
 | y::ys,zs,none::os,w1,[],k,hh,hy=>hy.elim
 | y::ys,zs,none::os,w1,c::cs,k,hh,hy=>by
  simp only [outL]at hh;obtain ⟨⟨zs',u2⟩,h3,h4⟩:=zaa.1 hh;have:=zjw (k:=k) h3 hy.2
  have hb:zg2 (y::ys) (none::os)=zg2 ys os:=by cases y <;> rfl
  rw [hb];simpa only [outV] using this
 | y::ys,zs,some tt::os,w1,[],k,hh,hy=>hy.elim
 | y::ys,zs,some tt::os,w1,c::cs,k,hh,hy=>by
  simp only [outL]at hh;obtain ⟨⟨z,u1⟩,h1,h2⟩:=zaa.1 hh;obtain ⟨⟨zs',u2⟩,h3,h4⟩:=zaa.1 h2;obtain ⟨ih,ie⟩:=zjw (k:=k+1) h3 hy.2
  split at h1
  . rename_i b;obtain ⟨cl,h5,h6⟩:=zaa.1 h1;simp only [zaS,Option.some.injEq]at h5;subst h5;split at h6
    . rename_i T' e l hfs
      have hp1:Pairs fs env [(k,c)] [(b,k)] [some b] [] k:=by
       refine ⟨fun p hp=>?_,fun n b' hb=>?_,fun p hp=>?_,fun p hp=>?_⟩
       . simp at hp;subst hp;exact ⟨c,by simp,hy.1.1⟩
       . cases n with
         | zero=>simp at hb;subst hb;simp
         | succ n=>simp at hb
       . simp at hp;subst hp;simp
       . simp at hp;subst hp;exact .inl ⟨_,_,_,hfs⟩
      exact ⟨hp1.app (s:=[]) ih (by simp) (by simp),by simp only [outV,zg2,qaJ];omega⟩
    . simp [T.evs]at h6
  . have hp1:Pairs fs env [(k,c)] [] [none] [] k:=by
     refine ⟨by simp,fun n b' hb=>?_,by simp,by simp⟩
     cases n <;> simp at hb
    exact ⟨hp1.app (s:=[]) ih (by simp) (by simp),by simp only [outV,zg2,qaJ];omega⟩
  . simp [T.evs]at h1
theorem zmu(hB:RB cx fs w env own){t:Ty}{ys zs:List Lf}{os:List (Option TypeId)}{w1 w2:Ws}{v:t.den}{cs:List Value}(h5:(outL ys os).evs fs=some (zs,w1))(h7:(za2 true t zs).evs fs=some (v,[],w2))(e3:All2 (LfR w.heap (cx.ok own) env) ys cs):
 Frz fs w2/\(∀ p∈w1,p.2 = .no)/\∀ k,Pairs fs env (outV ys os cs k).1 (outV ys os cs k).2.1 (zg2 ys os) [] k/\(outV ys os cs k).1.map (·.1)=List.range' k ((ownL (flat t v) os k).2.2-k)/\k+(zg2 ys os).length=(ownL (flat t v) os k).2.2/\(outV ys os cs k).2.1.map (·.1)=zaL w1 /\
  ∀ (ns:List Nat) (ok':Nat->Prop) (ec:Nm) (oc:Ow),(∀ p∈w2,p.1∈ns)->To cx w own ns ok'->Outs own cx.low (outV ys os cs k).1 (outV ys os cs k).2.1 ec oc ->
   All2 (LfR w.heap ok' ec) (ownL (flat t v) os k).1 cs/\∀ p∈(ownL (flat t v) os k).2.1,za9 cx.low w.heap ok' ec oc p.1 p.2:=by
 obtain ⟨z1,hz,hrel⟩:=zeJ h7;rw [qaW]at hz;subst hz;have hno:=fun nm=>(zeK (nm:=nm) h5 e3.len)
 refine ⟨zh4 h7,(hno 0).2.2.2,fun k=>?_⟩
 obtain ⟨n1,n2,n3,n4⟩:=hno k;have hk:=zl7 (nm:=k) h5 hrel e3.len
 obtain ⟨q1,q2⟩:=zjw (k:=k) h5 e3
 refine ⟨q1,by rw [hk];exact n1,by rw [hk,q2],n3,fun ns ok' ec oc hns hto ho=>?_⟩
 obtain ⟨l1,l2,_⟩:=zix hB hto (w2:=w2) hns h5 hrel e3 ho
 exact ⟨l1,l2⟩
theorem zpY{ws:Ws}(h:Frz fs ws):∀ p∈ws,p.2≠.no:=fun p hp=>by
 obtain ⟨m,T,e,l,_,q⟩:=h p hp;rw [q];intro hq;cases hq
theorem zlv:∀ {xs:List Lf} {os:List (Option TypeId)} {nm:Nat},(ownL xs os nm).1.length=xs.length
 | xs,[],nm=>by rw [zl8]
 | [],o::os,nm=>by cases o <;> rfl
 | x::xs,none::os,nm=>by rw [zgL];simp [zlv (xs:=xs)]
 | x::xs,some tt::os,nm=>by
  have ih:=fun nm=>zlv (xs:=xs) (os:=os) (nm:=nm)
  cases x with
  | imm t v=>cases t <;> simp [ownL,ih]
  | _=>simp [ownL,ih]
theorem zlz(hB:RB cx fs w env own):∀ {ps:List OP} {avs:List AV} {vals:List Value} {d:OPden ps} {ws:Ws} {back:List (Option Nat)},(zjK ps avs).evs fs=some (d,ws,back)->All2 (AvR w.heap (cx.ok own) env) avs vals ->
 (∀ p∈ws,p.2≠.no->∃ m T e l,fs (.b p.1) = .arr m T e l/\p.2 = .arr false T e l) /\
 ∀ k,∃ (V:List (Nat×Value)) (K:List (Nat×Nat)),V.map (·.1)=List.range' k ((entO ps d k).2.2-k)/\k+back.length=(entO ps d k).2.2/\K.map (·.1)=zaL ws/\Pairs fs env V K back (zdu ps d k) k /\
  ∀ (ns:List Nat) (ok':Nat->Prop) (ec:Nm) (oc:Ow),(∀ p∈ws,p.2≠.no->p.1∈ns)->To cx w own ns ok'->Outs own (fun _=>True) V K ec oc ->
   All2 (AvR w.heap ok' ec) (entO ps d k).1 vals/\∀ p∈(entO ps d k).2.1,za9 (fun _=>True) w.heap ok' ec oc p.1 p.2
 | [],[],[],d,ws,back,h,hv=>by
  simp [zjK,T.evs]at h
  obtain ⟨rfl,rfl⟩:=h;exact ⟨by simp,fun k=>⟨[],[],by simp [entO],by simp [entO],by simp [zaL],Pairs.nil,fun _ _ _ _ _ _ _=>by simp [entO,All2]⟩⟩
 | .val t os::ps,x::xs,val::vals,d,ws,back,h,hv=>by
  simp only [zjK]at h;obtain ⟨ys,h3,h4⟩:=zaa.1 h;obtain ⟨⟨zs,w1⟩,h5,h6⟩:=zaa.1 h4;obtain ⟨⟨v,rest,w2⟩,h7,h8⟩:=zaa.1 h6;obtain ⟨_,h9,h10⟩:=zaa.1 h8;obtain ⟨⟨vs,w3,bs⟩,h11,h12⟩:=zaa.1 h10;simp at h12
  obtain ⟨rfl,rfl,rfl⟩:=h12;have:=zcw h9
  subst this;obtain ⟨k1,k2⟩:=zb1 h3 hv.1 (.inr trivial);obtain ⟨f1,f2,f3⟩:=zmu hB h5 h7 k1;obtain ⟨i1,i2⟩:=zlz hB h11 hv.2;refine ⟨fun p hp hne=>?_,fun k=>?_⟩
  . rcases qak.1 hp with hp | hp
    . exact absurd (f2 p hp) hne
    . rcases qak.1 hp with hp | hp
      . exact f1 p hp
      . exact i1 p hp hne
  . obtain ⟨p1,p2,p3,p4,p5⟩:=f3 k;obtain ⟨V,K,m1,m2,m3,m4,m5⟩:=i2 (ownL (flat t v) os k).2.2;have hge:=zjO (ps:=ps) (d:=vs) (k:=(ownL (flat t v) os k).2.2)
    refine ⟨(outV ys os val.cells.toList k).1++V,(outV ys os val.cells.toList k).2.1++K,?_,?_,?_,?_,fun ns ok' ec oc hns hto ho=>?_⟩
    . rw [qa2,p2,m1];simp only [entO];rw [show (entO ps vs (ownL (flat t v) os k).2.2).2.2-k=((ownL (flat t v) os k).2.2-k)+((entO ps vs (ownL (flat t v) os k).2.2).2.2-(ownL (flat t v) os k).2.2) by omega,<-qbW]
      congr 2
      omega
    . rw [qaD];show _=(entO ps vs (ownL (flat t v) os k).2.2).2.2
      omega
    . rw [qa2,p4,m3,zar,zar (a:=w2),zdE f1,qaS]
    . exact p1.app (by rw [p3];exact m4) (by simp) (by simp [zdu])
    . obtain ⟨j1,j2⟩:=m5 ns ok' ec oc (fun p hp=>hns p (qay _ (qay _ hp))) hto ho.right
      obtain ⟨l1,l2⟩:=p5 ns ok' ec oc (fun p hp=>hns p (qay _ (qaG _ hp)) (zpY f1 p hp)) hto (ho.left.le fun _ _=>trivial)
      simp only [entO];refine ⟨⟨zxH (by rw [zlv,ziC]) (k2 _ rfl) l1,j1⟩,fun p hp=>?_⟩
      rcases qak.1 hp with hp | hp
      . exact (l2 p hp).conv (fun _ _ _=>trivial) (fun c hc _=>⟨hc,rfl⟩) (fun _ _ h=>h) fun g hg=>⟨hg,rfl⟩
      . exact j2 p hp
 | .kep t os::ps,x::xs,val::vals,d,ws,back,h,hv=>by
  simp only [zjK]at h;obtain ⟨ys,h3,h4⟩:=zaa.1 h;obtain ⟨⟨zs,w1⟩,h5,h6⟩:=zaa.1 h4;obtain ⟨⟨v,rest,w2⟩,h7,h8⟩:=zaa.1 h6;obtain ⟨_,h9,h10⟩:=zaa.1 h8;obtain ⟨⟨vs,w3,bs⟩,h11,h12⟩:=zaa.1 h10;simp at h12
  obtain ⟨rfl,rfl,rfl⟩:=h12;have:=zcw h9
  subst this;obtain ⟨k1,k2⟩:=zb1 h3 hv.1 (.inr trivial);obtain ⟨f1,f2,f3⟩:=zmu hB h5 h7 k1;obtain ⟨i1,i2⟩:=zlz hB h11 hv.2;refine ⟨fun p hp hne=>?_,fun k=>?_⟩
  . rcases qak.1 hp with hp | hp
    . exact absurd (f2 p hp) hne
    . rcases qak.1 hp with hp | hp
      . exact f1 p hp
      . exact i1 p hp hne
  . obtain ⟨p1,p2,p3,p4,p5⟩:=f3 k;obtain ⟨V,K,m1,m2,m3,m4,m5⟩:=i2 (ownL (flat t v) os k).2.2;have hge:=zjO (ps:=ps) (d:=vs) (k:=(ownL (flat t v) os k).2.2)
    refine ⟨(outV ys os val.cells.toList k).1++V,(outV ys os val.cells.toList k).2.1++K,?_,?_,?_,?_,fun ns ok' ec oc hns hto ho=>?_⟩
    . rw [qa2,p2,m1];simp only [entO];rw [show (entO ps vs (ownL (flat t v) os k).2.2).2.2-k=((ownL (flat t v) os k).2.2-k)+((entO ps vs (ownL (flat t v) os k).2.2).2.2-(ownL (flat t v) os k).2.2) by omega,<-qbW]
      congr 2
      omega
    . rw [qaD];show _=(entO ps vs (ownL (flat t v) os k).2.2).2.2
      omega
    . rw [qa2,p4,m3,zar,zar (a:=w2),zdE f1,qaS]
    . exact p1.app (by rw [p3];exact m4) (by simp) (fun n hn=>qay _ hn)
    . obtain ⟨j1,j2⟩:=m5 ns ok' ec oc (fun p hp=>hns p (qay _ (qay _ hp))) hto ho.right
      obtain ⟨l1,l2⟩:=p5 ns ok' ec oc (fun p hp=>hns p (qay _ (qaG _ hp)) (zpY f1 p hp)) hto (ho.left.le fun _ _=>trivial)
      simp only [entO];refine ⟨⟨zxH (by rw [zlv,ziC]) (k2 _ rfl) l1,j1⟩,fun p hp=>?_⟩
      rcases qak.1 hp with hp | hp
      . exact (l2 p hp).conv (fun _ _ _=>trivial) (fun c hc _=>⟨hc,rfl⟩) (fun _ _ h=>h) fun g hg=>⟨hg,rfl⟩
      . exact j2 p hp
 | .ptr tt t os::ps,x::xs,val::vals,d,ws,back,h,hv=>by
  simp only [zjK]at h;obtain ⟨lf,h1,h2⟩:=zaa.1 h;split at h2
  . rename_i b;obtain ⟨c,h3,h4⟩:=zaa.1 h2;simp only [zaS,Option.some.injEq]at h3;subst h3;split at h4
    . rename_i T' ys hfs
      obtain ⟨_,h3,h4⟩:=zaa.1 h4;obtain ⟨⟨zs,w1⟩,h5,h6⟩:=zaa.1 h4;obtain ⟨⟨v,rest,w2⟩,h7,h8⟩:=zaa.1 h6;obtain ⟨_,h9,h10⟩:=zaa.1 h8;obtain ⟨⟨vs,w3,bs⟩,h11,h12⟩:=zaa.1 h10;simp at h12
      obtain ⟨rfl,rfl,rfl⟩:=h12;have:=zcw h9
      subst this;have hT:=qan (zah.1 h3);subst hT;have hbb:=hB b;rw [hfs]at hbb;obtain ⟨g,cs,e1,e2,e3,e4⟩:=hbb;have hx:=zou h1;subst hx;obtain ⟨g',r1,r2⟩:=hv.1;rw [e1]at r1;simp at r1;subst r1
      obtain ⟨f1,f2,f3⟩:=zmu hB h5 h7 e3;obtain ⟨i1,i2⟩:=zlz hB h11 hv.2;refine ⟨fun p hp hne=>?_,fun k=>?_⟩
      . rcases qas.1 hp with rfl | hp
        . exact absurd rfl hne
        rcases qak.1 hp with hp | hp
        . exact absurd (f2 p hp) hne
        . rcases qak.1 hp with hp | hp
          . exact f1 p hp
          . exact i1 p hp hne
      . obtain ⟨p1,p2,p3,p4,p5⟩:=f3 (k+1);obtain ⟨V,K,m1,m2,m3,m4,m5⟩:=i2 (ownL (flat t v) os (k+1)).2.2;have hge:=zjO (ps:=ps) (d:=vs) (k:=(ownL (flat t v) os (k+1)).2.2)
        have hp0:Pairs fs env [(k,val)] [(b,k)] [some b] [k] k:=by
         refine ⟨fun p hp=>?_,fun n b' hb=>?_,fun p hp=>?_,fun p hp=>?_⟩
         . simp at hp;subst hp;exact ⟨val,by simp,by rw [r2];exact e1⟩
         . cases n with
           | zero=>simp at hb;subst hb;simp
           | succ n=>simp at hb
         . simp at hp;subst hp;simp
         . simp at hp;subst hp;exact .inr ⟨by simp,_,_,hfs⟩
        refine ⟨[(k,val)]++((outV ys os cs.toList (k+1)).1++V),[(b,k)]++((outV ys os cs.toList (k+1)).2.1++K),?_,?_,?_,?_,fun ns ok' ec oc hns hto ho=>?_⟩
        . rw [qa2,qa2,p2,m1];simp only [entO];rw [show (entO ps vs (ownL (flat t v) os (k+1)).2.2).2.2-k=1+(((ownL (flat t v) os (k+1)).2.2-(k+1))+((entO ps vs (ownL (flat t v) os (k+1)).2.2).2.2-(ownL (flat t v) os (k+1)).2.2)) by omega,<-qbW,<-qbW]
          congr 3
          omega
        . rw [qaJ,qaD];show _=(entO ps vs (ownL (flat t v) os (k+1)).2.2).2.2
          omega
        . rw [qa2,qa2,p4,m3,zaL,zar,zar (a:=w2),zdE f1,qaS];rfl
        . refine hp0.app (b1:=[some b]) (s2:=zdu ps vs (ownL (flat t v) os (k+1)).2.2) ?_ (by simp [zdu]) (fun n hn=>qaF _ hn)
          exact p1.app (by rw [p3];exact m4) (by simp) (fun n hn=>hn)
        . obtain ⟨j1,j2⟩:=m5 ns ok' ec oc (fun p hp=>hns p (qaF _ (qay _ (qay _ hp)))) hto ho.right.right
          obtain ⟨l1,l2⟩:=p5 ns ok' ec oc (fun p hp=>hns p (qaF _ (qay _ (qaG _ hp))) (zpY f1 p hp)) hto (ho.right.left.le fun _ _=>trivial)
          have hec:=ho.left.val (k,val) (by simp)
          simp only at hec
          rw [r2]at hec;have hoc:=ho.left.row (b,k) (by simp) g e4 trivial ⟨_,hec,rfl⟩
          simp only [entO];refine ⟨⟨⟨g,hec,r2⟩,j1⟩,fun p hp=>?_⟩
          rcases qas.1 hp with rfl | hp
          . exact ⟨g,cs,hec,e2,l1,hoc⟩
          rcases qak.1 hp with hp | hp
          . exact (l2 p hp).conv (fun _ _ _=>trivial) (fun c hc _=>⟨hc,rfl⟩) (fun _ _ h=>h) fun g hg=>⟨hg,rfl⟩
          . exact j2 p hp
    . simp [T.evs]at h4
  . simp [T.evs]at h2
 | [],_::_,_,_,_,_,h,_=>by simp [zjK,T.evs]at h
 | .val _ _::_,[],_,_,_,_,h,_=>by simp [zjK,T.evs]at h
 | .kep _ _::_,[],_,_,_,_,h,_=>by simp [zjK,T.evs]at h
 | .ptr _ _ _::_,[],_,_,_,_,h,_=>by simp [zjK,T.evs]at h
 | .val _ _::_,_::_,[],_,_,_,_,hv=>hv.elim
 | .kep _ _::_,_::_,[],_,_,_,_,hv=>hv.elim
 | .ptr _ _ _::_,_::_,[],_,_,_,_,hv=>hv.elim
 | [],[],_::_,_,_,_,_,hv=>hv.elim
theorem zxK{ow:Ws}{back:List (Option Nat)}{p:Nat×Cell}(h:p∈outsO ow back):∃ k,(k,p.2)∈ow/\back.getD k none=some p.1:=by
 obtain ⟨q,hq,he⟩:=qbO.1 h;split at he
 . rename_i b hb;simp at he
   subst he;exact ⟨q.1,hq,hb⟩
 . cases he
theorem EntryO.Sound.ent{E:EntryO}(hE:E.Sound P):E.ent.Sound P:=by
 intro cx fs w env own N avs vals nm r hw hb hav hn h;obtain ⟨⟨d,ws,back⟩,h1,h2⟩:=zaa.1 (show (E.G avs nm).evs fs=some r from h)
 obtain ⟨_,h3,h4⟩:=zaa.1 h2;have hout:=zjv (zah.1 h3);simp only [T.evs]at h4;cases hF:E.F d with
 | none=>simp [hF]at h4
 | some q=>
 simp only [hF,qaa]at h4;cases hk:Nat.ble (endN E d q nm) (nm+64) with
 | false=>simp [hk,T.evs]at h4
 | true=>
 simp only [hk,qah,T.evs,Option.some.injEq]at h4;have hk:=qa5 hk;obtain ⟨hlive,hfr⟩:=zlz hb h1 hav;obtain ⟨V,K,hV,hbl,hK,hP,hrest⟩:=hfr 0;let envC:Nm:=lk V
 let ownC:Ow:=fun c=>match (own c).bind (lk K) with
  | some k=>if (envC k).bind blkV=some c then some k else none
  | none=>none
 let ns:List Nat:=ws.filterMap fun p=>if p.2.live then some p.1 else none
 have hlv:∀ c:Cell,c≠.no->c.live=true:=fun c hc=>by cases c <;> first | rfl | exact absurd rfl hc
 have hns:∀ p∈ws,p.2≠.no->p.1∈ns:=fun p hp hne=>qbO.2 ⟨p,hp,by rw [if_pos (hlv _ hne)]⟩
 have hns':∀ b∈ns,∃ p∈ws,p.1=b/\p.2≠.no:=fun b hb=>by
  obtain ⟨p,hp,he⟩:=qbO.1 hb;split at he
  . rename_i hl;simp only [Option.some.injEq]at he;exact ⟨p,hp,he,fun h0=>by rw [h0]at hl;cases hl⟩
  . cases he
 have hKn:(K.map (·.1)).Nodup:=by rw [hK];exact hout.1
 have hVn:(V.map (·.1)).Nodup:=by rw [hV];exact List.nodup_range'
 have hnsK:∀ b∈ns,lk K b=none:=fun b hb=>zjI fun v hv=>by
  obtain ⟨p,hp,rfl,hne⟩:=hns' b hb;refine hout.2 p hp hne ?_;rw [<-hK];exact qav.2 ⟨_,hv,rfl⟩
 have hoc:∀ c k,ownC c=some k->∃ b v,own c=some b/\(b,k)∈K/\envC k=some v/\env b=some v/\blkV v=some c:=by
  intro c k hc;simp only [ownC]at hc;cases ho:own c with
  | none=>simp [ho]at hc
  | some b=>
   simp only [ho,qaa]at hc;cases hl:lk K b with
   | none=>simp [hl]at hc
   | some k'=>
    simp only [hl]at hc;split at hc
    . rename_i hv;simp only [Option.some.injEq]at hc;subst hc;have hm:=zmt hl;obtain ⟨v,hv1,hv2⟩:=hP.val (b,k') hm;have he:envC k'=some v:=zk3 hVn hv1
      rw [he]at hv;exact ⟨b,v,rfl,hm,he,hv2,by simpa using hv⟩
    . cases hc
 have hto:To cx w own ns (cx.ok (unown own ns)):=⟨fun _ h=>h⟩
 have houts:Outs own (fun _=>True) V K envC ownC:=⟨fun p hp=>zk3 hVn hp,fun p hp g hg _ hv=>by
  obtain ⟨v,hv1,hv2⟩:=hv;have:lk K p.1=some p.2:=zk3 hKn hp
  simp only [ownC,hg,qaa,this,hv1,hv2,if_true]⟩
 obtain ⟨a1,a2⟩:=hrest ns _ envC ownC hns hto houts;have hC0:∀ c,own c=none->ownC c=none:=fun c hc=>by simp only [ownC,hc,Option.bind_none]
 have hCf:∀ c,unown own ns c=none->ownC c=none:=fun c hc=>by
  cases ho:own c with
  | none=>exact hC0 c ho
  | some b=>
   by_cases hm:b∈ns
   . simp only [ownC,ho,qaa,hnsK b hm]
   . rw [zbu ho hm]at hc;cases hc
 have hCl:∀ c,ownC c≠none->c<w.heap.size:=fun c hc=>by
  cases hk':ownC c with
  | none=>exact absurd hk' hc
  | some k=>obtain ⟨b,v,e1,_⟩:=hoc c k hk';exact hw.lt e1
 have harg:ArgsO E.ps d w (okIn cx (unown own ns) w) envC ownC vals:=by
  refine ⟨fun c hc=>⟨hc.2,hCf c hc.1.1⟩,hCl,fun c k hc=>?_,fun b hbn=>?_,a1.mono fun a v hh=>hh.mono (fun c hc hl=>⟨⟨hc,hl⟩,rfl⟩) (fun _ _ h=>h),fun p hp=>(a2 p hp).conv (fun _ _ h=>h) (fun c hc hl=>⟨⟨hc,hl⟩,rfl⟩) (fun _ _ h=>h) fun g hg=>⟨hg,rfl⟩⟩
  . obtain ⟨b,v,_,_,e3,_,e5⟩:=hoc c k hc;exact ⟨v,e3,e5⟩
  . cases hl:lk V b with
    | none=>exact absurd hl hbn
    | some v=>
     have:b∈V.map (·.1):=qav.2 ⟨_,zmt hl,rfl⟩
     rw [hV]at this;have:=qb1.1 this
     omega
 have hcall:=hE w _ d vals envC ownC q harg hF nm;refine hcall.mono ?_;rintro e w' ⟨vals',ec,oc,rfl,hr⟩;subst h4;let own':Ow:=fun c=>match oc c with
  | some x=>some x
  | none=>cond (ze9 E.ps d ownC c).isSome (own c) (cond (ownC c).isSome none (unown own ns c))
 have hst:∀ c k,ze9 E.ps d ownC c=some k->ownC c=some k/\k∈zdu E.ps d 0:=fun c k h=>by
  unfold ze9 at h;cases ho:ownC c with
  | none=>simp [ho]at h
  | some k'=>
   simp only [ho]at h;cases hc:(zdu E.ps d 0).contains k' with
   | false=>rw [hc]at h;cases h
   | true=>
    simp only [hc,qah,Option.some.injEq]at h;subst h;exact ⟨rfl,qcA.1 hc⟩
 have hs0:∀ c,ownC c=none->ze9 E.ps d ownC c=none:=fun c hc=>by simp only [ze9,hc]
 have hO:∀ c,c<w.heap.size->ownC c=none->oc c=none/\own' c=unown own ns c:=fun c hc h0=>by
  have:oc c=none:=by
   cases ho:oc c with
   | none=>rfl
   | some x=>
    rcases (hr.owns c (by simp [ho])).2 with h | h
    . omega
    . exact absurd h0 h
  refine ⟨this,?_⟩;simp only [own',this,hs0 c h0,h0,Option.isSome_none,qaf]
 have hlowK:∀ c,ownC c≠none->ze9 E.ps d ownC c=none->cx.low c:=by
  intro c hc hs;cases hk':ownC c with
  | none=>exact absurd hk' hc
  | some k=>
   obtain ⟨b,v,e1,e2,e3,e4,e5⟩:=hoc c k hk';rcases hP.cell (b,k) e2 with ⟨T,e,l,hfs⟩ | ⟨hst',_⟩
   . have hbb:=hb b;simp only at hfs
     rw [hfs]at hbb;obtain ⟨v',q1,q2⟩:=hbb;rw [e4]at q1;simp at q1;subst q1
     rcases q2 with ⟨rfl,_⟩ | ⟨g,cap,cur,rfl,_,_,_,_,_,q5,_⟩
     . simp [blkV]at e5
     . simp [blkV]at e5;subst e5;exact (q5 rfl).2
   . unfold ze9 at hs;rw [hk']at hs;simp only [qcA.2 hst',qah]at hs;cases hs
 have hec:∀ b,N b->ec b=none:=fun b hbN=>by
  cases h:ec b with
  | none=>rfl
  | some x=>have:=hr.envs b (by simp [h]);exact absurd hbN (hn b this.1 (by omega))
 have henv:∀ b x,env b=some x->env2 ec env b=some x:=fun b x hx=>by
  simp only [env2,hec b (hw.names b (by simp [hx])),hx]
 have henvc:∀ b x,ec b=some x->env2 ec env b=some x:=fun b x hx=>by simp only [env2,hx]
 have hext:Ext cx w env own w' (env2 ec env) own':=by
  refine ⟨fun c hc hlt=>?_,henv⟩
  have h0:=hC0 c hc.1;exact ⟨⟨by rw [(hO c hlt h0).2];exact zaK hc.1,hc.2⟩,hr.old c hlt h0⟩
 have hconv:∀ c,okO E.ps d w (okIn cx (unown own ns) w) ownC oc c->cx.ok own' c:=by
  rintro c ⟨c1,c2,c3⟩;refine ⟨?_,?_⟩
  . simp only [own',c1,c2,Option.isSome_none,qaf];cases ho:ownC c with
    | some k=>rfl
    | none=>
     simp only [Option.isSome_none,qaf];rcases c3 with h | h | h
     . exact h.1.1
     . exact zaK (hw.new c h)
     . exact absurd ho h
  . rcases c3 with h | h | h
    . exact h.1.2
    . have:=hw.size;exact .inr (.inl (by omega))
    . exact .inr (hlowK c h c2)
 have hocl:∀ c,w'.heap.size<=c->own' c=none:=fun c hc=>by
  have hsz:=hr.size;have h1:oc c=none:=by
   cases ho:oc c with
   | none=>rfl
   | some x=>have:=(hr.owns c (by simp [ho])).1;omega
  have h2:ownC c=none:=by
   cases ho:ownC c with
   | none=>rfl
   | some x=>have:=hCl c (by simp [ho]);omega
  simp only [own',h1,hs0 c h2,h2,Option.isSome_none,qaf];exact zaK (hw.new c (by omega))
 refine ⟨_,_,env2 ec env,own',rfl,rfl,zpr (hr.res.mono fun _ _=>A1R.mono (fun c hc _=>⟨hconv c hc,rfl⟩) henvc),⟨⟨hr.os.trans hw.os,hr.tape.trans hw.tape,hr.output.trans hw.output,qaA hw.size hr.size,fun c h1 h2=>?_,hocl,fun b h=>?_,fun b v hb=>henv b v (hw.fix b v hb)⟩,fun b=>?_,hext,hr.size⟩⟩
 . have h3:=hw.old c h1 h2;have hlt:c<w.heap.size:=by have:=hw.size;omega
   have h0:=hC0 c h3.1;exact ⟨by rw [(hO c hlt h0).2];exact zaK h3.1,(hr.old c hlt h0).trans h3.2⟩
 . by_cases h':ec b=none
   . simp only [env2,h']at h;exact .inl (hw.names b h)
   . have:=hr.envs b h'
     exact .inr ⟨this.1,by omega⟩
 . by_cases hbm:∃ p∈outsO (outO E.ps d q.2 0 (resL E.rs q.1 nm).2.2).1 back++((resL E.rs q.1 nm).2.1++((outO E.ps d q.2 0 (resL E.rs q.1 nm).2.2).2.1++ws)),p.1=b
   . obtain ⟨c,hc,he⟩:=zsQ (fs:=fs) hbm
     rw [he];have hrow:∀ p∈(resL E.rs q.1 nm).2.1++(outO E.ps d q.2 0 (resL E.rs q.1 nm).2.2).2.1,za9 cx.low w'.heap (cx.ok own') (env2 ec env) own' p.1 p.2:=fun p hp=>by
      refine (hr.rows p hp).conv (fun g hg hB=>?_) (fun c hc _=>⟨hconv c hc,rfl⟩) henvc fun g hg=>⟨by simp only [own',hg],rfl⟩
      rcases hB with h | h
      . exact .inl (qaA hw.size h)
      . refine hlowK g h ?_;cases hs:ze9 E.ps d ownC g with
        | none=>rfl
        | some k=>have:=hr.stay g (by simp [hs]);rw [hg]at this;cases this
     rcases qak.1 hc with hc | hc
     . obtain ⟨k,hk1,hk2⟩:=zxK hc;have hm:(b,k)∈K:=by
        have:back[k]?=some (some b):=by
         rw [qax]at hk2;cases hq:back[k]? with
         | none=>simp [hq]at hk2
         | some z=>simp [hq]at hk2;rw [hk2]
        have:=hP.back k b this
        simpa using this
       obtain ⟨v,hv1,hv2⟩:=hP.val (b,k) hm;have hvC:envC k=some v:=zk3 hVn hv1
       have hsto:∀ g,ze9 E.ps d ownC g=some k->own' g=some b/\own g=some b:=fun g hg=>by
        obtain ⟨s1,s2⟩:=hst g k hg;obtain ⟨b',v',e1,e2,_⟩:=hoc g k s1;have r1:=(hP.ofK (b,k) hm).2;have r2:=(hP.ofK (b',k) e2).2;simp only at r1 r2
        rw [r1]at r2;simp at r2;subst r2
        refine ⟨?_,e1⟩;simp only [own',hr.stay g (by simp [hg]),hg,Option.isSome_some,qah,e1]
       have hcell:=hr.outs _ hk1;simp only at hcell
       cases c with
       | box T xs=>
        obtain ⟨g,cs,e1,e2,e3,e4⟩:=hcell;rw [hvC]at e1;simp at e1;subst e1
        exact ⟨g,cs,henv _ _ hv2,e3,e4.mono fun _ _=>LfR.mono (fun c hc _=>⟨hconv c hc,rfl⟩) henvc,(hsto g e2).1⟩
       | arr m T e l=>
        obtain ⟨v',e1,e2⟩:=hcell;rw [hvC]at e1;simp at e1;subst e1
        refine ⟨v,henv _ _ hv2,e2.imp id ?_⟩;rintro ⟨g,cap,cur,rfl,hg,q1,q2,q3,q4,q5,q6⟩;refine ⟨g,cap,cur,rfl,hg,q1,q2,q3,fun i hi=>(q4 i hi).mono fun c hc _=>⟨hconv c hc,rfl⟩,fun hm'=>⟨(hsto g (q5 hm').1).1,?_⟩,fun hm'=>hconv g (q6 hm')⟩
        have ho:=(hsto g (q5 hm').1).2;rcases hP.cell (b,k) hm with ⟨T2,e2',l2,hfs⟩ | ⟨_,T2,xs2,hfs⟩
        . have hbb:=hb b;simp only at hfs
          rw [hfs]at hbb;obtain ⟨v2,z1,z2⟩:=hbb;rw [hv2]at z1;simp at z1;subst z1
          rcases z2 with ⟨z3,_⟩ | ⟨g2,cap2,cur2,z3,_,_,_,_,_,z5,_⟩
          . cases z3
          . simp at z3;obtain ⟨rfl,_⟩:=z3;exact (z5 rfl).2
        . have hbb:=hb b;simp only at hfs
          rw [hfs]at hbb;obtain ⟨g2,cs2,z1,_⟩:=hbb;rw [hv2]at z1;cases z1
       | _=>exact hcell.elim
     rcases qak.1 hc with hc | hc
     . exact hrow _ (qaG _ hc)
     rcases qak.1 hc with hc | hc
     . exact hrow _ (qay _ hc)
     . by_cases hno:c = .no
       . subst hno;trivial
       . obtain ⟨m,T,e,l,z1,z2⟩:=hlive _ hc hno;simp only at z1 z2
         subst z2;have hbns:=hns _ hc hno;simp only at hbns
         have hbb:=hb b;rw [z1]at hbb;obtain ⟨v,hv,hrr⟩:=hbb;refine ⟨v,henv _ _ hv,hrr.imp id ?_⟩;rintro ⟨g,cap,cur,rfl,hg,q1,q2,q3,q4,q5,q6⟩;have hlt:=(qaL.1 hg).1;have hgC:ownC g=none/\cx.ok (unown own ns) g:=by
          cases m with
          | true=>exact ⟨hCf g (zdt (q5 rfl).1 hbns),zdt (q5 rfl).1 hbns,.inr (q5 rfl).2⟩
          | false=>exact ⟨hC0 g (q6 rfl).1,zdw (q6 rfl)⟩
         refine ⟨g,cap,cur,rfl,by rw [hr.old g hlt hgC.1];exact hg,q1,q2,q3,fun i hi=>(q4 i hi).mono hext.heap,(fun h=>by cases h),fun _=>⟨by rw [(hO g hlt hgC.1).2];exact hgC.2.1,hgC.2.2⟩⟩
   . rw [zlL fun p hp he=>hbm ⟨p,hp,he⟩]
     refine (hb b).ext hext fun g hg=>?_
     have hlt:=hw.lt hg;have hbw:∀ p∈ws,p.1≠b:=fun p hp he=>hbm ⟨p,qay _ (qay _ (qay _ hp)),he⟩
     have hbK:lk K b=none:=zjI fun v hv=>by
      have:b∈zaL ws:=by rw [<-hK];exact qav.2 ⟨_,hv,rfl⟩
      exact hbw _ (zbM.1 this) rfl
     have h0:ownC g=none:=by simp only [ownC,hg,qaa,hbK]
     refine ⟨?_,hr.old g hlt h0⟩;rw [(hO g hlt h0).2];exact zbu hg fun hm=>by
      obtain ⟨p,hp,he,_⟩:=hns' b hm;exact hbw p hp he
theorem Tbl.sound_consO{E:EntryO}{tbl:Tbl}(h1:zbZ P E.f)(h2:E.Sound P)(h3:tbl.Sound P):Tbl.Sound P (E.ent::tbl):=by
 intro X hX;rcases qas.1 hX with rfl | hX
 . exact ⟨h1,h2.ent⟩
 . exact h3 X hX
end
end Go.VI
namespace Go.VI
open Go Go.RowKit
theorem ent_okO{P:Program}{te:TE}{tbl:Tbl}{ann:Ann}(ht:TEok P te)(hmix:P.follows .mixedOrders=true)(hT:tbl.Sound P){fn:Func}{f k:Nat}{ps:List OP}{rs:List RTy}(hf:P.funcs[f]?=some fn)(hk:okF fn ps.length k=true)
 {F:OPden ps->Option (Rden rs×OOden ps)} (hF:F=fun d=>(funO te tbl ann k (zcE fn) fn.results.toList ps rs d).ev) (hA:ann.Sound P):zbZ P f/\(⟨f,ps,rs,F⟩:EntryO).Sound P:=by
 simp only [okF,qae,qar]at hk;obtain ⟨⟨⟨h1,h2⟩,h3⟩,h4⟩:=hk;obtain ⟨c,hc⟩:=Option.isSome_iff_exists.1 h2;have h3:=qan h3;subst h3;have hb:zcE fn=c:=by simp [zcE,hc]
 refine ⟨fun args w=>?_,zvY (ann:=ann) ht hT hA hmix ⟨f,ps,rs,F⟩ hf hc (qa5 h4) fun d r h=>?_⟩
 . simp only [qaI,ne_eq]at h1;simp [callFunc,hf,h1,hc]
 . subst hF;rw [hb]at h;exact h
end Go.VI
namespace Go.VI
open Go Go.RowKit
def wfD:(t:Ty)->t.den->Prop
 | .bool,_=>True
 | .int k,n=>(Lit.int k n).wf=true
 | .slice e,l=>l.length<=maxLen/\∀ y∈l,wfD e y
 | .prod a b,v=>wfD a v.1/\wfD b v.2
 | .unit,_=>True
 | .raw _,_=>False
 | .ifo _ _,_=>False
def zeE(P:Program)(c:TypeId->Ty->Bool):List Field->Nat->Ty->Bool
 | [],_,.unit=>true
 | f::fs,off,.prod a b=>Nat.beq f.offset off&&Nat.beq (P.cellsOf f.type) a.size&&c f.type a&&zeE P c fs (off+a.size) b
 | _,_,_=>false
def zeF(P:Program):Nat->TypeId->Ty->Bool
 | 0,_,_=>false
 | _+1,t,.bool=>match P.underlying t with
  | some .bool=>true
  | _=>false
 | _+1,t,.int k=>match P.underlying t with
  | some (.int k')=>decide (k'=k)
  | _=>false
 | d+1,t,.slice e=>match P.underlying t with
  | some (.slice u)=>Nat.beq (P.cellsOf u) e.size&&Nat.blt 0 e.size&&zeF P d u e
  | _=>false
 | d+1,t,ty=>match P.underlying t with
  | some (.struct fs)=>Nat.beq (P.cellsOf t) ty.size&&zeE P (zeF P d) fs.toList 0 ty
  | _=>false
section
variable {H:Type} {enc:TypeId×Value->H} {P:Program} {w:World} {spare:Nat->Bool} {held:Bool}
def Reads(P:Program)(enc:TypeId×Value->H)(w:World)(spare:Nat->Bool)(held:Bool)(t:TypeId)(ty:Ty):Prop :=
 ∀ n cs x,DataW.trod enc P w 0 spare held n t cs=some x->∃ v:ty.den,Fits w.heap (fun c=>c<w.heap.size) ty v cs/\wfD ty v
theorem zvk{a:Addr}{n:Nat}{cs:List Value}(h:w.cells? 0 a n=some cs)(hn:0<n):a.spot=none/\∃ cur T fz,w.heap[a.block]?=some (.cells cur T fz)/\a.off+n<=cur.size/\cs=(cur.toList.drop a.off).take n:=by
 unfold World.cells? at h
 rw [if_pos (qbe _)]at h;have hlen:=mapM_some_length h;have hget:=fun (i:Nat) (hi:i<n)=>mapM_some_get h i i (by simp [hi])
 simp at hlen
 have h0:=hget 0 hn;have hs0:∃ v,cs[0]?=some v:=⟨cs[0]'(by omega),qaq _⟩
 obtain ⟨v0,hv0⟩:=hs0;rw [hv0]at h0;obtain ⟨ab,ao,as⟩:=a;unfold World.cell? at h0
 cases hh:w.heap[ab]? with
 | none=>simp [Addr.add,hh]at h0
 | some o=>
  cases o with
  | cells cur T fz=>
   have hsp:as=none:=by
    cases as with
    | none=>rfl
    | some s=>simp [Addr.add,hh]at h0
   subst hsp;refine ⟨rfl,cur,T,fz,rfl,?_,?_⟩
   . have hl:=hget (n-1) (by omega)
     have:∃ v,cs[n-1]?=some v:=⟨cs[n-1]'(by omega),qaq _⟩
     obtain ⟨v,hv⟩:=this;rw [hv,Addr.add_lit]at hl;simp [World.cell?,hh]at hl
     have:=(qaL.1 hl).1
     simp only
     omega
   . apply qbw
     intro i;by_cases hi:i<n
     . have:=hget i hi
       rw [Addr.add_lit]at this;simp [World.cell?,hh]at this
       rw [<-this,qa7,if_pos hi];simp
     . rw [qbV (by omega),qbV (by simp;omega)]
  | _=>simp [Addr.add,hh]at h0
theorem zpj{c:TypeId->Ty->Bool}(hc:∀ t ty,c t ty=true->Reads P enc w spare held t ty):∀ (fs:List Field) (off:Nat) (ty:Ty) (n:Nat) (cs:List Value),zeE P c fs off ty=true->cs.length=off+ty.size ->
 (∀ (i:Nat) (f:Field),fs[i]?=some f->∃ x,DataW.trod enc P w 0 spare held n f.type ((cs.drop f.offset).take (P.cellsOf f.type))=some x)->∃ v:ty.den,Fits w.heap (fun c=>c<w.heap.size) ty v (cs.drop off)/\wfD ty v
 | [],off,.unit,n,cs,_,hl,_=>⟨(),by simp only [Ty.size]at hl;simp [Fits];omega,trivial⟩
 | f::fs,off,.prod a b,n,cs,h,hl,hx=>by
  simp only [zeE,qae]at h;obtain ⟨⟨⟨h1,h2⟩,h3⟩,h4⟩:=h;have h1:=qan h1;have h2:=qan h2;simp only [Ty.size]at hl;obtain ⟨x,hx0⟩:=hx 0 f rfl;obtain ⟨v1,f1,w1⟩:=hc f.type a h3 n _ _ hx0;rw [h1,h2]at f1;obtain ⟨v2,f2,w2⟩:=zpj hc fs (off+a.size) b n cs h4 (by omega) fun i g hg=>hx (i+1) g (by simpa using hg)
  refine ⟨(v1,v2),⟨_,_,?_,f1,f2⟩,w1,w2⟩;rw [<-qbu,qcm]
 | [],_,.prod _ _,_,_,h,_,_=>by simp [zeE]at h
 | [],_,.bool,_,_,h,_,_=>by simp [zeE]at h
 | [],_,.int _,_,_,h,_,_=>by simp [zeE]at h
 | [],_,.slice _,_,_,h,_,_=>by simp [zeE]at h
 | _::_,_,.unit,_,_,h,_,_=>by simp [zeE]at h
 | _::_,_,.bool,_,_,h,_,_=>by simp [zeE]at h
 | _::_,_,.int _,_,_,h,_,_=>by simp [zeE]at h
 | _::_,_,.slice _,_,_,h,_,_=>by simp [zeE]at h
 | [],_,.raw _,_,_,h,_,_=>by simp [zeE]at h
 | _::_,_,.raw _,_,_,h,_,_=>by simp [zeE]at h
 | [],_,.ifo _ _,_,_,h,_,_=>by simp [zeE]at h
 | _::_,_,.ifo _ _,_,_,h,_,_=>by simp [zeE]at h
theorem zrJ{α:Type}{Q:Nat->α->Prop}:∀ (n:Nat),(∀ i,i<n->∃ x,Q i x)->∃ l:List α,l.length=n/\∀ i (hi:i<l.length),Q i l[i]
 | 0,_=>⟨[],rfl,fun i hi=>by simp at hi⟩
 | n+1,h=>by
  obtain ⟨l,hl,hq⟩:=zrJ n fun i hi=>h i (by omega)
  obtain ⟨x,hx⟩:=h n (by omega)
  refine ⟨l++[x],by simp [hl],fun i hi=>?_⟩
  by_cases hin:i<l.length
  . rw [qcz hin];exact hq i hin
  . have:i=l.length:=by simp at hi;omega
    subst this;have e1:(l++[x])[l.length]'hi=x:=by simp
    rw [e1,hl];exact hx
theorem read_ok:∀ (d:Nat) (t:TypeId) (ty:Ty),zeF P d t ty=true->Reads P enc w spare held t ty
 | 0,_,_,h=>by simp [zeF]at h
 | d+1,t,.raw k,h=>fun n cs x hx=>by
  simp only [zeF]at h;split at h
  . rename_i fs hu;simp only [qae]at h;have h2:=h.2;cases hfs:fs.toList <;> (rw [hfs]at h2;simp [zeE]at h2)
  . cases h
 | d+1,t,.ifo k s,h=>fun n cs x hx=>by
  simp only [zeF]at h;split at h
  . rename_i fs hu;simp only [qae]at h;have h2:=h.2;cases hfs:fs.toList <;> (rw [hfs]at h2;simp [zeE]at h2)
  . cases h
 | d+1,t,.bool,h=>fun n cs x hx=>by
  simp only [zeF]at h;split at h
  . rename_i hu;obtain ⟨b,rfl,_⟩:=DataW.trod_bool hu hx;exact ⟨b,rfl,trivial⟩
  . cases h
 | d+1,t,.int k,h=>fun n cs x hx=>by
  simp only [zeF]at h;split at h
  . rename_i k' hu
    have:=qat h
    subst this;obtain ⟨m,rfl,_,hw⟩:=DataW.trod_int hu hx;exact ⟨m,rfl,hw⟩
  . cases h
 | d+1,t,.slice e,h=>fun n cs x hx=>by
  simp only [zeF]at h;split at h
  . rename_i u hu;simp only [qae]at h;obtain ⟨⟨h1,h2⟩,h3⟩:=h;have h1:=qan h1;simp only [Nat.blt_eq]at h2;have ih:=read_ok d u e h3;rcases DataW.trod_slice hu hx with ⟨rfl,_⟩ | ⟨a,len,cap,elems,rest,m,_,rfl,_,_,hl,hc,hlen,hel,_⟩
    . exact ⟨([]:List e.den),⟨none,0,rfl,fun _=>rfl,by simp,by simp⟩,by simp [maxLen],by simp⟩
    . rw [h1]at hel;have hsp:0<len->a.spot=none:=fun h0=>by
       have:=hel 0 h0
       rw [Nat.zero_mul,show a.add 0=a by simp [Addr.add]]at this
       have hsome:∃ y,elems[0]?=some y:=⟨elems[0]'(by omega),qaq _⟩
       obtain ⟨y,hy⟩:=hsome;rw [hy]at this;obtain ⟨cs',q1,_⟩:=qbt.1 this;exact (zvk q1 h2).1
      obtain ⟨l,hll,hq⟩:=zrJ (α:=e.den) (Q:=fun i (v:e.den)=>(a.spot=none/\a.block<w.heap.size/\∃ cur T fz,w.heap[a.block]?=some (.cells cur T fz)/\a.off+(i+1)*e.size<=cur.size/\Fits w.heap (fun c=>c<w.heap.size) e v ((cur.toList.drop (a.off+i*e.size)).take e.size))/\wfD e v) len fun i hi=>by
       have:=hel i hi
       have hsome:∃ y,elems[i]?=some y:=⟨elems[i]'(by omega),qaq _⟩
       obtain ⟨y,hy⟩:=hsome;rw [hy]at this;obtain ⟨cs',q1,q2⟩:=qbt.1 this;obtain ⟨s1,cur,T,fz,s2,s3,s4⟩:=zvk q1 h2;obtain ⟨v,f1,w1⟩:=ih m cs' y q2;obtain ⟨ab,ao,asp⟩:=a;have hasp:asp=none:=hsp (by omega)
       subst hasp;rw [Addr.add_lit]at s2 s3 s4;simp only at s2 s3 s4
       refine ⟨v,⟨rfl,(qaL.1 s2).1,cur,T,fz,s2,?_,?_⟩,w1⟩
       . rw [qaO,qa6,<-Nat.add_assoc];exact s3
       . rw [<-s4];exact f1
      refine ⟨l,⟨some a,cap,by rw [hll],by simp,fun y hy hne=>?_,by omega⟩,by omega,fun y hy=>?_⟩
      . simp at hy;subst hy
        have hpos:0<l.length:=List.length_pos_iff.2 hne;obtain ⟨⟨s1,s2,cur,T,fz,s3,_,_⟩,_⟩:=hq (l.length-1) (by omega)
        refine ⟨s1,s2,cur,T,fz,s3,?_,fun i hi=>?_⟩
        . obtain ⟨⟨_,_,cur',_,_,s3',s4',_⟩,_⟩:=hq (l.length-1) (by omega)
          rw [s3]at s3';cases s3'
          rwa [Nat.sub_add_cancel hpos]at s4'
        . obtain ⟨⟨_,_,cur',_,_,s3',_,s5⟩,_⟩:=hq i hi;rw [s3]at s3';cases s3'
          exact s5
      . obtain ⟨i,hi,rfl⟩:=List.getElem_of_mem hy;exact (hq i hi).2
  . cases h
 | d+1,t,.prod a b,h=>fun n cs x hx=>by
  simp only [zeF]at h;split at h
  . rename_i fs hu;simp only [qae]at h;obtain ⟨xs,m,_,_,hl,hlen,hf⟩:=DataW.trod_struct hu hx;have:=zpj (n:=m) (cs:=cs) (fun t ty h=>read_ok d t ty h) fs.toList 0 (.prod a b) h.2 (by rw [hl,qan h.1];simp) fun i f hf'=>by
     have:=hf i f (by simpa using hf')
     have hi:i<xs.length:=by rw [hlen];simpa using (qap.1 hf').1
     exact ⟨xs[i],by rw [this,qaq hi]⟩
    simpa using this
  . cases h
 | d+1,t,.unit,h=>fun n cs x hx=>by
  simp only [zeF]at h;split at h
  . rename_i fs hu;simp only [qae]at h;obtain ⟨xs,m,_,_,hl,hlen,hf⟩:=DataW.trod_struct hu hx;have:=zpj (n:=m) (cs:=cs) (fun t ty h=>read_ok d t ty h) fs.toList 0 .unit h.2 (by rw [hl,qan h.1];simp) fun i f hf'=>by
     have:=hf i f (by simpa using hf')
     have hi:i<xs.length:=by rw [hlen];simpa using (qap.1 hf').1
     exact ⟨xs[i],by rw [this,qaq hi]⟩
    simpa using this
  . cases h
end
end Go.VI
namespace Go.VI
open Go Go.RowKit Go.WideShapes
section
variable {H:Type} {enc:TypeId×Value->H} {P:Program} {w:World} {spare:Nat->Bool} {held:Bool}
def zt0(P:Program):List PTy->List TypeId->Bool
 | [],[]=>true
 | .val ty::ps,t::ts=>zeF P 30 t ty&&zt0 P ps ts
 | _,_=>false
def wfP:(ps:List PTy)->Pden ps->Prop
 | [],_=>True
 | .val t::ps,d=>wfD t d.1/\wfP ps d.2
 | .ptr _ t::ps,d=>wfD t d.1/\wfP ps d.2
theorem zvv{t:TypeId}{ty:Ty}{v:Value}{d:Nat}{r:Reach}{base:Nat}(hr:zeF P (d+1) t ty=true)(hv:Value.okWide P w r base t v):v=zaW ty v.cells.toList:=by
 cases ty with
 | bool=>
  simp only [zeF]at hr;split at hr
  . rename_i hu;obtain ⟨b,rfl⟩:=okWide_bool hu hv;rfl
  . cases hr
 | int k=>
  simp only [zeF]at hr;split at hr
  . rename_i hu;obtain ⟨b,rfl⟩:=okWide_int hu hv;rfl
  . cases hr
 | raw k=>
  simp only [zeF]at hr;split at hr
  . rename_i fs hu;simp only [qae]at hr;have h2:=hr.2;cases hfs:fs.toList <;> (rw [hfs]at h2;simp [zeE]at h2)
  . cases hr
 | ifo k s=>
  simp only [zeF]at hr;split at hr
  . rename_i fs hu;simp only [qae]at hr;have h2:=hr.2;cases hfs:fs.toList <;> (rw [hfs]at h2;simp [zeE]at h2)
  . cases hr
 | slice e=>
  simp only [zeF]at hr;split at hr
  . rename_i hu;obtain ⟨a,n,c,rfl⟩:=okWide_slice hu hv;rfl
  . cases hr
 | prod a b=>
  simp only [zeF]at hr;split at hr
  . rename_i hu;unfold Value.okWide at hv;rw [hu]at hv;obtain ⟨cs,rfl,_⟩:=hv;simp [zaW,Ty.isAgg,Value.cells]
  . cases hr
 | unit=>
  simp only [zeF]at hr;split at hr
  . rename_i hu;unfold Value.okWide at hv;rw [hu]at hv;obtain ⟨cs,rfl,_⟩:=hv;simp [zaW,Ty.isAgg,Value.cells]
  . cases hr
theorem zsi{r:Reach}{base:Nat}:∀ {ps:List PTy} {ts:List TypeId} {vs:List Value} {ds:List (DataW H)} {p:List MemPlace},zt0 P ps ts=true->DataW.TrodAll enc P w 0 spare held ts vs ds p ->
 (∀ (j:Nat) t v,ts[j]?=some t->vs[j]?=some v->Value.okWide P w r base t v)->∃ d:Pden ps,zdp w.heap (fun c=>c<w.heap.size) ps d vs []/\wfP ps d
 | [],[],[],_,_,_,_,_=>⟨(),trivial,trivial⟩
 | .val ty::ps,t::ts,v::vs,d::ds,p,hb,ht,hv=>by
  simp only [zt0,qae]at hb;obtain ⟨q1,q2,⟨n,h1⟩,h2,_⟩:=ht;obtain ⟨x,hx,hw⟩:=read_ok (enc:=enc) (w:=w) (spare:=spare) (held:=held) 30 t ty hb.1 n _ _ h1
  obtain ⟨xs,hxs,hws⟩:=zsi (ps:=ps) hb.2 h2 fun j t v a b=>hv (j+1) t v (by simpa using a) (by simpa using b)
  exact ⟨(x,xs),⟨⟨_,zvv hb.1 (hv 0 t v rfl rfl),hx⟩,hxs⟩,hw,hws⟩
 | .ptr _ _::_,_,_,_,_,hb,_,_=>by simp [zt0]at hb
 | .val _::_,[],_,_,_,hb,_,_=>by simp [zt0]at hb
 | [],_::_,_,_,_,hb,_,_=>by simp [zt0]at hb
 | [],[],_::_,_,_,_,ht,_=>by simp [DataW.TrodAll]at ht
 | .val _::_,_::_,[],_,_,_,ht,_=>by simp [DataW.TrodAll]at ht
 | .val _::_,_::_,_::_,[],_,_,ht,_=>by simp [DataW.TrodAll]at ht
theorem zkv:∀ {n:Nat} {vs:List Value},vs.length=n->zbA (List.replicate n .p) vs=vs
 | 0,[],_=>rfl
 | n+1,v::vs,h=>by simp [List.replicate_succ,zbA,zkv (n:=n) (vs:=vs) (by simpa using h)]
theorem law_ok{f:FuncId}{ps:List PTy}{F:Pden ps->Option (Rden [⟨.bool,[none],none⟩]×Oden ps)}{sh:List AP}(hsh:sh=List.replicate ps.length .p)(hs:(⟨f,sh,ps,[⟨.bool,[none],none⟩],F⟩:Entry).Sound P)(hF:∀ d,wfP ps d->∃ o,F d=some ((true,()),o))
 {ts:List TypeId} {vs:List Value} {ds:List (DataW H)} {p:List MemPlace} {r:Reach} {base:Nat} (hb:zt0 P ps ts=true) (ht:DataW.TrodAll enc P w 0 spare held ts vs ds p)
 (hv:∀ (j:Nat) t v,ts[j]?=some t->vs[j]?=some v->Value.okWide P w r base t v) :
 Calls P f vs.toArray w fun e w'=>e = .returned (.bool true)/\Below w.heap.size w w':=by
 obtain ⟨d,ha,hw⟩:=zsi hb ht hv;obtain ⟨o,ho⟩:=hF d hw;have hcall:=hs w _ d vs [] _ ha (fun _ h=>h) ho 0
 subst hsh;rw [show zbA (⟨f,List.replicate ps.length .p,ps,[⟨.bool,[none],none⟩],F⟩:Entry).sh vs=vs from zkv ha.lt.2]at hcall
 refine hcall.mono ?_;rintro e w' ⟨vals,env,own,rfl,hr⟩;have hres:=hr.res;simp only [resL,flat,ownL,Ty.isAgg,qaf]at hres;obtain ⟨v,rfl,hv⟩:=All2.one hres;simp only [A1R,LfR,Fits,List.cons.injEq,qbn]at hv;subst hv;exact ⟨rfl,hr.behind.os,hr.behind.tape,hr.behind.output,hr.behind.size,fun k hk=>hr.behind.old k hk (by simp)⟩
end
end Go.VI
