import Derived.Test.YtlkibcnhdjmfjaaGreatW02
import Derived.Laws.Cover3
import Derived.ChangeArms
import Derived.DataReads
import Derived.WideShapes
import Derived.RowKit2
set_option linter.unusedSimpArgs false
set_option linter.unusedVariables false
set_option maxRecDepth 100000
set_option maxHeartbeats 4000000
noncomputable section
namespace Go.VI
open Go Go.RowKit
theorem zvY{t:Ty}(h:t.isAgg=false):t.size=1:=by cases t <;> first | rfl | simp [Ty.isAgg]at h
theorem zaK:∀ {a b:Ws},za3 (a++b)=za3 a++za3 b
 | [],_=>rfl
 | (x,.no)::a,b=>by simp [za3,zaK (a:=a)]
 | (x,.av _)::a,b=>by simp [za3,zaK (a:=a)]
 | (x,.arr _ _ _ _)::a,b=>by simp [za3,zaK (a:=a)]
 | (x,.box _ _)::a,b=>by simp [za3,zaK (a:=a)]
 | (x,.ln _)::a,b=>by simp [za3,zaK (a:=a)]
 | (x,.rb _ _)::a,b=>by simp [za3,zaK (a:=a)]
theorem zmj{fs:FS}{a:Ws}(h:Frz fs a):za3 a=[]:=by
 induction a with
 | nil=>rfl
 | cons p a ih=>
  obtain ⟨x,c⟩:=p;obtain ⟨m,T,e,l,_,h2⟩:=h (x,c) (by simp)
  simp only at h2
  subst h2;exact ih fun p hp=>h p (qaH _ hp)
theorem zcb:∀ {a:Ws} {b:Nat},b∈za3 a↔(b,Cell.no)∈a
 | [],b=>by simp [za3]
 | (x,.no)::a,b=>by simp [za3,zcb (a:=a)]
 | (x,.av _)::a,b=>by simp [za3,zcb (a:=a)]
 | (x,.arr _ _ _ _)::a,b=>by simp [za3,zcb (a:=a)]
 | (x,.box _ _)::a,b=>by simp [za3,zcb (a:=a)]
 | (x,.ln _)::a,b=>by simp [za3,zcb (a:=a)]
 | (x,.rb _ _)::a,b=>by simp [za3,zcb (a:=a)]
theorem ztb{ws:Ws}(h:ztc ws=true):(za3 ws).Nodup/\∀ p∈ws,p.2≠.no->p.1 ∉ za3 ws:=by
 induction ws with
 | nil=>simp [za3]
 | cons p r ih=>
  obtain ⟨b,c⟩:=p;simp only [ztc,qae]at h;obtain ⟨h1,h2⟩:=ih h.2;cases hl:c.live with
  | false=>
   have hc:c = .no:=by cases c <;> simp_all [Cell.live]
   subst hc;have h3:=h.1;simp only [Cell.live,qag,qao,qbl]at h3;have hb:∀ p∈r,p.1≠b:=fun p hp he=>h3 p hp (by rw [he];exact Nat.beq_refl b)
   refine ⟨qbu.2 ⟨fun hm=>hb _ (zcb.1 hm) rfl,h1⟩,fun p hp hne hm=>?_⟩
   rcases qat.1 hp with rfl | hp
   · exact hne rfl
   · rcases qat.1 hm with he | hm
     · exact hb p hp he
     · exact h2 p hp hne hm
  | true=>
   have hs:za3 ((b,c)::r)=za3 r:=by cases c <;> first | rfl | simp [Cell.live]at hl
   have h3:=h.1;simp only [hl,qah,qaO]at h3;rw [hs];refine ⟨h1,fun p hp hne hm=>?_⟩
   rcases qat.1 hp with rfl | hp
   · have:=h3 _ (zcb.1 hm)
     simp [Cell.live]at this
   · exact h2 p hp hne hm
theorem zoV{fs:FS}:∀ {t:Ty} {zs:List Lf} {v:t.den} {rest:List Lf} {ws:Ws},(zbd true t zs).evs fs=some (v,rest,ws)->Frz fs ws:=by
 intro t;induction t with
 | bool=>
  intro zs v rest ws h;cases zs with
  | nil=>simp [zbd,T.evs]at h
  | cons x r=>obtain ⟨b,_,h2⟩:=zaa.1 h;simp at h2;obtain ⟨_,_,rfl⟩:=h2;exact Frz.nil
 | int k=>
  intro zs v rest ws h;cases zs with
  | nil=>simp [zbd,T.evs]at h
  | cons x r=>
   simp only [zbd]at h;split at h
   · obtain ⟨b,_,h2⟩:=zaa.1 h;simp at h2;obtain ⟨_,_,rfl⟩:=h2;exact Frz.nil
   · simp [T.evs]at h
 | ifo K t=>
  intro zs v rest ws h;cases zs with
  | nil=>simp [zbd,T.evs]at h
  | cons x r=>
   simp only [zbd]at h;split at h
   · obtain ⟨b,_,h2⟩:=zaa.1 h;simp at h2;obtain ⟨_,_,rfl⟩:=h2;exact Frz.nil
   · simp [T.evs]at h
 | raw k=>
  intro zs v rest ws h;cases zs with
  | nil=>simp [zbd,T.evs]at h
  | cons x r=>
   simp only [zbd]at h;obtain ⟨_,_,h2⟩:=zaa.1 h;simp at h2;obtain ⟨_,rfl⟩:=h2;exact Frz.nil
 | unit=>intro zs v rest ws h;simp only [zbd,T.evs_pure,Option.some.injEq,Prod.mk.injEq]at h;obtain ⟨_,_,rfl⟩:=h;exact Frz.nil
 | prod a b iha ihb=>
  intro zs v rest ws h;obtain ⟨⟨v1,r1,u1⟩,q1,q2⟩:=zaa.1 h;obtain ⟨⟨v2,r2,u2⟩,q3,q4⟩:=zaa.1 q2;simp at q4
  obtain ⟨_,_,rfl⟩:=q4;exact (iha q1).append (ihb q3)
 | slice e ih=>
  intro zs v rest ws h;cases zs with
  | nil=>simp [zbd,T.evs]at h
  | cons x r=>
   obtain ⟨⟨l,ws'⟩,q1,q2⟩:=zaa.1 h;simp at q2
   obtain ⟨_,_,rfl⟩:=q2;unfold zko at q1;split at q1
   · simp [T.evs]at q1;obtain ⟨_,rfl⟩:=q1;exact Frz.nil
   · obtain ⟨_,_,q4⟩:=zaa.1 q1;simp at q4;obtain ⟨_,rfl⟩:=q4;exact Frz.nil
   · obtain ⟨c,q3,q4⟩:=zaa.1 q1;simp only [za0,Option.some.injEq]at q3;subst q3;split at q4
     · rename_i m TT e' l' hfs
       obtain ⟨_,_,q6⟩:=zaa.1 q4;simp at q6;obtain ⟨_,rfl⟩:=q6
       intro p hp;simp at hp;subst hp
       exact ⟨m,TT,e',l',hfs,rfl⟩
     · simp [T.evs]at q4
   · obtain ⟨c,q3,q4⟩:=zaa.1 q1;simp only [za0,Option.some.injEq]at q3;subst q3;split at q4
     · rename_i m TT e' l' hfs
       obtain ⟨_,_,q6⟩:=zaa.1 q4;obtain ⟨_,_,q8⟩:=zaa.1 q6;simp at q8;obtain ⟨_,rfl⟩:=q8
       intro p hp;simp at hp;subst hp
       exact ⟨m,TT,e',l',hfs,rfl⟩
     · simp [T.evs]at q4
   · simp [T.evs]at q1
section
variable {P:Program} {te:TE} {cx:Cx} {fs:FS} {w:World} {env:Nm} {own:Ow} {act:Act}
def zs2(tm:Array Value):ResultVar->Sem Value
 | .tmp t=>pure (tm.getD t undef)
 | .cell a t=>do loadVar t (<-asAddr (tm.getD a undef))
theorem resV_ok(ht:TEok P te)(hB:RB cx fs w env own)(hR:RS cx fs act.tmps w env own){t:Ty}{x:ResultVar}{ys:List Lf}(h:(resV te t x).evs fs=some ys):
 ∃ val,(zs2 act.tmps x).run P w = .ok val w/\All2 (LfR w.heap (cx.ok own) env) ys val.cells.toList/\val=zaW t val.cells.toList:=by
 cases x with
 | tmp n=>
  simp only [resV]at h;obtain ⟨a,h1,h2⟩:=zaa.1 h;obtain ⟨k1,k2⟩:=zcK h2 (zse hR h1) (.inr trivial);exact ⟨_,rfl,k1,k2 _ rfl⟩
 | cell n tt=>
  simp only [resV]at h;obtain ⟨r,h1,h2⟩:=zaa.1 h;obtain ⟨_,h3,h4⟩:=zaa.1 h2;obtain ⟨l,h5,h6⟩:=zaa.1 h4;obtain ⟨htr,hr⟩:=zbR ht h1;have hagg:=zak.1 h3;split at h6
  · rename_i b;obtain ⟨c,h7,h8⟩:=zaa.1 h6;simp only [za0,Option.some.injEq]at h7;subst h7;split at h8
    · rename_i T xs hfs;obtain ⟨_,h9,h10⟩:=zaa.1 h8;simp at h10;subst h10
      have hb:=hB b;rw [hfs]at hb;obtain ⟨g,cs,e1,e2,e3,e4⟩:=hb;obtain ⟨g',q1,q2⟩:=za8 hR h5;rw [e1]at q1;simp at q1;subst q1
      have hlen:=qal (zak.1 h9);rw [e3.len]at hlen;have hrun:=zfS (P:=P) hr htr e2 (off:=0) (by simp at hlen;omega)
      simp only [qb5]at hrun;rw [qa7 (by omega)]at hrun
      have hmk:zaW r.ty cs.toList=zaW t cs.toList:=by
       simp only [zaW];cases hr1:r.ty.isAgg <;> cases ht1:t.isAgg <;> simp_all
      have hcells:=zq9 hlen e3.ones;refine ⟨zaW r.ty cs.toList,?_,by rw [hcells];exact e3,by rw [hcells];exact hmk⟩
      simp only [zs2,Sem.run_bind];rw [show act.tmps.getD n undef = .pointer (some ⟨g,0,none⟩) from q2]
      simpa [asAddr] using hrun
    · simp [T.evs]at h8
  · simp [T.evs]at h6
theorem zpW{N:Nat->Prop}(hw:RW cx w env own N)(hB:RB cx fs w env own)(hno:∀ g,¬cx.outer g):∀ {t:Ty} {Ts:List TypeId} {cs:List Cp} {v:t.den} {ws:Ws} {us:List Value},(zdQ t Ts cs).evs fs=some (v,ws)->All2 (CpR w.heap (cx.ok own) env) cs us ->
 Ts.length=cs.length/\(∀ p∈ws,p.2≠.no->∃ m T e l,fs (.b p.1) = .arr m T e l/\p.2 = .arr false T e l)/\∀ nm,∃ (V:List (Nat×Value)) (K:List (Nat×Nat)),V.map (·.1)=List.range' nm Ts.length/\K.map (·.1)=za3 ws /\
  ∀ (ns:List Nat) (ok':Nat->Prop) (ec:Nm) (oc:Ow),(∀ p∈ws,p.2≠.no->p.1∈ns)->To cx w own ns ok'->Outs own cx.w0.heap.size V K ec oc ->
   All2 (CpR w.heap ok' ec) (zwE nm Ts.length) us/\∀ p∈zpX t v Ts nm,zbs cx.low w.heap ok' ec oc p.1 p.2
 | .unit,[],[],v,ws,[],h,_=>by
  simp [zdQ,T.evs]at h
  subst h;exact ⟨rfl,by simp,fun nm=>⟨[],[],by simp,by simp [za3],fun _ _ _ _ _ _ _=>⟨trivial,by simp [zpX]⟩⟩⟩
 | .prod a b,tt::Ts,.ptr b0 0::cs,v,ws,u::us,h,hu=>by
  simp only [zdQ]at h;obtain ⟨c,h1,h2⟩:=zaa.1 h;simp only [za0,Option.some.injEq]at h1;subst h1;split at h2
  · rename_i T' xs hfs
    obtain ⟨_,h3,h4⟩:=zaa.1 h2;obtain ⟨⟨v1,rest,w1⟩,h5,h6⟩:=zaa.1 h4;obtain ⟨_,h7,h8⟩:=zaa.1 h6;obtain ⟨⟨vs,w2⟩,h9,h10⟩:=zaa.1 h8;simp at h10
    obtain ⟨rfl,rfl⟩:=h10;have hT:=qal (zak.1 h3);subst hT;have:=zen h7
    subst this;obtain ⟨hl,hfz,hbx⟩:=zpW hw hB hno h9 hu.2;have hbb:=hB b0;rw [hfs]at hbb;obtain ⟨g,cs1,e1,e2,e3,e4⟩:=hbb;obtain ⟨g',q1,q2⟩:=hu.1;rw [e1]at q1;simp at q1;subst q1
    have hge:cx.w0.heap.size<=g:=(hw.ge e4).elim id fun h=>absurd h (hno g)
    obtain ⟨f1,f2⟩:=zgM hB h5 e3;refine ⟨by simp [hl],fun p hp hne=>?_,fun nm=>?_⟩
    · rcases qat.1 hp with rfl | hp
      · exact absurd rfl hne
      · rcases qas.1 hp with hp | hp
        · exact f1 p hp
        · exact hfz p hp hne
    · obtain ⟨V,K,m1,m2,m3⟩:=hbx (nm+1);refine ⟨(nm,u)::V,(b0,nm)::K,?_,?_,fun ns ok' ec oc hns hto ho=>?_⟩
      · rw [qaY,m1,qaM,qcl]
      · rw [qaY,m2,za3,zaK,zmj f1,qaV]
      · have ho2:Outs own cx.w0.heap.size V K ec oc:=⟨fun p hp=>ho.val p (qaH _ hp),fun p hp=>ho.row p (qaH _ hp)⟩
        obtain ⟨i1,i2⟩:=m3 ns ok' ec oc (fun p hp hne=>hns p (qaH _ (qbq _ hp)) hne) hto ho2
        have hec:=ho.val (nm,u) (by simp)
        simp only at hec
        rw [q2]at hec;refine ⟨⟨⟨g,hec,q2⟩,i1⟩,fun p hp=>?_⟩
        rcases qat.1 hp with rfl | hp
        · refine ⟨g,cs1,hec,e2,zcN (hto.fits (f2 ns fun p hp=>hns p (qaH _ (qa1 _ hp)) ?_)),ho.row (b0,nm) (by simp) g e4 hge⟩
          obtain ⟨m,T,e,l,_,q⟩:=f1 p hp;rw [q];intro hq;cases hq
        · exact i2 p hp
  · simp [T.evs]at h2
 | .prod _ _,_::_,.ptr _ (_+1)::_,_,_,_,h,_=>by simp [zdQ,T.evs]at h
 | .prod _ _,_::_,.imm _ _::_,_,_,_,h,_=>by simp [zdQ,T.evs]at h
 | .unit,_::_,_,_,_,_,h,_=>by simp [zdQ,T.evs]at h
 | .unit,[],_::_,_,_,_,h,_=>by simp [zdQ,T.evs]at h
 | .prod _ _,[],_,_,_,_,h,_=>by simp [zdQ,T.evs]at h
 | .prod _ _,_::_,[],_,_,_,h,_=>by simp [zdQ,T.evs]at h
 | .bool,_,_,_,_,_,h,_=>by simp [zdQ,T.evs]at h
 | .int _,_,_,_,_,_,h,_=>by simp [zdQ,T.evs]at h
 | .slice _,_,_,_,_,_,h,_=>by simp [zdQ,T.evs]at h
 | .unit,[],[],_,_,_::_,_,hu=>hu.elim
 | .prod _ _,_::_,_::_,_,_,[],_,hu=>hu.elim
theorem zqD(ht:TEok P te){N:Nat->Prop}(hw:RW cx w env own N)(hB:RB cx fs w env own)(hR:RS cx fs act.tmps w env own)(hlent:∀ g,¬cx.lent g){nop:Bool}(hno:nop=true->∀ g,¬cx.outer g):∀ {rs:List RTy} {rv:List ResultVar} {r:Rden rs} {ws:Ws},(resT te nop rs rv).evs fs=some (r,ws) ->
 ∃ vals,(rv.mapM (zs2 act.tmps)).run P w = .ok vals w/\(∀ p∈ws,p.2≠.no->∃ m T e l,fs (.b p.1) = .arr m T e l/\p.2 = .arr false T e l)/\∀ nm,∃ (V:List (Nat×Value)) (K:List (Nat×Nat)),V.map (·.1)=List.range' nm ((resL rs r nm).2.2-nm)/\nm<=(resL rs r nm).2.2/\K.map (·.1)=za3 ws /\
  ∀ (ns:List Nat) (ok':Nat->Prop) (ec:Nm) (oc:Ow),(∀ p∈ws,p.2≠.no->p.1∈ns)->To cx w own ns ok'->Outs own cx.w0.heap.size V K ec oc ->
   All2 (A1R w.heap ok' ec) (resL rs r nm).1 vals/\∀ p∈(resL rs r nm).2.1,zbs cx.low w.heap ok' ec oc p.1 p.2
 | [],[],r,ws,h=>by
  simp [resT,T.evs]at h
  subst h;exact ⟨[],rfl,by simp,fun nm=>⟨[],[],by simp [resL],by simp [resL],by simp [za3],fun _ _ _ _ _ _ _=>by simp [resL,All2]⟩⟩
 | r0::rs,x::rv,r,ws,h=>by
  cases hcl:r0.clo with
  | some gT=>
   obtain ⟨g0,Ts⟩:=gT;simp only [resT,hcl]at h;cases x with
   | cell n tt=>simp [T.evs]at h
   | tmp n=>
    obtain ⟨_,h1,h2⟩:=zaa.1 h;obtain ⟨l,h3,h4⟩:=zaa.1 h2;obtain ⟨⟨v,w1⟩,h5,h6⟩:=zaa.1 h4;obtain ⟨⟨vs,w3⟩,h7,h8⟩:=zaa.1 h6;simp at h8
    obtain ⟨rfl,rfl⟩:=h8;obtain ⟨vals,hrun2,hfr,hrest⟩:=zqD ht hw hB hR hlent hno h7;have hnop:=zak.1 h1;have hl:=za8 hR h3;unfold cloT at h5;split at h5
    · rename_i g' ca
      obtain ⟨_,h9,h10⟩:=zaa.1 h5;have hg:=qal (zak.1 h9);subst hg;obtain ⟨us0,us,e0,q1,q2⟩:=hl;have hus0:us0=#[]:=by
       have:=q1.len
       simpa using this.symm
      obtain ⟨hlen,hfz,hbx⟩:=zpW hw hB (hno hnop) h10 q2;refine ⟨(.func (.func g0) #[] us)::vals,?_,fun p hp hne=>?_,fun nm=>?_⟩
      · simp only [List.mapM_cons,Sem.run_bind,hrun2,Result.andThen_ok,Sem.run_pure,zs2];rw [show act.tmps.getD n undef = .func (.func g0) #[] us from by
         have:act.tmps.getD n undef = .func (.func g0) us0 us:=e0
         rw [this,hus0]]
      · rcases qas.1 hp with hp | hp
        · exact hfz p hp hne
        · exact hfr p hp hne
      · obtain ⟨V,K,m1,m2,m3,m4⟩:=hrest (nm+Ts.length);obtain ⟨V0,K0,n1,n2,n3⟩:=hbx nm;have hres:(resL (r0::rs) (v,vs) nm)=(.one (.clo g0 [] (zwE nm Ts.length))::(resL rs vs (nm+Ts.length)).1,zpX r0.t v Ts nm++(resL rs vs (nm+Ts.length)).2.1,(resL rs vs (nm+Ts.length)).2.2):=by simp only [resL,hcl]
        rw [hres];refine ⟨V0++V,K0++K,?_,?_,?_,fun ns ok' ec oc hns hto ho=>?_⟩
        · rw [qbM,n1,m1];simp only
          rw [show (resL rs vs (nm+Ts.length)).2.2-nm=Ts.length+((resL rs vs (nm+Ts.length)).2.2-(nm+Ts.length)) by omega,<-List.range'_append_1]
        · simp only;omega
        · rw [qbM,n2,m3,zaK]
        · have ho1:Outs own cx.w0.heap.size V0 K0 ec oc:=⟨fun p hp=>ho.val p (qa1 _ hp),fun p hp=>ho.row p (qa1 _ hp)⟩
          have ho2:Outs own cx.w0.heap.size V K ec oc:=⟨fun p hp=>ho.val p (qbq _ hp),fun p hp=>ho.row p (qbq _ hp)⟩
          obtain ⟨j1,j2⟩:=m4 ns ok' ec oc (fun p hp=>hns p (qbq _ hp)) hto ho2
          obtain ⟨i1,i2⟩:=n3 ns ok' ec oc (fun p hp=>hns p (qa1 _ hp)) hto ho1
          refine ⟨⟨⟨#[],us,rfl,trivial,i1⟩,j1⟩,fun p hp=>?_⟩
          rcases qas.1 hp with hp | hp
          · exact i2 p hp
          · exact j2 p hp
    · simp [T.evs]at h5
  | none=>
   simp only [resT,hcl]at h;obtain ⟨ys,h1,h2⟩:=zaa.1 h;obtain ⟨⟨zs,w1⟩,h3,h4⟩:=zaa.1 h2;obtain ⟨⟨v,rest,w2⟩,h5,h6⟩:=zaa.1 h4;obtain ⟨_,h7,h8⟩:=zaa.1 h6;obtain ⟨⟨vs,w3⟩,h9,h10⟩:=zaa.1 h8;simp at h10
   obtain ⟨rfl,rfl⟩:=h10;have:=zen h7
   subst this;obtain ⟨val,hrun,hys,hval⟩:=resV_ok ht hB hR h1;obtain ⟨z1,hz,hrel⟩:=zkn h5;rw [qaZ]at hz;subst hz;obtain ⟨vals,hrun2,hfr,hrest⟩:=zqD ht hw hB hR hlent hno h9;have hno:=fun nm=>(zh6 (nm:=nm) h3 hys.len)
   have hf2:Frz fs w2:=by
    exact zoV h5
   refine ⟨val::vals,?_,fun p hp hne=>?_,fun nm=>?_⟩
   · simp only [List.mapM_cons,Sem.run_bind,hrun,Result.andThen_ok,hrun2,Sem.run_pure]
   · rcases qas.1 hp with hp | hp
     · exact absurd ((hno 0).2.2.2 p hp) hne
     · rcases qas.1 hp with hp | hp
       · exact hf2 p hp
       · exact hfr p hp hne
   · obtain ⟨n1,n2,n3,n4⟩:=hno nm;have hk:(ownL (flat r0.t v) r0.own nm).2.2=(outV ys r0.own val.cells.toList nm).2.2:=by
      have:∀ {ys zs xs:List Lf} {os:List (Option TypeId)} {w1:Ws} {cs:List Value} {nm:Nat},(outL ys os).evs fs=some (zs,w1)->All2 (fun z x=>PR fs z x/\zr1 w2 z) zs xs->ys.length=cs.length->(ownL xs os nm).2.2=(outV ys os cs nm).2.2:=by
       intro ys;induction ys with
       | nil=>
        intro zs xs os w1 cs nm h hp hl;have h':zs=[]:=by cases os <;> (simp [outL,T.evs]at h;exact h.1.symm ▸ rfl)
        subst h'
        cases xs with
        | cons _ _=>exact hp.elim
        | nil=>cases cs with
         | cons _ _=>simp at hl
         | nil=>cases os <;> simp [ownL,outV]
       | cons y ys ih=>
        intro zs xs os w1 cs nm h hp hl;cases cs with
        | nil=>simp at hl
        | cons c cs=>
        cases os with
        | nil=>simp [outL,T.evs]at h
        | cons o os=>
         cases o with
         | none=>
          simp only [outL]at h;obtain ⟨⟨zs',u2⟩,q3,q4⟩:=zaa.1 h;simp at q4
          obtain ⟨rfl,rfl⟩:=q4;cases xs with
          | nil=>exact hp.elim
          | cons x xs=>
           have:ownL (x::xs) (none::os) nm=(x::(ownL xs os nm).1,(ownL xs os nm).2):=by
            cases x <;> first | rfl | (rename_i t v;cases t <;> rfl)
           rw [this];simp only [outV];exact ih q3 hp.2 (by simpa using hl)
         | some tt=>
          simp only [outL]at h;obtain ⟨⟨z,u1⟩,q1,q2⟩:=zaa.1 h;obtain ⟨⟨zs',u2⟩,q3,q4⟩:=zaa.1 q2;simp at q4
          obtain ⟨rfl,rfl⟩:=q4;cases xs with
          | nil=>exact hp.elim
          | cons x xs=>
           have hx:∃ e l,x = .imm (.slice e) l:=by
            split at q1
            · obtain ⟨cl,h5,h6⟩:=zaa.1 q1;split at h6
              · obtain ⟨_,h7,h8⟩:=zaa.1 h6;simp at h8
                obtain ⟨rfl,rfl⟩:=h8;have:=hp.1.1
                cases this with
                | raw x h=>simp [Lf.isRaw]at h
                | imm t v=>exact ⟨_,_,rfl⟩
              · simp [T.evs]at h6
            · simp [T.evs]at q1
              obtain ⟨rfl,rfl⟩:=q1;have:=hp.1.1
              cases this with
              | raw x h=>simp [Lf.isRaw]at h
              | nil e=>exact ⟨_,_,rfl⟩
            · simp [T.evs]at q1
           obtain ⟨e,l,rfl⟩:=hx;simp only [ownL,outV];exact ih q3 hp.2 (by simpa using hl)
      exact this h3 hrel hys.len
     obtain ⟨V,K,m1,m2,m3,m4⟩:=hrest (ownL (flat r0.t v) r0.own nm).2.2;have hres:(resL (r0::rs) (v,vs) nm).2.2=(resL rs vs (ownL (flat r0.t v) r0.own nm).2.2).2.2:=by simp only [resL,hcl]
     refine ⟨(outV ys r0.own val.cells.toList nm).1++V,(outV ys r0.own val.cells.toList nm).2.1++K,?_,?_,?_,fun ns ok' ec oc hns hto ho=>?_⟩
     · rw [hres,qbM,n1,m1,hk];rw [hk]at m2;rw [show (resL rs vs (outV ys r0.own val.cells.toList nm).2.2).2.2-nm=((outV ys r0.own val.cells.toList nm).2.2-nm)+((resL rs vs (outV ys r0.own val.cells.toList nm).2.2).2.2-(outV ys r0.own val.cells.toList nm).2.2) by omega,<-List.range'_append_1]
       congr 2
       omega
     · rw [hres];rw [hk]at m2 ⊢;omega
     · rw [qbM,n3,m3,zaK,zaK (a:=w2),zmj hf2,qaV]
     · have ho1:Outs own cx.w0.heap.size (outV ys r0.own val.cells.toList nm).1 (outV ys r0.own val.cells.toList nm).2.1 ec oc:=⟨fun p hp=>ho.val p (qa1 _ hp),fun p hp=>ho.row p (qa1 _ hp)⟩
       have ho2:Outs own cx.w0.heap.size V K ec oc:=⟨fun p hp=>ho.val p (qbq _ hp),fun p hp=>ho.row p (qbq _ hp)⟩
       obtain ⟨i1,i2,_⟩:=znR hB hlent hto (w2:=w2) (fun p hp=>hns p (qbq _ (qa1 _ hp)) (by obtain ⟨m,T,e,l,_,q⟩:=hf2 p hp;rw [q];intro hq;cases hq)) h3 hrel hys ho1
       obtain ⟨j1,j2⟩:=m4 ns ok' ec oc (fun p hp=>hns p (qbq _ (qbq _ hp))) hto ho2
       simp only [resL,hcl];refine ⟨⟨?_,j1⟩,fun p hp=>?_⟩
       · rw [hval];simp only [zaW];cases hagg:r0.t.isAgg with
         | true=>exact ⟨_,rfl,i1⟩
         | false=>
          have hsz:r0.t.size=1:=zvY hagg
          have hone:val.cells.toList.length=1:=by
           have h1:=i1.len;have h2:=hrel.len;have h3':zs.length=ys.length:=by
            have:∀ {ys zs:List Lf} {os:List (Option TypeId)} {w1:Ws},(outL ys os).evs fs=some (zs,w1)->zs.length=ys.length:=by
             intro ys;induction ys with
             | nil=>intro zs os w1 h;cases os <;> (simp [outL,T.evs]at h;simp [<-h.1])
             | cons y ys ih=>
              intro zs os w1 h;cases os with
              | nil=>simp [outL,T.evs]at h
              | cons o os=>
               cases o with
               | none=>
                simp only [outL]at h;obtain ⟨⟨zs',u2⟩,q3,q4⟩:=zaa.1 h;simp at q4
                rw [<-q4.1];simp [ih q3]
               | some tt=>
                simp only [outL]at h;obtain ⟨⟨z,u1⟩,q1,q2⟩:=zaa.1 h;obtain ⟨⟨zs',u2⟩,q3,q4⟩:=zaa.1 q2;simp at q4
                rw [<-q4.1];simp [ih q3]
            exact this h3
           have h4:=hys.len;rw [znZ,hsz,h3',h4]at h2;exact h2
          match hcs:val.cells.toList,hone with
          | [c],_=>
           rw [hcs]at i1;match hys':(ownL (flat r0.t v) r0.own nm).1,i1 with
           | [y],i1=>simpa [A1R] using i1.1
       · rcases qas.1 hp with hp | hp
         · exact i2 p hp
         · exact j2 p hp
 | [],_::_,_,_,h=>by simp [resT,T.evs]at h
 | _::_,[],_,_,h=>by simp [resT,T.evs]at h
end
end Go.VI
namespace Go.VI
open Go Go.RowKit
section
variable {P:Program} {te:TE} {tbl:Tbl} {ann:Ann}
theorem oT_ok{cx:Cx}{fs:FS}{w:World}{env:Nm}{own:Ow}(hB:RB cx fs w env own){ok':Nat->Prop}{ns:List Nat}(hto:To cx w own ns ok'):∀ {ps:List PTy} {gs:List Nat} {i:Nat} {u:Oden ps} {ws:Ws},(oT ps i).evs fs=some (u,ws)->BsOk ps gs ->
 (∀ p∈fixL ps gs i,env p.1=some (ptrV p.2))->(∀ p∈ws,p.1∈ns)->Frz fs ws/\OutR w.heap ok' ps u gs
 | [],gs,i,u,ws,h,_,_,_=>by
  simp [oT,T.evs]at h
  subst h;exact ⟨Frz.nil,trivial⟩
 | .val _::ps,gs,i,u,ws,h,hb,hf,hn=>oT_ok hB hto (ps:=ps) h hb hf hn
 | .ptr tt t::ps,g::gs,i,u,ws,h,hb,hf,hn=>by
  simp only [oT]at h;obtain ⟨c,h1,h2⟩:=zaa.1 h;simp only [za0,Option.some.injEq]at h1;subst h1;split at h2
  · rename_i T' xs hfs
    obtain ⟨_,h3,h4⟩:=zaa.1 h2;obtain ⟨⟨v,rest,w1⟩,h5,h6⟩:=zaa.1 h4;obtain ⟨_,h7,h8⟩:=zaa.1 h6;obtain ⟨⟨vs,w2⟩,h9,h10⟩:=zaa.1 h8;simp at h10
    obtain ⟨rfl,rfl⟩:=h10;have:=zen h7
    subst this;have hT:=qal (zak.1 h3);subst hT;have hbb:=hB i;rw [hfs]at hbb;obtain ⟨g',cs,e1,e2,e3,e4⟩:=hbb;have he:=hf (i,g) (by simp [fixL])
    rw [e1]at he;simp [ptrV]at he;subst he
    obtain ⟨f1,f2⟩:=zgM hB h5 e3;obtain ⟨f3,f4⟩:=oT_ok hB hto (ps:=ps) h9 hb (fun p hp=>hf p (qaH _ hp)) (fun p hp=>hn p (by simp [hp]))
    exact ⟨f1.append f3,⟨cs,e2,hto.fits (f2 ns fun p hp=>hn p (by simp [hp]))⟩,f4⟩
  · simp [T.evs]at h2
 | .ptr _ _::_,[],_,_,_,_,hb,_,_=>hb.elim
theorem zuV{fs:FS}:∀ {ps:List PTy} {i:Nat} {u:Oden ps} {ws:Ws},(oT ps i).evs fs=some (u,ws)->∀ p∈ws,p.2≠.no
 | [],i,u,ws,h=>by
  simp [oT,T.evs]at h
  subst h;simp
 | .val _::ps,i,u,ws,h=>zuV (ps:=ps) h
 | .ptr tt t::ps,i,u,ws,h=>by
  simp only [oT]at h;obtain ⟨c,h1,h2⟩:=zaa.1 h;split at h2
  · obtain ⟨_,h3,h4⟩:=zaa.1 h2;obtain ⟨⟨v,rest,w1⟩,h5,h6⟩:=zaa.1 h4;obtain ⟨_,h7,h8⟩:=zaa.1 h6;obtain ⟨⟨vs,w2⟩,h9,h10⟩:=zaa.1 h8;simp at h10
    obtain ⟨rfl,rfl⟩:=h10;intro p hp;rcases qas.1 hp with hp | hp
    · obtain ⟨m,T,e,l,_,q⟩:=zoV h5 p hp;rw [q];intro hq;cases hq
    · exact zuV (ps:=ps) h9 p hp
  · simp [T.evs]at h2
theorem zs4(fn:Func)(tm:Array Value):results fn tm=(fn.results.mapM (zs2 tm) >>= fun vs=>pure (if h:vs.size=1 then vs[0] else .tuple vs)):=by
 unfold results;congr 1
def finT(te:TE)(rs:List RTy)(rv:List ResultVar)(ps:List PTy)(st:List Wr):Tree (Rden rs×Oden ps) :=
 (T.run (look st) (do
  let (r,w1) <-resT te (ps.all PTy.isVal) rs rv
  let (u,w2) <-oT ps 0
  zat (ztc (w1++w2))
  pure (r,u)) []).bind fun x=>.leaf x.1
theorem fun_any(ht:TEok P te)(E:Entry){fn:Func}{c:Code}(hf:P.funcs[E.f]?=some fn)(hb:fn.body=some c)(hps:E.sh.length<=fn.ntmps)
 (hC:∀ d r,E.F d=some r->∀ (cx:Cx) (act:Act) (w:World) (Q:Exit->Act->World->Prop),St cx fn.ntmps (look (zff E.sh E.ps d)) act w (· < E.ps.length) ->
  (∀ e nx W act' w',(∀ id,e≠Ex.exit id)->(finT te E.rs fn.results.toList E.ps (W++zff E.sh E.ps d)).ev=some r->St cx fn.ntmps (look (W++zff E.sh E.ps d)) act' w' (· < nx)->Q (exOf e) act' w')->c.wp P Q act w):E.Sound P:=by
 intro w ok d args gs r ha _ hr nm;have hlen:=ha.lt.2;have hbs:BsOk E.ps gs:=by
  have:∀ {ps:List PTy} {d:Pden ps} {args:List Value} {gs:List Nat},zc8 w.heap ok ps d args gs->BsOk ps gs:=by
   intro ps;induction ps with
   | nil=>intro d args gs h;cases args <;> cases gs <;> first | trivial | exact h.elim
   | cons p ps ih=>
    intro d args gs h;cases args with
    | nil=>cases p <;> exact h.elim
    | cons a args=>
     cases p with
     | val t=>exact ih h.2
     | ptr T t=>cases gs with
      | nil=>exact h.elim
      | cons g gs=>exact ih h.2.2.2.2
  exact this ha
 have hS:=zvU ha hps;generalize hcx:(⟨w,ok,(·∈gs),fun b=>(lk (fixL E.ps gs 0) b).map ptrV,fun _=>False⟩:Cx)=cx at hS
 refine (callsIn_wide (n:=0)).1 (callsIn_of_wp_marks (F:=Fence.wide) (n:=0) hf hb trivial ((wpIn_wide (n:=0)).2 (hC d r hr cx _ w _ hS fun e nx W act w1 hne hfin hS1=>?_)) rfl)
 have fin:∀ w',St cx fn.ntmps (look (W++zff E.sh E.ps d)) ⟨act.tmps,[]⟩ w' (· < nx)->((T.run (look (W++zff E.sh E.ps d)) (do
  let (r,w1) <-resT te (E.ps.all PTy.isVal) E.rs fn.results.toList
  let (u,w2) <-oT E.ps 0
  zat (ztc (w1++w2))
  pure (r,u)) []).bind fun x=>Tree.leaf x.1).ev=some r->∃ v,(results fn act.tmps).run P w' = .ok v w'/\∃ vals env own,Ending.returned v = .returned (zv9 vals)/\Returns E w ok gs r nm w' vals env own:=by
  intro w' hS' hfin
  obtain ⟨x,rs,q1,q2⟩:=zeb hfin;simp [Tree.ev]at q2;subst q2
  obtain ⟨⟨rr,w1⟩,q3,q4⟩:=zaa.1 q1;obtain ⟨⟨u,w2⟩,q5,q6⟩:=zaa.1 q4;obtain ⟨_,q7,q8⟩:=zaa.1 q6;simp at q8;subst q8
  have hout:=ztb (zak.1 q7);obtain ⟨env,own,hw,hB,hR,-⟩:=hS'.ex;have hno:E.ps.all PTy.isVal=true->∀ g,¬cx.outer g:=fun hv g hg=>by
   rw [<-hcx]at hg;have:∀ {ps:List PTy} {gs:List Nat},ps.all PTy.isVal=true->BsOk ps gs->gs=[]:=by
    intro ps;induction ps with
    | nil=>intro gs _ h;cases gs with
     | nil=>rfl
     | cons _ _=>exact h.elim
    | cons p ps ih=>intro gs hv h;cases p with
     | val t=>exact ih (by simpa [PTy.isVal] using hv) h
     | ptr T t=>simp [PTy.isVal]at hv
   rw [this hv hbs]at hg;cases hg
  have hlent:∀ g,¬cx.lent g:=by rw [<-hcx];exact fun _ h=>h
  obtain ⟨vals,hvals,hfr,hres⟩:=zqD ht hw hB hR hlent hno q3;obtain ⟨V,K,hV,hVle,hK,hres⟩:=hres nm;have hw0:cx.w0=w:=by rw [<-hcx]
  have hok0:cx.ok0=ok:=by rw [<-hcx]
  let ec:Nm:=lk V
  let oc:Ow:=fun g=>if w.heap.size<=g then (own g).bind (lk K) else none
  let ns:List Nat:=(w1++w2).filterMap fun p=>if p.2.live then some p.1 else none
  have hlive:∀ c:Cell,c≠.no->c.live=true:=fun c hc=>by cases c <;> first | rfl | exact absurd rfl hc
  have hns:∀ p∈w1++w2,p.2≠.no->p.1∈ns:=fun p hp hne=>List.mem_filterMap.2 ⟨p,hp,by rw [if_pos (hlive _ hne)]⟩
  have hKn:(K.map (·.1)).Nodup:=by
   rw [hK];have:=hout.1
   rw [zaK]at this;exact (List.nodup_append.1 this).1
  have hVn:(V.map (·.1)).Nodup:=by rw [hV];exact List.nodup_range'
  have hnsK:∀ b∈ns,lk K b=none:=fun b hb=>zu7 fun v hv=>by
   obtain ⟨p,hp,he⟩:=List.mem_filterMap.1 hb;split at he
   · rename_i hl;simp only [Option.some.injEq]at he;have hne:p.2≠.no:=fun h0=>by rw [h0]at hl;cases hl
     refine hout.2 p hp hne ?_;rw [zaK,he];have:b∈K.map (·.1):=qax.2 ⟨_,hv,rfl⟩
     rw [hK]at this;exact qa1 _ this
   · cases he
  have hto:To cx w' own ns (okAt ok oc w.heap.size):=⟨fun c hc=>by
   refine ⟨?_,by rw [<-hok0,<-hw0];exact (hc.2.imp id fun h=>h.resolve_right fun q=>hlent _ q.2)⟩
   simp only [oc];split
   · cases ho:own c with
     | none=>rfl
     | some b=>
      by_cases hm:b∈ns
      · exact hnsK b hm
      · have:=hc.1
        rw [zck ho hm]at this;cases this
   · rfl⟩
  have houts:Outs own cx.w0.heap.size V K ec oc:=⟨fun p hp=>ztn hVn hp,fun p hp g hg hB=>by
   simp only [oc];rw [hw0]at hB;rw [if_pos hB,hg];exact ztn hKn hp⟩
  obtain ⟨r1,r2⟩:=hres ns (okAt ok oc w.heap.size) ec oc (fun p hp=>hns p (qa1 _ hp)) hto houts
  obtain ⟨_,r3⟩:=oT_ok hB hto q5 hbs (fun p hp=>hw.fix p.1 (ptrV p.2) (by
   rw [<-hcx];simp only
   rw [ztn (zev) (show (p.1,p.2)∈_ from hp)];rfl)) (fun p hp=>hns p (qbq _ hp) (zuV q5 p hp))
  have r2:∀ p∈(resL E.rs rr nm).2.1,zbs (fun g=>w.heap.size<=g) w'.heap (okAt ok oc w.heap.size) ec oc p.1 p.2:=fun p hp=>(r2 p hp).conv (fun g _ hg=>by rw [<-hw0];exact hg.resolve_right fun h=>hlent g h.2) (fun c hc _=>⟨hc,rfl⟩) (fun _ _ h=>h) fun g hg=>⟨hg,rfl⟩
  refine ⟨zv9 vals,?_,vals,ec,oc,rfl,⟨⟨by rw [<-hw0];exact hw.os,by rw [<-hw0];exact hw.tape,by rw [<-hw0];exact hw.output,by rw [<-hw0];exact hw.size,fun c hc hg=>?_⟩,fun c hc=>?_,fun b hb=>?_,r1,r2,r3⟩⟩
  · have hm:(fn.results.toList.mapM (zs2 act.tmps)).run P w' = .ok vals w':=hvals
    rw [zs4,Array.mapM_eq_mapM_toList];simp only [Sem.run_bind,Sem.run_map,hm,Result.andThen_ok,Sem.run_pure];congr 1
    match vals with
    | []=>rfl
    | [v]=>rfl
    | _::_::_=>rfl
  · rw [<-hw0]at hc ⊢
    exact (hw.old c hc (by rw [<-hcx];exact hg)).2
  · simp only [oc]at hc;split at hc
    · rename_i hle;refine ⟨hle,?_⟩;cases ho:own c with
      | none=>simp [ho]at hc
      | some b=>exact hw.lt ho
    · exact absurd rfl hc
  · cases hl:lk V b with
    | none=>exact absurd hl hb
    | some v=>
     have:b∈V.map (·.1):=qax.2 ⟨_,zst hl,rfl⟩
     rw [hV]at this;have:=qcf.1 this
     show nm<=b/\b<(resL E.rs rr nm).2.2
     omega
 cases e with
 | normal=>exact zfc act.defers w1 hS1 fun w' hS'=>fin w' hS' hfin
 | exit id=>exact absurd rfl (hne id)
 | ret=>exact zfc act.defers w1 hS1 fun w' hS'=>fin w' hS' hfin
theorem zvk(ht:TEok P te)(hT:tbl.Sound P)(hA:ann.Sound P)(hmix:P.follows .mixedOrders=true)(E:Entry){fn:Func}{c:Code}(hf:P.funcs[E.f]?=some fn)(hb:fn.body=some c)(hps:E.sh.length<=fn.ntmps)
 (hF:∀ d r,E.F d=some r->(funT te tbl ann fn.ntmps c fn.results.toList E.sh E.ps E.rs d).ev=some r):E.Sound P:=by
 refine fun_any (te:=te) ht E hf hb hps fun d r hr cx act w Q hS hQ=>?_
 have hr:=hF d r hr;unfold funT at hr;rw [Tree.ev_bind]at hr;cases hrun:(runCode te tbl ann fn.ntmps c 0 E.ps.length (zff E.sh E.ps d)).ev with
 | none=>simp [hrun]at hr
 | some o=>
  obtain ⟨e,nx,W⟩:=o;simp only [hrun,qab]at hr;refine code_wp ht hT hA hmix c 0 E.ps.length _ _ _ w _ hrun hS fun act' w' hS'=>?_
  cases e with
  | normal=>exact hQ .normal nx W act' w' (fun _ h=>by cases h) hr hS'
  | exit id=>simp [Tree.ev]at hr
  | ret=>exact hQ .ret nx W act' w' (fun _ h=>by cases h) hr hS'
end
end Go.VI
namespace Go.VI
open Go Go.RowKit
def ztq:(ts:List Ty)->List AV->T (Tden ts)
 | [],[]=>.ret ()
 | t::ts,a::as=>do
  let ys <-zeu t a
  let (v,rest,_) <-zbd true t ys
  zat rest.isEmpty
  let vs <-ztq ts as
  pure (v,vs)
 | _,_=>.fail
theorem zsv{cx:Cx}{fs:FS}{w:World}{env:Nm}{own:Ow}(hb:RB cx fs w env own):∀ {ts:List Ty} {as:List AV} {vals:List Value} {v:Tden ts},(∀ t∈ts,t.plain=true)->(ztq ts as).evs fs=some v->All2 (AvR w.heap (cx.ok own) env) as vals->vals=encL ts v
 | [],[],[],v,_,_,_=>rfl
 | t::ts,a::as,x::xs,v,hp,h,hv=>by
  simp only [ztq]at h;obtain ⟨ys,h3,h4⟩:=zaa.1 h;obtain ⟨⟨v1,rest,w1⟩,h5,h6⟩:=zaa.1 h4;obtain ⟨_,h7,h8⟩:=zaa.1 h6;obtain ⟨vs,h9,h10⟩:=zaa.1 h8;simp at h10;subst h10
  have hrest:=zen h7;subst hrest;obtain ⟨k1,k2⟩:=zcK h3 hv.1 (.inr trivial);obtain ⟨f1,c1,c2,hc,hr0,hfit⟩:=zb0 hb h5 k1;have:c2=[]:=by cases c2 with
   | nil=>rfl
   | cons _ _=>exact hr0.elim
  subst this;rw [qaZ]at hc;have e:=zkZ (hp t (by simp)) (hfit (nms w1) fun p hp=>qax.2 ⟨p,hp,rfl⟩)
  have ih:=zsv hb (fun t ht=>hp t (by simp [ht])) h9 hv.2
  rw [encL,<-ih,k2 c1 hc,e]
 | [],_::_,_,_,_,h,_=>by simp [ztq,T.evs]at h
 | _::_,[],_,_,_,h,_=>by simp [ztq,T.evs]at h
 | [],[],_::_,_,_,_,hv=>hv.elim
 | _::_,_::_,[],_,_,_,hv=>hv.elim
def zmJ(ts:List Ty)(args:List Operand):T (Tden ts):=do ztq ts (<-zqE args)
def zil(n:Nat):T Unit:=do
 match <-rdS n with
 | .v (.one (.nam 0))=>pure ()
 | _=>.fail
def kbW(d:Nat)(b:Bool):Wr:=.w (.s d) (.av (.v (.one (.kb b))))
section
variable {α:Type} {p:PC} {nt:Nat} {a a':Act} {W W':World} {N N':Nat->Prop}
theorem PS.region{P:Program}{te:TE}{tbl:Tbl}(ht:TEok P te)(hTb:tbl.Sound P){ts:List Ty}(hp:∀ t∈ts,t.plain=true){J Jx:(Nat->Prop)->List (Tden ts)->World->Prop}{pre L:List (Tden ts)}(hJ:Free p.B J)(hJx:Free p.B Jx){l:Nat}(hyv:p.yv = .func (.yield l) #[] #[])
 (hY:∀ X pre x W1,J X pre W1->(∀ c,p.X0 c->X c)->(pre++[x]) <+: L->YieldAt Fence.wide 0 P l (encs ts x) W1 fun e W'=>
  (e = .returned (.bool true)/\J X (pre++[x]) W'/\Kept X W1 W')\/(e = .returned (.bool false)/\Jx X (pre++[x]) W'/\Kept X W1 W'))
 {ops:Array Oper} {o:Oper} {id nx j d:Nat} {fr:Option Nat} {m0:Nat} {st w1 wT wF:List Wr} {fo:Nat} {args:List Operand} {tys:Array TypeId} {gs:List Nat} {x:Tden ts} {Q:Exit->Act->World->Prop}
 (h:PS p J nt (look st) a W (· < nx) pre) (hj:List.range ops.size=List.range j++(j::List.range' (j+1) (ops.size-j-1))) (ho:ops[j]?=some o) (hop:o.op = .call ⟨.value (.tmp fo),⟨args⟩,tys⟩) (hgd:o.guard=none) (hd:o.dst=some d) (hdn:d<nt)
 (h1:(zaZ te tbl ops nt nx gs none (List.range j) st []).ev=some w1) (h2:(zil fo).evs (look (frzW (w1++st)))=some ()) (h3:(zmJ ts args).evs (look (frzW (w1++st)))=some x) (hpre:(pre++[x]) <+: L)
 (h4:(zaZ te tbl ops nt nx gs none (List.range' (j+1) (ops.size-j-1)) (kbW d true::frzW (w1++st)) []).ev=some wT)
 (h5:(zaZ te tbl ops nt nx gs none (List.range' (j+1) (ops.size-j-1)) (kbW d false::frzW (w1++st)) []).ev=some wF)
 (hQ:∀ a' W',PS p J nt (look (frzW (wT++(kbW d true::frzW (w1++st))))) a' W' (· < nx+64*ops.size) (pre++[x])->Q .normal a' W')
 (hQx:∀ a' W',PS p Jx nt (look (frzW (wF++(kbW d false::frzW (w1++st))))) a' W' (· < nx+64*ops.size) (pre++[x])->Q .normal a' W') :
 (Code.region id ops false).wpIn (Fw fr) m0 P Q a W:=by
 have hsz:j<ops.size:=by
  rcases Nat.lt_or_ge j ops.size with h | h
  · exact h
  · rw [Array.getElem?_eq_none h]at ho;cases ho
 refine wpIn_region ?_;rw [hj];refine PS.ops (m:=0) (k:=j) ht hTb hJ (h.mono fun b hb=>by omega) h1 List.nodup_range (fun i hi=>qa8 _) (fun i hi=>qbJ.1 hi) (qa8 _) fun a1 W1 hS1=>?_
 rw [wpOpsIn_cons];have hf:a1.eval (.tmp fo) = .func (.yield l) #[] #[]:=by
  obtain ⟨X,env,q1,q2,q3,_⟩:=hS1.ex;obtain ⟨av,s1,r2⟩:=zaa.1 h2;split at r2
  · have hsl:=q1.rs fo;simp only [rdS,T.evs]at s1;split at s1
    · rename_i b hb;simp [T.evs]at s1;subst s1
      rw [hb]at hsl;have hsl:env 0=some (a1.tmps.getD fo undef)/\_:=hsl
      rw [q3]at hsl;have:=Option.some.inj hsl.1
      show a1.tmps.getD fo undef=_
      rw [<-this,hyv]
    · simp [T.evs]at s1
  · simp [T.evs]at r2
 have hvs:(⟨args⟩:Array Operand).map a1.eval=encs ts x:=by
  obtain ⟨cx,hS,-⟩:=hS1.into hJ;obtain ⟨env,own,q1,q2,q3,-⟩:=hS.ex;obtain ⟨avs,r1,r2⟩:=zaa.1 h3;have:=zsv q2 hp r2 (znl q3 r1)
  unfold encs;rw [<-this];simp
 have hY1:=hS1.yield (x:=x) hY hpre
 refine zvN ho hop hgd hf hvs hY1 fun e W2 hr=>?_
 rw [hd];have fin:∀ {T:(Nat->Prop)->List (Tden ts)->World->Prop} {b:Bool} {w2:List Wr},Free p.B T->PS p T nt (look (frzW (w1++st))) a1 W2 (· < nx+64*j) (pre++[x])->(zaZ te tbl ops nt nx gs none (List.range' (j+1) (ops.size-j-1)) (kbW d b::frzW (w1++st)) []).ev=some w2 ->
  (∀ a' W',PS p T nt (look (frzW (w2++(kbW d b::frzW (w1++st))))) a' W' (· < nx+64*ops.size) (pre++[x])->Q .normal a' W')->wpOpsIn (Fw fr) m0 P ops Q (List.range' (j+1) (ops.size-j-1)) (a1.put (some d) (.bool b)) W2:=by
  intro T b w2 hT hS h6 hq;have hs:=hS.setSlot (d:=d) (v:=.bool b) (c:=.av (.v (.one (.kb b)))) hdn fun _ _ _=>rfl
  have:=PS.ops (m:=j) (k:=ops.size) (rest:=[]) (fr:=fr) (m0:=m0) (Q:=Q) ht hTb hT hs (show (zaZ te tbl ops nt nx gs none _ (kbW d b::frzW (w1++st)) []).ev=some w2 from h6) (List.nodup_range') (fun i hi=>by have:=(qcf.1 hi).1;omega) (fun i hi=>by have:=(qcf.1 hi).2;omega) (by omega) fun a' W' hS'=>by simp only [wpOpsIn];exact hq a' W' hS'
  rwa [qaZ]at this
 rcases hr with ⟨rfl,hS2⟩ | ⟨rfl,hS2⟩
 · exact ⟨_,rfl,fin hJ hS2 h4 hQ⟩
 · exact ⟨_,rfl,fin hJx hS2 h5 hQx⟩
theorem PS.leaves{P:Program}{T:(Nat->Prop)->List α->World->Prop}{pre:List α}(hT:Free p.B T){fn:Func}(hres:fn.results=#[]){R:Ending->World->Prop}{fs:FS}{tm:Array Value}(hR:∀ v X W',T X pre W'->R (.returned v) W'):∀ {ds:List Deferred} {W:World},PS p T nt fs ⟨tm,ds⟩ W N pre->LeavesInM Fence.wide 0 P fn tm R ds .returning W
 | [],W,h=>by
  obtain ⟨X,env,h1,h2,h3,h4,h5,h6,_⟩:=h.ex;refine ⟨_,?_,hR (.tuple #[]) X W h6⟩;simp [results,hres]
 | d::ds,W,h=>by
  obtain ⟨X,env,h1,h2,h3,h4,h5,h6,Ds,m1,m2,m3⟩:=h.ex;cases Ds with
  | nil=>simp at m1
  | cons D Ds=>
   simp only [qaY,List.cons.injEq]at m1;obtain ⟨rfl,m1⟩:=m1;obtain ⟨n1,n2⟩:=qbu.1 m2;obtain ⟨q1,q2,q3,q4⟩:=m3 D (qbe ..);have hw:Went p.B W (W.putObj D (.deferred none)):=Went.put _ q3 q1 rfl;refine ⟨by simp,.inl ⟨D,_,rfl,run_takeDeferred q1,PS.leaves hT hres hR (ds:=ds) ⟨h.size,by simpa using h.lo,by simpa using h.wr,X,env,h1.stay hw.stay,h2,h3,⟨h4.1,fun c hc=>⟨(h4.2 c hc).1,(World.putObj_heap_other (by rintro rfl;exact q4 hc)).trans (h4.2 c hc).2⟩⟩,fun c hc=>by simpa using h5 c hc,hT _ _ _ _ _ h6 hw fun c hc=>⟨.inl hc,by simpa using h5 c hc⟩,Ds,m1,n2,fun D' hD'=>?_⟩⟩⟩
   obtain ⟨r1,r2⟩:=m3 D' (qaH _ hD');exact ⟨(World.putObj_heap_other (by rintro rfl;exact n1 hD')).trans r1,r2⟩
def zbU(ps:List PTy)(d:Pden ps):List Wr:=frzW (zeI (List.replicate (ps.length+1) .p) (.v (.one (.nam 0))::zru ps d 1) 0++zl6 ps d 1)
theorem zsz:∀ {n:Nat} {vs:List Value},zbH (List.replicate n .p) vs=vs.take n
 | 0,vs=>by cases vs <;> rfl
 | n+1,[]=>rfl
 | n+1,v::vs=>by simp only [qcy,zbH,qci];rw [zsz]
def zcT(h:Array Obj)(X:Nat->Prop):(ps:List PTy)->Pden ps->List Value->Prop
 | [],_,[]=>True
 | .val t::ps,d,x::xs=>(∃ cs,x=zaW t cs/\Fits h X t d.1 cs)/\zcT h X ps d.2 xs
 | .ptr T t::ps,d,x::xs=>(∃ g cs,x = .pointer (some ⟨g,0,none⟩)/\h[g]?=some (.cells cs T (0,0))/\Fits h X t d.1 cs.toList/\X g)/\zcT h X ps d.2 xs
 | _,_,_=>False
theorem zc8.caps{h:Array Obj}{ok:Nat->Prop}{X:Nat->Prop}(hok:∀ c,ok c->X c):∀ {ps:List PTy} {d:Pden ps} {args:List Value} {gs:List Nat},zc8 h ok ps d args gs->(∀ g∈gs,X g)->zcT h X ps d args
 | [],_,[],[],_,_=>trivial
 | .val t::ps,d,x::xs,gs,⟨⟨cs,e,hf⟩,ha⟩,hg=>⟨⟨cs,e,hf.mono fun c hc _=>⟨hok c hc,rfl⟩⟩,zc8.caps hok (ps:=ps) ha hg⟩
 | .ptr T t::ps,d,x::xs,g::gs,⟨e,⟨cs,h1,hf⟩,_,_,ha⟩,hg=>⟨⟨g,cs,e,h1,hf.mono fun c hc _=>⟨hok c hc,rfl⟩,hg g (by simp)⟩,zc8.caps hok (ps:=ps) ha fun g hg'=>hg g (by simp [hg'])⟩
 | .val _::_,_,[],_,ha,_=>ha.elim
 | .ptr _ _::_,_,[],_,ha,_=>ha.elim
 | .ptr _ _::_,_,_::_,[],ha,_=>ha.elim
 | [],_,_::_,_,ha,_=>by simp [zc8]at ha
 | [],_,[],_::_,ha,_=>ha.elim
theorem zcT.mono{h h':Array Obj}{X:Nat->Prop}(hh:∀ c,X c->h'[c]?=h[c]?):∀ {ps:List PTy} {d:Pden ps} {args:List Value},zcT h X ps d args->zcT h' X ps d args
 | [],_,[],_=>trivial
 | .val t::ps,d,x::xs,⟨⟨cs,e,hf⟩,ha⟩=>⟨⟨cs,e,hf.mono fun c hc _=>⟨hc,hh c hc⟩⟩,zcT.mono hh (ps:=ps) ha⟩
 | .ptr T t::ps,d,x::xs,⟨⟨g,cs,e,h1,hf,hg⟩,ha⟩=>⟨⟨g,cs,e,(hh g hg).trans h1,hf.mono fun c hc _=>⟨hc,hh c hc⟩,hg⟩,zcT.mono hh (ps:=ps) ha⟩
 | .val _::_,_,[],ha=>ha.elim
 | .ptr _ _::_,_,[],ha=>ha.elim
 | [],_,_::_,ha=>ha.elim
theorem zcT.len{h:Array Obj}{X:Nat->Prop}:∀ {ps:List PTy} {d:Pden ps} {args:List Value},zcT h X ps d args->args.length=ps.length
 | [],_,[],_=>rfl
 | .val t::ps,d,x::xs,ha=>by simp [zcT.len (ps:=ps) ha.2]
 | .ptr T t::ps,d,x::xs,ha=>by simp [zcT.len (ps:=ps) ha.2]
 | .val _::_,_,[],ha=>ha.elim
 | .ptr _ _::_,_,[],ha=>ha.elim
 | [],_,_::_,ha=>ha.elim
theorem zcT.slots{h:Array Obj}{X:Nat->Prop}{env:Nm}:∀ {ps:List PTy} {d:Pden ps} {args:List Value} {i:Nat},zcT h X ps d args->(∀ k,k<args.length->env (i+k)=args[k]?)->All2 (AvR h X env) (zru ps d i) args
 | [],_,[],_,_,_=>trivial
 | .val t::ps,d,x::xs,i,⟨⟨cs,e,hf⟩,ha⟩,he=>⟨by rw [e];exact znQ hf,zcT.slots (ps:=ps) (i:=i+1) ha fun k hk=>by rw [show i+1+k=i+(k+1) by omega];simpa using he (k+1) (by simpa using hk)⟩
 | .ptr T t::ps,d,x::xs,i,⟨⟨g,cs,e,h1,hf,hg⟩,ha⟩,he=>⟨⟨g,by have:=he 0 (by simp);rw [e]at this;simpa using this,e⟩,zcT.slots (ps:=ps) (i:=i+1) ha fun k hk=>by rw [show i+1+k=i+(k+1) by omega];simpa using he (k+1) (by simpa using hk)⟩
 | .val _::_,_,[],_,ha,_=>ha.elim
 | .ptr _ _::_,_,[],_,ha,_=>ha.elim
 | [],_,_::_,_,ha,_=>ha.elim
theorem zcT.blocks{h:Array Obj}{X:Nat->Prop}{env:Nm}:∀ {ps:List PTy} {d:Pden ps} {args:List Value} {i:Nat},zcT h X ps d args->(∀ k,k<args.length->env (i+k)=args[k]?)->∀ b,zbs (fun _=>False) h X env (fun _=>none) b (look (frzW (zl6 ps d i)) (.b b))
 | [],_,[],_,_,_,_=>trivial
 | .val t::ps,d,x::xs,i,ha,he,b=>zcT.blocks (ps:=ps) (i:=i+1) ha.2 (fun k hk=>by rw [show i+1+k=i+(k+1) by omega];simpa using he (k+1) (by simpa using hk)) b
 | .ptr T t::ps,d,x::xs,i,⟨⟨g,cs,e,h1,hf,hg⟩,ha⟩,he,b=>by
  have k1:=zcT.blocks (ps:=ps) (i:=i+1) ha (fun k hk=>by rw [show i+1+k=i+(k+1) by omega];simpa using he (k+1) (by simpa using hk)) b
  show zbs _ _ _ _ _ _ (look (Wr.w (.b i) (.rb T (flat t d.1))::frzW (zl6 ps d.2 (i+1))) (.b b))
  simp only [look];by_cases hib:i=b
  · subst hib;rw [zaP,qah];exact ⟨g,cs,by have:=he 0 (by simp);rw [e]at this;simpa using this,h1,zcN hf,hg⟩
  · rw [zbg (show Loc.b i≠Loc.b b from fun e=>by cases e;exact hib rfl),qag]
    exact k1
 | .val _::_,_,[],_,ha,_,_=>ha.elim
 | .ptr _ _::_,_,[],_,ha,_,_=>ha.elim
 | [],_,_::_,_,ha,_,_=>ha.elim
theorem PS.start{ps:List PTy}{d:Pden ps}{lb:List Value}{X:Nat->Prop}{w:World}{J:(Nat->Prop)->List α->World->Prop}{yv:Value}(ha:zcT w.heap X ps d lb)(hX:∀ c,X c->c<w.heap.size)(hsz:w.heap.size<=W.heap.size)(hsame:∀ c,X c->W.heap[c]?=w.heap[c]?)
 (hJ:J X [] W) (hnt:ps.length+1<=nt) (hyv:yv.oneCell'=true) :
 PS ⟨yv,X,fun _=>False,W,W.heap.size⟩ J nt (look (zbU ps d)) ⟨(#[yv]++lb.toArray)++Array.replicate (nt-(#[yv]++lb.toArray).size) undef,[]⟩ W (· < ps.length+1) []:=by
 have hl:=ha.len;let env:Nm:=fun b=>(yv::lb)[b]?
 have he:∀ k,k<lb.length->env (1+k)=lb[k]?:=fun k hk=>by simp only [env];rw [Nat.add_comm,qbg]
 have ha':=ha.mono hsame;refine ⟨by simp;omega,qam _,qam _,X,env,⟨fun b=>?_,fun n=>?_⟩,fun b hb=>?_,rfl,⟨fun _ h=>h,fun _ h=>h.elim⟩,fun c hc=>qbk (hX c hc) hsz,hJ,[],rfl,List.nodup_nil,fun _ h=>nomatch h⟩
 · unfold zbU;have:=ha'.blocks (i:=1) he b
   rw [zcs]at this;rw [zcs,zfA];exact this
 · unfold zbU;rw [zcs];have hall:All2 (AvR W.heap X env) (.v (.one (.nam 0))::zru ps d 1) (yv::lb):=⟨⟨rfl,hyv⟩,ha'.slots he⟩;refine zbK.frz (zjS (s:=List.replicate (ps.length+1) .p) (i:=0) (fun n=>zfD (ps:=ps) (d:=d) (i:=1)) hall (fun k v hk=>?_) n)
   rw [zsz]at hk;have hk:(yv::lb)[k]?=some v:=by
    rw [qa6]at hk;split at hk
    · exact hk
    · cases hk
   have hlt:=(qak.1 hk).1;rw [qaL,qba,Array.getElem?_append_left (by simpa [Nat.add_comm] using hlt)]
   have:(#[yv]++lb.toArray)[k]?=some v:=by rw [<-hk];simp
   rw [this];rfl
 · have hb:(yv::lb)[b]?≠none:=hb;have:=(qak.1 (Option.eq_some_iff_get_eq.2 ⟨Option.ne_none_iff_isSome.1 hb,rfl⟩)).1
   simp at this;omega
theorem PS.forget{T:(Nat->Prop)->List α->World->Prop}{fs fs':FS}{pre:List α}{m:Nat}(h:PS p T nt fs a W N pre)(hl:FsLe fs fs')(hk:∀ l,zvJ m l (fs' l))(hm:0<m):PS p T nt fs' a W (· < m) pre:=by
 obtain ⟨X,env,h1,h2,h3,h4⟩:=(h.le hl).ex;let env':Nm:=fun b=>if b<m then env b else none
 have he:∀ b,b<m->env' b=env b:=fun b hb=>if_pos hb
 refine ⟨h.size,h.lo,h.wr,X,env',⟨fun b=>?_,fun n=>?_⟩,fun b hb=>?_,by rw [he 0 hm];exact h3,h4⟩
 · have q:=h1.rb b;have k:=hk (.b b);cases hc:fs' (.b b) with
   | no=>trivial
   | av _=>trivial
   | ln n=>
    rw [hc]at q k;obtain ⟨p,c,e1⟩:=q;exact ⟨p,c,by rw [he b k];exact e1⟩
   | arr m T e l=>
    rw [hc]at q k;obtain ⟨v,e1,e2⟩:=q;exact ⟨v,by rw [he b k];exact e1,e2⟩
   | box T xs=>
    rw [hc]at q;obtain ⟨g,cs,e1,e2,e3,e4⟩:=q;cases e4
   | rb T xs=>
    rw [hc]at q k;obtain ⟨g,cs,e1,e2,e3,e4⟩:=q;exact ⟨g,cs,by rw [he b k.1];exact e1,e2,All2.of_mem (fun a ha b hab=>LfR.rename (p:=(· < m)) he (k.2 a ha) hab) e3,e4⟩
 · have q:=h1.rs n;have k:=hk (.s n);cases hc:fs' (.s n) with
   | av x=>rw [hc]at q k;exact AvR.rename (p:=(· < m)) he k q
   | _=>trivial
 · by_cases h:b<m
   · exact h
   · simp only [env',if_neg h]at hb;exact absurd rfl hb
end
theorem zdt{keep:List Loc}{ws st:List Wr}(h:zci keep ws=true){l:Loc}(hl:l∈keep):look (frzW (ws++st)) l=(look st l).frz:=by
 rw [zcs,zaM,ziV h l hl]
theorem zrj(c:Cell):c.frz.frz=c.frz:=by cases c <;> rfl
theorem zpG(st:List Wr):frzW (frzW st)=frzW st:=by
 unfold frzW;rw [List.map_map];congr 1
 funext w
 cases w with
 | w l c=>show Wr.w l c.frz.frz=Wr.w l c.frz;rw [zrj]
 | cut=>rfl
def cAt:List Nat->Code->Code
 | 0::p,.seq a _=>cAt p a
 | _::p,.seq _ b=>cAt p b
 | 0::p,.cond _ a _=>cAt p a
 | _::p,.cond _ _ b=>cAt p b
 | _::p,.block _ c=>cAt p c
 | _::p,.loop c=>cAt p c
 | _::p,.scope c=>cAt p c
 | 0::p,.rangeFunc _ _ a _=>cAt p a
 | _::p,.rangeFunc _ _ _ b=>cAt p b
 | _,c=>c
def opsOf:Code->Array Oper
 | .region _ ops _=>ops
 | _=>#[]
def idOf:Code->Nat
 | .region id _ _=>id
 | _=>0
def zcc{V X:Type}(step:V->Option ((X×Option V)⊕Unit)):Nat->V->Option (List X)
 | 0,_=>none
 | n+1,v=>match step v with
  | none=>none
  | some (.inr _)=>some []
  | some (.inl (x,none))=>some [x]
  | some (.inl (x,some v'))=>(zcc step n v').map (x :: ·)
open Classical in
def listOf{V X:Type}(step:V->Option ((X×Option V)⊕Unit))(v:V):Option (List X) :=
 if h:∃ n L,zcc step n v=some L then some (Classical.choose (Classical.choose_spec h)) else none
theorem zra{V X:Type}{step:V->Option ((X×Option V)⊕Unit)}{v:V}{L:List X}(h:listOf step v=some L):∃ n,zcc step n v=some L:=by
 unfold listOf at h;split at h
 · rename_i hex;cases h;exact ⟨_,Classical.choose_spec (Classical.choose_spec hex)⟩
 · cases h
theorem zg7{V X:Type}{step:V->Option ((X×Option V)⊕Unit)}:∀ {n k:Nat} {v:V} {L M:List X},zcc step n v=some L->zcc step k v=some M->L=M
 | 0,_,_,_,_,h,_=>by simp [zcc]at h
 | _,0,_,_,_,_,h=>by simp [zcc]at h
 | n+1,k+1,v,L,M,h1,h2=>by
  simp only [zcc]at h1 h2;cases hs:step v with
  | none=>rw [hs]at h1;cases h1
  | some r=>
   rw [hs]at h1 h2;rcases r with ⟨x,v' | v'⟩ | _
   · simp only [Option.some.injEq]at h1 h2;rw [<-h1,<-h2]
   · simp only [qbT]at h1 h2;obtain ⟨L1,a1,rfl⟩:=h1;obtain ⟨L2,a2,rfl⟩:=h2;rw [zg7 a1 a2]
   · simp only [Option.some.injEq]at h1 h2;rw [<-h1,<-h2]
theorem zpx{V X:Type}{step:V->Option ((X×Option V)⊕Unit)}{v:V}{L:List X}{n:Nat}(h:zcc step n v=some L):listOf step v=some L:=by
 have hex:∃ n L,zcc step n v=some L:=⟨n,L,h⟩
 unfold listOf;rw [dif_pos hex,zg7 h (Classical.choose_spec (Classical.choose_spec hex))]
end Go.VI
namespace Go.VI
open Go Go.RowKit
def zl5:(ps:List PTy)->List Cp->T (Pden ps)
 | [],[]=>.ret ()
 | .ptr tt t::ps,.ptr b 0::cs=>do
  match <-rdB b with
  | .rb T' ys=>do
   zat (Nat.beq tt T')
   let (v,rest,_) <-zbd true t ys
   zat rest.isEmpty
   let vs <-zl5 ps cs
   pure (v,vs)
  | _=>.fail
 | _,_=>.fail
theorem zsJ{cx:Cx}{fs:FS}{w:World}{env:Nm}{own:Ow}{X:Nat->Prop}(hb:RB cx fs w env own)(hX:∀ c,cx.ok own c->c<w.heap.size->X c)(hu:∀ bs,unown own bs=own):∀ {ps:List PTy} {cs:List Cp} {vals:List Value} {d:Pden ps},(zl5 ps cs).evs fs=some d->All2 (CpR w.heap (cx.ok own) env) cs vals->zcT w.heap X ps d vals
 | [],[],[],d,_,_=>trivial
 | .ptr tt t::ps,.ptr b o::cs,v::vals,d,h,hv=>by
  cases o with
  | succ _=>simp [zl5,T.evs]at h
  | zero=>
  simp only [zl5]at h;obtain ⟨c,h1,h2⟩:=zaa.1 h;simp only [za0,Option.some.injEq]at h1;subst h1;split at h2
  · rename_i T' ys hfs
    obtain ⟨_,h3,h4⟩:=zaa.1 h2;obtain ⟨⟨v1,rest,w1⟩,h5,h6⟩:=zaa.1 h4;obtain ⟨_,h7,h8⟩:=zaa.1 h6;obtain ⟨vs,h9,h10⟩:=zaa.1 h8;simp at h10;subst h10
    have hT:=qal (zak.1 h3);subst hT;have hrest:=zen h7;subst hrest;have q:=hb b;rw [hfs]at q;obtain ⟨g,cs',e1,e2,e3,e4⟩:=q;obtain ⟨g',f1,f2⟩:=hv.1;rw [e1]at f1;simp at f1;subst f1
    obtain ⟨k1,c1,c2,hc,hr0,hfit⟩:=zb0 hb h5 e3;have:c2=[]:=by cases c2 with
     | nil=>rfl
     | cons _ _=>exact hr0.elim
    subst this;rw [qaZ]at hc;have hf:=hfit (nms w1) fun p hp=>qax.2 ⟨p,hp,rfl⟩
    rw [hu,<-hc]at hf;exact ⟨⟨g,cs',f2,e2,hf.mono fun c hc hl=>⟨hX c hc hl,rfl⟩,hX g e4 (qaE.1 e2).1⟩,zsJ hb hX hu h9 hv.2⟩
  · simp [T.evs]at h2
 | [],_::_,_,_,h,_=>by simp [zl5,T.evs]at h
 | .val _::_,_,_,_,h,_=>by simp [zl5,T.evs]at h
 | .ptr _ _::_,[],_,_,h,_=>by simp [zl5,T.evs]at h
 | .ptr _ _::_,.imm _ _::_,_,_,h,_=>by simp [zl5,T.evs]at h
 | [],[],_::_,_,_,hv=>hv.elim
 | .ptr _ _::_,.ptr _ _::_,[],_,_,hv=>hv.elim
section
variable {α:Type} {p:PC} {nt:Nat} {a a':Act} {W W':World} {N N':Nat->Prop} {T J Jx:(Nat->Prop)->List α->World->Prop} {fs:FS} {pre:List α}
theorem PS.went(hT:Free p.B T)(h:PS p T nt fs a W N pre)(hXr:∀ c,¬p.Xr c){B':Nat}(hB:p.B<=B')(g:Went B' W W')(hD:∀ D,zsr D∈a.defers->D<B'){X1:Nat->Prop}(hX1:∀ c,X1 c->p.X0 c\/(W.heap.size<=c/\c<W'.heap.size)):PS ⟨p.yv,X1,fun _=>False,p.Wr,p.B⟩ T nt fs a W' N pre:=by
 obtain ⟨X,env,h1,h2,h3,h4,h5,h6,Ds,m1,m2,m3⟩:=h.ex;refine ⟨h.size,qaD h.lo g.size,qaD h.wr g.size,fun c=>(X c\/W.heap.size<=c)/\c<W'.heap.size,env,(h1.stay g.stay).mono (fun c hc hl=>⟨⟨.inl hc,hl⟩,rfl⟩) (fun _ _ h=>h),h2,h3,⟨fun c hc=>?_,fun _ h=>h.elim⟩,fun c hc=>hc.2,hT _ _ _ _ _ h6 (g.mono hB) fun c hc=>hc,Ds,m1,m2,fun D hm=>?_⟩
 · rcases hX1 c hc with h | h
   · exact ⟨.inl (h4.1 c h),qbk (h5 c (h4.1 c h)) g.size⟩
   · exact ⟨.inr h.1,h.2⟩
 · obtain ⟨q1,q2,q3,q4⟩:=m3 D hm;have hlt:=hD D (by rw [m1];exact qax.2 ⟨D,hm,rfl⟩)
   exact ⟨g.old _ _ q1 (.inr hlt),⟨.inl q2,qbk (h5 D q2) g.size⟩,q3,fun h=>h⟩
theorem PS.weak(h:PS p T nt fs a W N pre){X1:Nat->Prop}(hX1:∀ c,X1 c->p.X0 c):PS ⟨p.yv,X1,fun _=>False,p.Wr,p.B⟩ T nt fs a W N pre:=by
 obtain ⟨X,env,h1,h2,h3,h4,h5,h6,Ds,m1,m2,m3⟩:=h.ex;exact ⟨h.size,h.lo,h.wr,X,env,h1,h2,h3,⟨fun c hc=>h4.1 c (hX1 c hc),fun _ h=>h.elim⟩,h5,h6,Ds,m1,m2,fun D hD=>⟨(m3 D hD).1,(m3 D hD).2.1,(m3 D hD).2.2.1,fun h=>h⟩⟩
end
section
variable {nt:Nat}
set_option maxHeartbeats 1000000 in
theorem PS.rangeFunc{p:PC}{a:Act}{W:World}{P:Program}{m0:Nat}{ts:List Ty}{J Jx:(Nat->Prop)->List (Tden ts)->World->Prop}{acc:List (Tden ts)}{st:List Wr}{nx g:Nat}{ps:Array Tmp}{assign body:Code}{gf:FuncId}{cs:List Cp}{psG:List PTy}{d:Pden psG}{Li:List (Tden ts)}{Q:Exit->Act->World->Prop}
 (hJ:Free p.B J) (hJx:Free p.B Jx) (hXr:∀ c,¬p.Xr c) (h:PS p J nt (look st) a W (· < nx) acc) (hg:look st (.s g) = .av (.v (.one (.clo gf [] cs)))) (hc:(zl5 psG cs).evs (look st)=some d) (eg:zcz P gf)
 (hseq:∀ (w:World) (X:Nat->Prop) (lb:List Value),zcT w.heap X psG d lb->(∀ c,X c->c<w.heap.size)->zmZ P gf lb.toArray (encs ts) X Li w)
 (hpl:∀ t∈ts,t.plain=true) (hps:ps.toList.length=ts.length) (hnd:ps.toList.Nodup) (hlt:∀ q∈ps.toList,q<nt) (Last Ok:List (Tden ts)->Prop) (hOk:Ok []) (stA:Tden ts->List Wr) (nA:Tden ts->Nat)
 (hassign:∀ (l:Nat) (p':PC) (pre:List (Tden ts)) (x:Tden ts) (a1:Act) (W1:World) (Q:Exit->Act->World->Prop),p'.yv=p.yv->p'.B=p.B->(∀ c,p.X0 c->p'.X0 c)->(pre++[x]) <+: Li->PS p' J nt (look (zeH ps.toList ts x++st)) a1 W1 (· < nx) (acc++pre) ->
  (∀ a2 W2,PS p' J nt (look (stA x)) a2 W2 (· < nA x) (acc++pre)->Q .normal a2 W2)->assign.wpIn (Fw (some l)) 0 P Q a1 W1)
 (hbody:∀ (l:Nat) (p':PC) (pre:List (Tden ts)) (x:Tden ts) (a2:Act) (W2:World) (Q:Exit->Act->World->Prop),p'.yv=p.yv->p'.B=p.B->(∀ c,p.X0 c->p'.X0 c)->(pre++[x]) <+: Li->PS p' J nt (look (stA x)) a2 W2 (· < nA x) (acc++pre) ->
  (∀ a3 W3 fs N,Ok (pre++[x])->PS p' J nt fs a3 W3 N (acc++(pre++[x]))->Q .normal a3 W3)->(∀ a3 W3 fs N,Last (pre++[x])->PS p' J nt fs a3 W3 N (acc++(pre++[x]))->Q .ret a3 W3)->(∀ a3 W3 fs N,PS p' Jx nt fs a3 W3 N (acc++(pre++[x]))->Q .ret a3 W3)->body.wpIn (Fw (some l)) 0 P Q a2 W2)
 (hdone:∀ a' W',Ok Li->PS p J nt (look st) a' W' (· < nx) (acc++Li)->Q .normal a' W') (hret:∀ a' W' s,Last s->PS p J nt (look st) a' W' (· < nx) (acc++s)->Q .ret a' W') (hretx:∀ a' W' s,s <+: Li->PS p Jx nt (look st) a' W' (· < nx) (acc++s)->Q .ret a' W') :
 (Code.rangeFunc (.tmp g) ps assign body).wpIn (Fw none) m0 P Q a W:=by
 have hDs:∀ D,zsr D∈a.defers->D<W.heap.size:=by
  obtain ⟨X,env,h1,h2,h3,h4,h5,h6,Ds,m1,m2,m3⟩:=h.ex;intro D hD;rw [m1]at hD;obtain ⟨D',q1,q2⟩:=qax.1 hD;have:D'=D:=by simpa [zsr] using q2
  subst this;exact h5 D' (m3 D' q1).2.1
 obtain ⟨I,hI⟩:∃ I:((Nat->Prop)->List (Tden ts)->World->Prop)->(Nat->Prop)->List (Tden ts)->World->Prop,I=fun T X s W'=>PS ⟨p.yv,fun c=>p.X0 c\/X c\/((c=W.heap.size\/c=W.heap.size+1)/\c<W'.heap.size),fun _=>False,p.Wr,p.B⟩ T nt (look st) a W' (· < nx) (acc++s):=⟨_,rfl⟩
 have hfree:∀ {T:(Nat->Prop)->List (Tden ts)->World->Prop},Free p.B T->Free W.heap.size (I T):=by
  intro T hT;rw [hI];intro X X' s W1 W2 h1 hw hX
  refine PS.went (p:=⟨p.yv,fun c=>p.X0 c\/X c\/((c=W.heap.size\/c=W.heap.size+1)/\c<W1.heap.size),fun _=>False,p.Wr,p.B⟩) hT h1 (fun _ h=>h) h.lo hw hDs fun c hc=>?_
  rcases hc with hc | hc | ⟨hc,hc2⟩
  · exact .inl (.inl hc)
  · rcases hX c hc with ⟨q | q,q2⟩
    · exact .inl (.inr (.inl q))
    · exact .inr ⟨q,q2⟩
  · rcases Nat.lt_or_ge c W1.heap.size with hl | hl
    · exact .inl (.inr (.inr ⟨hc,hl⟩))
    · exact .inr ⟨hl,hc2⟩
 obtain ⟨lb,hge,X0,hcr,hXl,hst⟩:∃ lb:List Value,a.eval (.tmp g) = .func (.func gf) #[] lb.toArray/\∃ X,zcT W.heap X psG d lb/\(∀ c,X c->c<W.heap.size)/\PS ⟨p.yv,fun c=>p.X0 c\/X c,fun _=>False,p.Wr,p.B⟩ J nt (look st) a W (· < nx) acc:=by
  obtain ⟨cx,hS,hb⟩:=h.into hJ;obtain ⟨X,env,h1,h2,h3,h4,h5,h6,Ds,m1,m2,m3⟩:=h.ex;have hsl:=h1.rs g;rw [hg]at hsl;obtain ⟨vs,us,e1,e2,e3⟩:∃ vs us,a.tmps.getD g undef = .func (.func gf) vs us/\All2 (CpR W.heap X env) [] vs.toList/\All2 (CpR W.heap X env) cs us.toList:=hsl
  have hvs:vs=#[]:=by
   cases hq:vs.toList with
   | nil=>exact Array.toList_eq_nil_iff.1 hq
   | cons a b=>rw [hq]at e2;exact e2.elim
  subst hvs;let cx1:Cx:=⟨W,X,fun _=>False,env,fun _=>False⟩
  have hok:∀ c,X c->cx1.ok (fun _=>none) c:=fun c hc=>⟨rfl,.inl hc⟩
  have hRB:RB cx1 (look st) W env (fun _=>none):=fun b=>(h1.rb b).conv (fun _ h=>nomatch h) (fun c hc _=>⟨hok c hc,rfl⟩) (fun _ _ h=>h) (fun _ h=>nomatch h)
  refine ⟨us.toList,by show a.tmps.getD g undef=_;rw [e1],X,zsJ (X:=X) hRB (fun c hcc hl=>?_) (fun bs=>by funext c;rfl) hc (e3.mono fun _ _=>CpR.mono (fun c hc _=>⟨hok c hc,rfl⟩) fun _ _ h=>h),h5,h.size,h.lo,h.wr,X,env,h1,h2,h3,⟨fun c hc=>hc.elim (h4.1 c) id,fun _ h=>h.elim⟩,h5,h6,Ds,m1,m2,fun D hD=>⟨(m3 D hD).1,(m3 D hD).2.1,(m3 D hD).2.2.1,fun h=>h⟩⟩
  rcases hcc.2 with h | h | h
  · exact h
  · have:W.heap.size<=c:=h
    omega
  · exact h.1.elim
 have hbk:∀ {T:(Nat->Prop)->List (Tden ts)->World->Prop} {X:Nat->Prop} {s:List (Tden ts)} {W2:World},I T X s W2->W.heap.size<W2.heap.size->W2.heap[W.heap.size]?=some (.deferred (some []))->PS p T nt (look st) { a with defers:={ target:=.collected W.heap.size,args:=#[] }::a.defers } W2 (· < nx) (acc++s):=by
  intro T X s W2 hi hlt hD;rw [hI]at hi;obtain ⟨X2,env,h1,h2,h3,h4,h5,h6,Ds,m1,m2,m3⟩:=hi.ex;refine ⟨hi.size,hi.lo,hi.wr,X2,env,h1,h2,h3,⟨fun c hc=>h4.1 c (.inl hc),fun c hc=>absurd hc (hXr c)⟩,h5,h6,W.heap.size::Ds,by rw [m1];rfl,qbu.2 ⟨fun hm=>?_,m2⟩,fun D hm=>?_⟩
  · have:=hDs W.heap.size (by rw [m1];exact qax.2 ⟨_,hm,rfl⟩)
    omega
  · rcases qat.1 hm with rfl | hm
    · exact ⟨hD,h4.1 _ (.inr (.inr ⟨.inl rfl,hlt⟩)),h.lo,hXr _⟩
    · exact ⟨(m3 D hm).1,(m3 D hm).2.1,(m3 D hm).2.2.1,hXr _⟩
 refine ziU (m0:=m0) (L:=Li) (encs:=encs ts) (X0:=X0) hge eg (hseq W X0 lb hcr hXl) hXl (fun x=>by simp [encs,zn3,<-hps]) (fun X s W'=>Ok s/\I J X s W') (fun c X s W'=>c = .ret/\((Last s/\I J X s W')\/(s <+: Li/\I Jx X s W'))) (fun X X' s W1 W2 hj hw hX=>⟨hj.1,hfree hJ _ _ _ _ _ hj.2 hw hX⟩)
  (fun c X X' s W1 W2 hj hw hX=>⟨hj.1,hj.2.imp (fun q=>⟨q.1,hfree hJ _ _ _ _ _ q.2 hw hX⟩) fun q=>⟨q.1,hfree hJx _ _ _ _ _ q.2 hw hX⟩⟩) ?start ?round ?done ?stop
 case start=>
  refine ⟨hOk,?_⟩;rw [hI];dsimp only;rw [qaZ];exact hst.weak fun c hc=>by
   rcases hc with hc | hc | ⟨hc,hc2⟩
   · exact .inl hc
   · exact .inr hc
   · omega
 case done=>
  rintro X W2 ⟨hO,hi⟩ hlt hnX hD;exact hdone _ _ hO (hbk hi hlt hD)
 case stop=>
  rintro X c s W2 ⟨rfl,hor⟩ hlt hnX hD;rcases hor with ⟨hl,hi⟩ | ⟨hl,hi⟩
  · exact wpIn_ret (hret _ _ s hl (hbk hi hlt hD))
  · exact wpIn_ret (hretx _ _ s hl (hbk hi hlt hD))
 case round=>
  rintro l X pre x W1 o ho rfl nXl nXB hXs hol hD ⟨_,hi⟩ hsub hpre;have hi':=hi;rw [hI]at hi'
  obtain ⟨X1,env,h1,h2,h3,h4,h5,h6,Ds,m1,m2,m3⟩:=hi'.ex;have hlW:=(qaE.1 hol).1;have hBW:=(qaE.1 hD).1;have xl:X1 (W.heap.size+1):=h4.1 _ (.inr (.inr ⟨.inr rfl,hlW⟩));have xD:X1 W.heap.size:=h4.1 _ (.inr (.inr ⟨.inl rfl,hBW⟩));have htm:(ps.zip (encs ts x)).foldl (fun t (p,v)=>t.setIfInBounds p v) a.tmps=(ps.toList.zip (encL ts x)).foldl (fun (t:Array Value) (p:Tmp×Value)=>t.setIfInBounds p.1 p.2) a.tmps:=by
   rw [<-Array.foldl_toList,Array.toList_zip]
   rfl
  rw [htm];have hP1:PS ⟨p.yv,X1,X1,W1,p.B⟩ J nt (look (zeH ps.toList ts x++st)) ⟨(ps.toList.zip (encL ts x)).foldl (fun (t:Array Value) (p:Tmp×Value)=>t.setIfInBounds p.1 p.2) a.tmps,[]⟩ W1 (· < nx) (acc++pre):=by
   refine ⟨by rw [zkO];exact hi'.size,hi'.lo,qam _,X1,env,⟨fun b=>by rw [zjP];exact h1.rb b,fun n=>zf3 hpl hps hnd (fun q hq=>by rw [hi'.size];exact hlt q hq) (h1.rs n)⟩,h2,h3,⟨fun _ h=>h,fun c hc=>⟨hc,rfl⟩⟩,h5,h6,[],rfl,List.nodup_nil,fun _ h=>nomatch h⟩
  refine hassign _ ⟨p.yv,X1,X1,W1,p.B⟩ pre x _ W1 _ rfl rfl (fun c hc=>h4.1 c (.inl hc)) hpre hP1 fun a2 W2 hP2=>?_
  obtain ⟨X2,env2,g1,g2,g3,g4,g5,g6,Ds2,n1,n2,n3⟩:=hP2.ex;have hl2:W2.heap[W.heap.size+1]?=some o:=(g4.2 _ xl).2.trans hol
  refine ⟨hl2,fun o' ho'=>?_⟩
  have hput:Went p.B W2 (W2.putObj (W.heap.size+1) o'):=Went.put o' (Nat.le_succ_of_le h.lo) hl2 ho;have hlt2:=(qaE.1 hl2).1;obtain ⟨W3,hW3⟩:∃ W3,W3=W2.putObj (W.heap.size+1) o':=⟨_,rfl⟩
  rw [<-hW3]at hput ⊢
  have s3:W3.heap.size=W2.heap.size:=by rw [hW3];simp
  have l3:W3.heap[W.heap.size+1]?=some o':=by rw [hW3];exact World.putObj_heap_same hlt2
  have k3:∀ c,X1 c->c≠W.heap.size+1->W3.heap[c]?=W1.heap[c]?:=fun c hc hne=>by rw [hW3,World.putObj_heap_other hne];exact (g4.2 c hc).2
  have hP3:PS ⟨p.yv,X1,X1,W3,p.B⟩ J nt (look (stA x)) a2 W3 (· < nA x) (acc++pre):=by
   refine ⟨hP2.size,by rw [s3];exact hP2.lo,qam _,X2,env2,g1.stay hput.stay,g2,g3,⟨g4.1,fun c hc=>⟨g4.1 c hc,rfl⟩⟩,fun c hc=>by rw [s3];exact g5 c hc,hJ _ _ _ _ _ g6 hput fun c hc=>⟨.inl hc,by rw [s3];exact g5 c hc⟩,Ds2,n1,n2,fun D hDm=>?_⟩
   obtain ⟨q1,q2,q3,q4⟩:=n3 D hDm;exact ⟨by rw [hW3,World.putObj_heap_other (by rintro rfl;exact q4 xl)];exact q1,q2,q3,q4⟩
  have back:∀ {T:(Nat->Prop)->List (Tden ts)->World->Prop} {fs:FS} {a3:Act} {W4:World} {N:Nat->Prop},PS ⟨p.yv,X1,X1,W3,p.B⟩ T nt fs a3 W4 N (acc++(pre++[x]))->W4.heap[W.heap.size+1]?=some o'/\W4.heap[W.heap.size]?=some (.deferred (some []))/\Kept X W1 W4/\I T X (pre++[x]) W4:=by
   intro T fs a3 W4 N h4'
   obtain ⟨X4,env4,f1,f2,f3,f4,f5,f6,-⟩:=h4'.ex;have k4:∀ c,X1 c->W4.heap[c]?=W3.heap[c]?:=fun c hc=>(f4.2 c hc).2
   have s4:W1.heap.size<=W4.heap.size:=qaD (qaD hP2.wr (Nat.le_of_eq s3.symm)) h4'.wr
   refine ⟨(k4 _ xl).trans l3,((k4 _ xD).trans (k3 _ xD (by omega))).trans hD,⟨s4,fun c hc=>(k4 c (h4.1 c (.inr (.inl hc)))).trans (k3 c (h4.1 c (.inr (.inl hc))) (by rintro rfl;exact nXl hc))⟩,?_⟩
   rw [hI];have hst:Stay W1.heap (W1.putObj (W.heap.size+1) o').heap:=(Went.put (B:=0) o' (qa8 _) hol ho).stay
   refine ⟨hi'.size,h4'.lo,qaD hi'.wr s4,X4,env,(h1.stay hst).mono (fun c hc _=>⟨f4.1 c hc,?_⟩) (fun _ _ h=>h),h2,h3,⟨fun c hc=>?_,fun _ h=>h.elim⟩,f5,f6,Ds,m1,m2,fun D hDm=>?_⟩
   · by_cases e:c=W.heap.size+1
     · subst e;rw [World.putObj_heap_same hlW];exact (k4 _ xl).trans l3
     · rw [World.putObj_heap_other e];exact (k4 c hc).trans (k3 c hc e)
   · rcases hc with hc | hc | ⟨hc | hc,hc2⟩
     · exact f4.1 c (h4.1 c (.inl hc))
     · exact f4.1 c (h4.1 c (.inr (.inl hc)))
     · subst hc;exact f4.1 _ xD
     · subst hc;exact f4.1 _ xl
   · obtain ⟨q1,q2,q3,q4⟩:=m3 D hDm;have hlt:=hDs D (by rw [m1];exact qax.2 ⟨D,hDm,rfl⟩)
     exact ⟨((k4 D q2).trans (k3 D q2 (by omega))).trans q1,f4.1 D q2,q3,fun h=>h⟩
  refine hbody _ ⟨p.yv,X1,X1,W3,p.B⟩ pre x a2 W3 _ rfl rfl (fun c hc=>h4.1 c (.inl hc)) hpre hP3 (fun a3 W4 fs N hO hq=>?_) (fun a3 W4 fs N hl hq=>?_) (fun a3 W4 fs N hq=>?_)
  · obtain ⟨q1,q2,q3,q4⟩:=back hq;exact ⟨q1,q2,q3,hO,q4⟩
  · obtain ⟨q1,q2,q3,q4⟩:=back hq;exact ⟨q1,q2,q3,rfl,.inl ⟨hl,q4⟩⟩
  · obtain ⟨q1,q2,q3,q4⟩:=back hq;exact ⟨q1,q2,q3,rfl,.inr ⟨hpre,q4⟩⟩
end
end Go.VI
namespace Go.VI
open Go Go.RowKit
def zB:Ty->List Value->Option (List Value)
 | .bool,.bool false::r=>some r
 | .int k,.int k' n::r=>cond (decide (k=k')&&n == 0) (some r) none
 | .slice _,.slice none 0 0::r=>some r
 | .prod a b,xs=>(zB a xs).bind fun r=>zB b r
 | .unit,xs=>some xs
 | .raw .fn,.nilFunc::r=>some r
 | .raw .map,.map none::r=>some r
 | .raw .ifc,.nilIface::r=>some r
 | .raw .ptr,.pointer none::r=>some r
 | .ifo _ _,.nilIface::r=>some r
 | _,_=>none
theorem zB_ok:∀ {t:Ty} {xs r:List Value},zB t xs=some r->xs=zfH t++r
 | .bool,xs,r,h=>by
  unfold zB at h;split at h <;> simp_all [zfH]
 | .int k,xs,r,h=>by
  match xs,h with
  | .int k' n::r',h=>
   simp only [zB]at h;cases hc:(decide (k=k')&&n == 0) with
   | false=>simp [hc]at h
   | true=>
    simp [hc]at h;subst h
    simp only [qae,qaa,qaC]at hc;obtain ⟨rfl,rfl⟩:=hc
    rfl
  | [],h=>simp [zB]at h
 | .slice _,xs,r,h=>by
  unfold zB at h;split at h <;> simp_all [zfH]
 | .prod a b,xs,r,h=>by
  simp only [zB]at h;obtain ⟨r1,h1,h2⟩:=qbB.1 h;rw [zB_ok h1,zB_ok h2];simp [zfH]
 | .unit,xs,r,h=>by simp [zB]at h;simp [zfH,h]
 | .raw k,xs,r,h=>by
  cases k <;> (unfold zB at h;split at h <;> simp_all [zfH])
 | .ifo _ _,xs,r,h=>by
  unfold zB at h;split at h <;> simp_all [zfH]
def ztr(P:Program)(t:TypeId)(ty:Ty)(f:TypeInfo->Bool):Bool:=match P.info? t with
 | some i=>Nat.beq i.size ty.size&&f i
 | none=>false
def zvM(ty:Ty)(i:TypeInfo):Bool:=match i.zero with
 | some z=>match zB ty z.cells.toList with
  | some []=>true
  | _=>false
 | none=>false
def aggB(P:Program)(t:TypeId)(ty:Ty):Bool:=match P.underlying t with
 | some d=>aggD d == ty.isAgg
 | none=>false
def ziq(P:Program):List Field->List (Nat×Ty)->Bool
 | [],[]=>true
 | f::fs,p::ps=>Nat.beq f.offset p.1&&ztr P f.type p.2 (fun _=>true)&&Nat.blt 0 p.2.size&&aggB P f.type p.2&&ziq P fs ps
 | _,_=>false
def zh2(e:Ty):Nat->Nat->List (Nat×Ty)->Bool
 | 0,_,[]=>true
 | n+1,k,p::ps=>Nat.beq p.1 (k*e.size)&&Ty.eqb p.2 e&&zh2 e n (k+1) ps
 | _,_,_=>false
def arrB(P:Program)(r:Row):Bool:=match r.arr with
 | none=>true
 | some (n,e)=>r.ty.isAgg&&(match P.underlying r.t with
  | some (.array m t)=>Nat.beq m n&&Nat.beq t r.elem
  | _=>false)&&ztr P r.elem e (fun _=>true)&&Nat.blt 0 e.size&&aggB P r.elem e&&zh2 e n 0 r.fields
def rowB(P:Program)(r:Row):Bool :=
 ztr P r.t r.ty (zvM r.ty)&&aggB P r.t r.ty &&
 (match r.ty with
  | .int k=>(match P.underlying r.t with
   | some (.int k')=>decide (k'=k)
   | _=>false)
  | .slice e=>(match P.underlying r.t with
   | some (.slice t)=>Nat.beq t r.elem
   | _=>false)&&ztr P r.elem e (fun i=>Nat.beq i.bytes r.bytes&&zvM e i)&&Nat.blt 0 e.size&&Nat.blt 0 r.bytes
  | _=>true) &&
 cond r.isStruct (match P.underlying r.t with
  | some (.struct fs)=>ziq P fs.toList r.fields
  | _=>false) true &&
 arrB P r &&
 cond r.cmp (!P.eqGuardType P.depth r.t&&zn5 P 20 r.t r.ty) true
section
variable {P:Program} {te:TE}
theorem zjU{t:TypeId}{ty:Ty}{f:TypeInfo->Bool}(h:ztr P t ty f=true):∃ i,P.info? t=some i/\i.size=ty.size/\f i=true:=by
 unfold ztr at h;split at h
 · rename_i i hi;simp only [qae]at h;exact ⟨i,hi,qal h.1,h.2⟩
 · cases h
theorem zr2{ty:Ty}{i:TypeInfo}(h:zvM ty i=true):∃ z,i.zero=some z/\z.cells.toList=zfH ty:=by
 unfold zvM at h;split at h
 · rename_i z hz;split at h
   · rename_i h2;exact ⟨z,hz,by simpa using zB_ok h2⟩
   · cases h
 · cases h
theorem zrz{t:TypeId}{ty:Ty}(h:aggB P t ty=true):∃ d,P.underlying t=some d/\aggD d=ty.isAgg:=by
 unfold aggB at h;split at h
 · rename_i d hd;exact ⟨d,hd,by simpa using h⟩
 · cases h
theorem zmN:∀ {fs:List Field} {ps:List (Nat×Ty)},ziq P fs ps=true->fs.length=ps.length/\∀ (j:Nat) f,fs[j]?=some f->∃ p,ps[j]?=some p/\f.offset=p.1/\∃ i d,P.info? f.type=some i/\i.size=p.2.size/\0<p.2.size/\P.underlying f.type=some d/\aggD d=p.2.isAgg
 | [],[],_=>⟨rfl,fun j f h=>by simp at h⟩
 | f::fs,p::ps,h=>by
  simp only [ziq,qae]at h;obtain ⟨⟨⟨⟨h1,h2⟩,h3⟩,h4⟩,h5⟩:=h;obtain ⟨e,k⟩:=zmN h5;refine ⟨by simp [e],fun j g hg=>?_⟩
  cases j with
  | zero=>
   simp at hg;subst hg
   obtain ⟨i,hi,hs,_⟩:=zjU h2;obtain ⟨d,hd,ha⟩:=zrz h4;exact ⟨p,rfl,qal h1,i,d,hi,hs,by simpa using h3,hd,ha⟩
  | succ j=>exact k j g (by simpa using hg)
 | [],_::_,h=>by simp [ziq]at h
 | _::_,[],h=>by simp [ziq]at h
theorem zms{e:Ty}:∀ {n k:Nat} {ps:List (Nat×Ty)},zh2 e n k ps=true->ps=(List.range' k n).map fun j=>(j*e.size,e)
 | 0,k,[],_=>rfl
 | n+1,k,(a,b)::ps,h=>by
  simp only [zh2,qae]at h;rw [qcl,qaY,<-zms h.2,qal h.1.1,Ty.eqb_eq h.1.2]
 | 0,_,_::_,h=>by simp [zh2]at h
 | _+1,_,[],h=>by simp [zh2]at h
theorem rowB_ok{r:Row}(h:rowB P r=true):RowOk P te r:=by
 unfold rowB at h;simp only [qae]at h;obtain ⟨⟨⟨⟨⟨h1,h2⟩,h3⟩,h4⟩,h6⟩,h5⟩:=h;obtain ⟨i,hi,hs,hz⟩:=zjU h1;obtain ⟨z,hz1,hz2⟩:=zr2 hz;refine ⟨⟨i,z,hi,hs,hz1,hz2⟩,zrz h2,fun k hk=>?_,fun e he=>?_,fun ha hna=>?_,fun n e hra=>?_,fun hc=>?_⟩
 · rw [hk]at h3;simp only at h3
   split at h3
   · rename_i k' hu
     rw [hu,qar h3]
   · cases h3
 · rw [he]at h3;simp only [qae]at h3;obtain ⟨⟨⟨q1,q2⟩,q3⟩,q4⟩:=h3;obtain ⟨j,hj,hjs,hjf⟩:=zjU q2;simp only [qae]at hjf;obtain ⟨y,hy1,hy2⟩:=zr2 hjf.2;split at q1
   · rename_i t hu;exact ⟨by rw [hu,qal q1],j,y,hj,hjs,qal hjf.1,by simpa using q3,by simpa using q4,hy1,hy2⟩
   · cases q1
 · rw [show r.isStruct=true by simp [Row.isStruct,ha,hna],qah]at h4
   split at h4
   · rename_i fs hu;obtain ⟨e,k⟩:=zmN h4;exact ⟨fs,hu,by simpa using e,fun j f hf=>k j f (by simpa using hf)⟩
   · cases h4
 · unfold arrB at h6;rw [hra]at h6;simp only [qae]at h6;obtain ⟨⟨⟨⟨⟨q1,q2⟩,q3⟩,q4⟩,q5⟩,q6⟩:=h6;obtain ⟨j,hj,hjs,_⟩:=zjU q3;obtain ⟨d,hd,hda⟩:=zrz q5;split at q2
   · rename_i m t hu;simp only [qae]at q2;refine ⟨q1,by rw [hu,qal q2.1,qal q2.2],j,d,hj,hjs,by simpa using q4,hd,hda,?_⟩
     rw [zms q6,List.range_eq_range']
   · cases q2
 · rw [hc,qah]at h5;simpa using h5
theorem TEok.of(h:te.all (rowB P)=true):TEok P te:=by
 have:∀ te':TE,(∀ r∈te',r∈te)->∀ t r,te'.find t=some r->r.t=t/\r∈te:=by
  intro te'
  induction te' with
  | nil=>intro _ t r h;simp [TE.find]at h
  | cons r' te' ih=>
   intro hm t r hf;simp only [TE.find]at hf;cases hb:Nat.beq r'.t t with
   | true=>
    simp [hb]at hf;subst hf
    exact ⟨qal hb,hm _ (by simp)⟩
   | false=>
    simp [hb]at hf
    exact ih (fun r hr=>hm r (by simp [hr])) t r hf
 intro t r hf;obtain ⟨h1,h2⟩:=this te (fun _ h=>h) t r hf
 exact ⟨h1,rowB_ok (qaO.1 h r h2)⟩
theorem Tbl.sound_nil:Tbl.Sound P []:=fun E h=>by cases h
theorem Tbl.sound_more{E:Ent}{tbl:Tbl}(h1:zcz P E.f)(h2:E.Sound P)(h3:Tbl.Sound P tbl):Tbl.Sound P (E::tbl):=fun E' h=>by
 rcases qat.1 h with rfl | h
 · exact ⟨h1,h2⟩
 · exact h3 E' h
theorem Tbl.sound_cons{E:Entry}{tbl:Tbl}(h1:zcz P E.f)(h2:E.Sound P)(h3:Tbl.Sound P tbl):Tbl.Sound P (E.ent::tbl):=Tbl.sound_more h1 h2.ent h3
def zmS(f:Func):Code:=f.body.getD .skip
def okF (fn : Func) (n k : Nat) : Bool := !(fn.name == "runtime.NumGoroutine") && fn.body.isSome && Nat.beq k fn.ntmps && Nat.ble n k
theorem zah{tbl:Tbl}{ann:Ann}(ht:TEok P te)(hmix:P.follows .mixedOrders=true)(hT:tbl.Sound P){fn:Func}{f k:Nat}{sh:List AP}{ps:List PTy}{rs:List RTy}(hf:P.funcs[f]?=some fn)(hk:okF fn sh.length k=true)
 {F:Pden ps->Option (Rden rs×Oden ps)} (hF:F=fun d=>(funT te tbl ann k (zmS fn) fn.results.toList sh ps rs d).ev) (hA:ann.Sound P):zcz P f/\(⟨f,sh,ps,rs,F⟩:Entry).Sound P:=by
 simp only [okF,qae,qao]at hk;obtain ⟨⟨⟨h1,h2⟩,h3⟩,h4⟩:=hk;obtain ⟨c,hc⟩:=qcA.1 h2;have h3:=qal h3;subst h3;have hb:zmS fn=c:=by simp [zmS,hc]
 refine ⟨fun args w=>?_,zvk (ann:=ann) ht hT hA hmix ⟨f,sh,ps,rs,F⟩ hf hc (qbE h4) fun d r h=>?_⟩
 · simp only [qaX,ne_eq]at h1;simp [callFunc,hf,h1,hc]
 · subst hF;rw [hb]at h;exact h
end
end Go.VI
namespace Go.VI
open Go Go.RowKit
section
variable {P:Program} {te:TE} {tbl:Tbl} {ann:Ann}
theorem St.put{cx:Cx}{nt:Nat}{st:List Wr}{act:Act}{w:World}{N:Nat->Prop}(hS:St cx nt (look st) act w N){q:Nat}{v:Value}{c:Cell}(hq:q<nt)(hv:∀ h ok env,zbK h ok env c v):St cx nt (look (.w (.s q) c::st)) (act.put (some q) v) w N:=by
 obtain ⟨env,own,h1,h2,h3,h4⟩:=hS.ex;refine ⟨by rw [znf];exact hS.size,env,own,h1,fun b=>?_,fun n=>?_,by rw [zis];exact h4⟩
 · simp only [look,Loc.eqb,qag];exact h2 b
 · rw [znV _ _ _ _ (by simp [zvs,hS.size,hq])]
   by_cases hn:q=n
   · subst hn;simp only [look,zaP,qah,if_true];exact hv _ _ _
   · simp only [look];rw [zbg (fun e=>hn (by injection e)),qag,if_neg (fun e=>hn (by injection e))]
     exact h3 n
theorem zpP {fn : Func} {f : Nat} (hf : P.funcs[f]? = some fn) (hk : (!(fn.name == "runtime.NumGoroutine") && fn.body.isSome) = true) : zcz P f := by
 simp only [qae,qao]at hk;obtain ⟨h1,h2⟩:=hk;obtain ⟨c,hc⟩:=qcA.1 h2;intro args w;simp only [qaX,ne_eq]at h1;simp [callFunc,hf,h1,hc]
end
end Go.VI
namespace Go.VI
open Go Go.RowKit
def wfD:(t:Ty)->t.den->Prop
 | .bool,_=>True
 | .int k,n=>(Lit.int k n).wf=true
 | .slice e,l=>l.length<=maxLen/\∀ y∈l,wfD e y
 | .prod a b,v=>wfD a v.1/\wfD b v.2
 | .unit,_=>True
 | .raw _,_=>False
 | .ifo _ _,_=>False
def zd4(P:Program)(c:TypeId->Ty->Bool):List Field->Nat->Ty->Bool
 | [],_,.unit=>true
 | f::fs,off,.prod a b=>Nat.beq f.offset off&&Nat.beq (P.cellsOf f.type) a.size&&c f.type a&&zd4 P c fs (off+a.size) b
 | _,_,_=>false
def zd5(P:Program):Nat->TypeId->Ty->Bool
 | 0,_,_=>false
 | _+1,t,.bool=>match P.underlying t with
  | some .bool=>true
  | _=>false
 | _+1,t,.int k=>match P.underlying t with
  | some (.int k')=>decide (k'=k)
  | _=>false
 | d+1,t,.slice e=>match P.underlying t with
  | some (.slice u)=>Nat.beq (P.cellsOf u) e.size&&Nat.blt 0 e.size&&zd5 P d u e
  | _=>false
 | d+1,t,ty=>match P.underlying t with
  | some (.struct fs)=>Nat.beq (P.cellsOf t) ty.size&&zd4 P (zd5 P d) fs.toList 0 ty
  | _=>false
section
variable {H:Type} {enc:TypeId×Value->H} {P:Program} {w:World} {spare:Nat->Bool} {held:Bool}
def Reads(P:Program)(enc:TypeId×Value->H)(w:World)(spare:Nat->Bool)(held:Bool)(t:TypeId)(ty:Ty):Prop :=
 ∀ n cs x,DataW.trod enc P w 0 spare held n t cs=some x->∃ v:ty.den,Fits w.heap (fun c=>c<w.heap.size) ty v cs/\wfD ty v
theorem zsI{a:Addr}{n:Nat}{cs:List Value}(h:w.cells? 0 a n=some cs)(hn:0<n):a.spot=none/\∃ cur T fz,w.heap[a.block]?=some (.cells cur T fz)/\a.off+n<=cur.size/\cs=(cur.toList.drop a.off).take n:=by
 unfold World.cells? at h
 rw [if_pos (qa8 _)]at h;have hlen:=mapM_some_length h;have hget:=fun (i:Nat) (hi:i<n)=>mapM_some_get h i i (by simp [hi])
 simp at hlen
 have h0:=hget 0 hn;have hs0:∃ v,cs[0]?=some v:=⟨cs[0]'(by omega),qap _⟩
 obtain ⟨v0,hv0⟩:=hs0;rw [hv0]at h0;obtain ⟨ab,ao,as⟩:=a;unfold World.cell? at h0
 cases hh:w.heap[ab]? with
 | none=>simp [Addr.add,hh]at h0
 | some o=>
  cases o with
  | cells cur T fz=>
   have hsp:as=none:=by
    cases as with
    | none=>rfl
    | some s=>simp [Addr.add,hh]at h0
   subst hsp;refine ⟨rfl,cur,T,fz,rfl,?_,?_⟩
   · have hl:=hget (n-1) (by omega)
     have:∃ v,cs[n-1]?=some v:=⟨cs[n-1]'(by omega),qap _⟩
     obtain ⟨v,hv⟩:=this;rw [hv,Addr.add_lit]at hl;simp [World.cell?,hh]at hl
     have:=(qaE.1 hl).1
     simp only
     omega
   · apply qbr
     intro i;by_cases hi:i<n
     · have:=hget i hi
       rw [Addr.add_lit]at this;simp [World.cell?,hh]at this
       rw [<-this,qa6,if_pos hi];simp
     · rw [qbQ (by omega),qbQ (by simp;omega)]
  | _=>simp [Addr.add,hh]at h0
theorem znj{c:TypeId->Ty->Bool}(hc:∀ t ty,c t ty=true->Reads P enc w spare held t ty):∀ (fs:List Field) (off:Nat) (ty:Ty) (n:Nat) (cs:List Value),zd4 P c fs off ty=true->cs.length=off+ty.size ->
 (∀ (i:Nat) (f:Field),fs[i]?=some f->∃ x,DataW.trod enc P w 0 spare held n f.type ((cs.drop f.offset).take (P.cellsOf f.type))=some x)->∃ v:ty.den,Fits w.heap (fun c=>c<w.heap.size) ty v (cs.drop off)/\wfD ty v
 | [],off,.unit,n,cs,_,hl,_=>⟨(),by simp only [Ty.size]at hl;simp [Fits];omega,trivial⟩
 | f::fs,off,.prod a b,n,cs,h,hl,hx=>by
  simp only [zd4,qae]at h;obtain ⟨⟨⟨h1,h2⟩,h3⟩,h4⟩:=h;have h1:=qal h1;have h2:=qal h2;simp only [Ty.size]at hl;obtain ⟨x,hx0⟩:=hx 0 f rfl;obtain ⟨v1,f1,w1⟩:=hc f.type a h3 n _ _ hx0;rw [h1,h2]at f1;obtain ⟨v2,f2,w2⟩:=znj hc fs (off+a.size) b n cs h4 (by omega) fun i g hg=>hx (i+1) g (by simpa using hg)
  refine ⟨(v1,v2),⟨_,_,?_,f1,f2⟩,w1,w2⟩;rw [<-qbm,List.take_append_drop]
 | [],_,.prod _ _,_,_,h,_,_=>by simp [zd4]at h
 | [],_,.bool,_,_,h,_,_=>by simp [zd4]at h
 | [],_,.int _,_,_,h,_,_=>by simp [zd4]at h
 | [],_,.slice _,_,_,h,_,_=>by simp [zd4]at h
 | _::_,_,.unit,_,_,h,_,_=>by simp [zd4]at h
 | _::_,_,.bool,_,_,h,_,_=>by simp [zd4]at h
 | _::_,_,.int _,_,_,h,_,_=>by simp [zd4]at h
 | _::_,_,.slice _,_,_,h,_,_=>by simp [zd4]at h
 | [],_,.raw _,_,_,h,_,_=>by simp [zd4]at h
 | _::_,_,.raw _,_,_,h,_,_=>by simp [zd4]at h
 | [],_,.ifo _ _,_,_,h,_,_=>by simp [zd4]at h
 | _::_,_,.ifo _ _,_,_,h,_,_=>by simp [zd4]at h
theorem zpw{α:Type}{Q:Nat->α->Prop}:∀ (n:Nat),(∀ i,i<n->∃ x,Q i x)->∃ l:List α,l.length=n/\∀ i (hi:i<l.length),Q i l[i]
 | 0,_=>⟨[],rfl,fun i hi=>by simp at hi⟩
 | n+1,h=>by
  obtain ⟨l,hl,hq⟩:=zpw n fun i hi=>h i (by omega)
  obtain ⟨x,hx⟩:=h n (by omega)
  refine ⟨l++[x],by simp [hl],fun i hi=>?_⟩
  by_cases hin:i<l.length
  · rw [qcF hin];exact hq i hin
  · have:i=l.length:=by simp at hi;omega
    subst this;have e1:(l++[x])[l.length]'hi=x:=by simp
    rw [e1,hl];exact hx
theorem read_ok:∀ (d:Nat) (t:TypeId) (ty:Ty),zd5 P d t ty=true->Reads P enc w spare held t ty
 | 0,_,_,h=>by simp [zd5]at h
 | d+1,t,.raw k,h=>fun n cs x hx=>by
  simp only [zd5]at h;split at h
  · rename_i fs hu;simp only [qae]at h;have h2:=h.2;cases hfs:fs.toList <;> (rw [hfs]at h2;simp [zd4]at h2)
  · cases h
 | d+1,t,.ifo k s,h=>fun n cs x hx=>by
  simp only [zd5]at h;split at h
  · rename_i fs hu;simp only [qae]at h;have h2:=h.2;cases hfs:fs.toList <;> (rw [hfs]at h2;simp [zd4]at h2)
  · cases h
 | d+1,t,.bool,h=>fun n cs x hx=>by
  simp only [zd5]at h;split at h
  · rename_i hu;obtain ⟨b,rfl,_⟩:=DataW.trod_bool hu hx;exact ⟨b,rfl,trivial⟩
  · cases h
 | d+1,t,.int k,h=>fun n cs x hx=>by
  simp only [zd5]at h;split at h
  · rename_i k' hu
    have:=qar h
    subst this;obtain ⟨m,rfl,_,hw⟩:=DataW.trod_int hu hx;exact ⟨m,rfl,hw⟩
  · cases h
 | d+1,t,.slice e,h=>fun n cs x hx=>by
  simp only [zd5]at h;split at h
  · rename_i u hu;simp only [qae]at h;obtain ⟨⟨h1,h2⟩,h3⟩:=h;have h1:=qal h1;simp only [Nat.blt_eq]at h2;have ih:=read_ok d u e h3;rcases DataW.trod_slice hu hx with ⟨rfl,_⟩ | ⟨a,len,cap,elems,rest,m,_,rfl,_,_,hl,hc,hlen,hel,_⟩
    · exact ⟨([]:List e.den),⟨none,0,rfl,fun _=>rfl,by simp,by simp⟩,by simp [maxLen],by simp⟩
    · rw [h1]at hel;have hsp:0<len->a.spot=none:=fun h0=>by
       have:=hel 0 h0
       rw [Nat.zero_mul,show a.add 0=a by simp [Addr.add]]at this
       have hsome:∃ y,elems[0]?=some y:=⟨elems[0]'(by omega),qap _⟩
       obtain ⟨y,hy⟩:=hsome;rw [hy]at this;obtain ⟨cs',q1,_⟩:=qbB.1 this;exact (zsI q1 h2).1
      obtain ⟨l,hll,hq⟩:=zpw (α:=e.den) (Q:=fun i (v:e.den)=>(a.spot=none/\a.block<w.heap.size/\∃ cur T fz,w.heap[a.block]?=some (.cells cur T fz)/\a.off+(i+1)*e.size<=cur.size/\Fits w.heap (fun c=>c<w.heap.size) e v ((cur.toList.drop (a.off+i*e.size)).take e.size))/\wfD e v) len fun i hi=>by
       have:=hel i hi
       have hsome:∃ y,elems[i]?=some y:=⟨elems[i]'(by omega),qap _⟩
       obtain ⟨y,hy⟩:=hsome;rw [hy]at this;obtain ⟨cs',q1,q2⟩:=qbB.1 this;obtain ⟨s1,cur,T,fz,s2,s3,s4⟩:=zsI q1 h2;obtain ⟨v,f1,w1⟩:=ih m cs' y q2;obtain ⟨ab,ao,asp⟩:=a;have hasp:asp=none:=hsp (by omega)
       subst hasp;rw [Addr.add_lit]at s2 s3 s4;simp only at s2 s3 s4
       refine ⟨v,⟨rfl,(qaE.1 s2).1,cur,T,fz,s2,?_,?_⟩,w1⟩
       · rw [qaJ,qa2,<-Nat.add_assoc];exact s3
       · rw [<-s4];exact f1
      refine ⟨l,⟨some a,cap,by rw [hll],by simp,fun y hy hne=>?_,by omega⟩,by omega,fun y hy=>?_⟩
      · simp at hy;subst hy
        have hpos:0<l.length:=List.length_pos_iff.2 hne;obtain ⟨⟨s1,s2,cur,T,fz,s3,_,_⟩,_⟩:=hq (l.length-1) (by omega)
        refine ⟨s1,s2,cur,T,fz,s3,?_,fun i hi=>?_⟩
        · obtain ⟨⟨_,_,cur',_,_,s3',s4',_⟩,_⟩:=hq (l.length-1) (by omega)
          rw [s3]at s3';cases s3'
          rwa [Nat.sub_add_cancel hpos]at s4'
        · obtain ⟨⟨_,_,cur',_,_,s3',_,s5⟩,_⟩:=hq i hi;rw [s3]at s3';cases s3'
          exact s5
      · obtain ⟨i,hi,rfl⟩:=List.getElem_of_mem hy;exact (hq i hi).2
  · cases h
 | d+1,t,.prod a b,h=>fun n cs x hx=>by
  simp only [zd5]at h;split at h
  · rename_i fs hu;simp only [qae]at h;obtain ⟨xs,m,_,_,hl,hlen,hf⟩:=DataW.trod_struct hu hx;have:=znj (n:=m) (cs:=cs) (fun t ty h=>read_ok d t ty h) fs.toList 0 (.prod a b) h.2 (by rw [hl,qal h.1];simp) fun i f hf'=>by
     have:=hf i f (by simpa using hf')
     have hi:i<xs.length:=by rw [hlen];simpa using (qak.1 hf').1
     exact ⟨xs[i],by rw [this,qap hi]⟩
    simpa using this
  · cases h
 | d+1,t,.unit,h=>fun n cs x hx=>by
  simp only [zd5]at h;split at h
  · rename_i fs hu;simp only [qae]at h;obtain ⟨xs,m,_,_,hl,hlen,hf⟩:=DataW.trod_struct hu hx;have:=znj (n:=m) (cs:=cs) (fun t ty h=>read_ok d t ty h) fs.toList 0 .unit h.2 (by rw [hl,qal h.1];simp) fun i f hf'=>by
     have:=hf i f (by simpa using hf')
     have hi:i<xs.length:=by rw [hlen];simpa using (qak.1 hf').1
     exact ⟨xs[i],by rw [this,qap hi]⟩
    simpa using this
  · cases h
end
end Go.VI
namespace Go.VI
open Go Go.RowKit Go.WideShapes
section
variable {H:Type} {enc:TypeId×Value->H} {P:Program} {w:World} {spare:Nat->Bool} {held:Bool}
def zry(P:Program):List PTy->List TypeId->Bool
 | [],[]=>true
 | .val ty::ps,t::ts=>zd5 P 30 t ty&&zry P ps ts
 | _,_=>false
def wfP:(ps:List PTy)->Pden ps->Prop
 | [],_=>True
 | .val t::ps,d=>wfD t d.1/\wfP ps d.2
 | .ptr _ t::ps,d=>wfD t d.1/\wfP ps d.2
theorem zsS{t:TypeId}{ty:Ty}{v:Value}{d:Nat}{r:Reach}{base:Nat}(hr:zd5 P (d+1) t ty=true)(hv:Value.okWide P w r base t v):v=zaW ty v.cells.toList:=by
 cases ty with
 | bool=>
  simp only [zd5]at hr;split at hr
  · rename_i hu;obtain ⟨b,rfl⟩:=okWide_bool hu hv;rfl
  · cases hr
 | int k=>
  simp only [zd5]at hr;split at hr
  · rename_i hu;obtain ⟨b,rfl⟩:=okWide_int hu hv;rfl
  · cases hr
 | raw k=>
  simp only [zd5]at hr;split at hr
  · rename_i fs hu;simp only [qae]at hr;have h2:=hr.2;cases hfs:fs.toList <;> (rw [hfs]at h2;simp [zd4]at h2)
  · cases hr
 | ifo k s=>
  simp only [zd5]at hr;split at hr
  · rename_i fs hu;simp only [qae]at hr;have h2:=hr.2;cases hfs:fs.toList <;> (rw [hfs]at h2;simp [zd4]at h2)
  · cases hr
 | slice e=>
  simp only [zd5]at hr;split at hr
  · rename_i hu;obtain ⟨a,n,c,rfl⟩:=okWide_slice hu hv;rfl
  · cases hr
 | prod a b=>
  simp only [zd5]at hr;split at hr
  · rename_i hu;unfold Value.okWide at hv;rw [hu]at hv;obtain ⟨cs,rfl,_⟩:=hv;simp [zaW,Ty.isAgg,Value.cells]
  · cases hr
 | unit=>
  simp only [zd5]at hr;split at hr
  · rename_i hu;unfold Value.okWide at hv;rw [hu]at hv;obtain ⟨cs,rfl,_⟩:=hv;simp [zaW,Ty.isAgg,Value.cells]
  · cases hr
theorem zp0{r:Reach}{base:Nat}:∀ {ps:List PTy} {ts:List TypeId} {vs:List Value} {ds:List (DataW H)} {p:List MemPlace},zry P ps ts=true->DataW.TrodAll enc P w 0 spare held ts vs ds p ->
 (∀ (j:Nat) t v,ts[j]?=some t->vs[j]?=some v->Value.okWide P w r base t v)->∃ d:Pden ps,zc8 w.heap (fun c=>c<w.heap.size) ps d vs []/\wfP ps d
 | [],[],[],_,_,_,_,_=>⟨(),trivial,trivial⟩
 | .val ty::ps,t::ts,v::vs,d::ds,p,hb,ht,hv=>by
  simp only [zry,qae]at hb;obtain ⟨q1,q2,⟨n,h1⟩,h2,_⟩:=ht;obtain ⟨x,hx,hw⟩:=read_ok (enc:=enc) (w:=w) (spare:=spare) (held:=held) 30 t ty hb.1 n _ _ h1
  obtain ⟨xs,hxs,hws⟩:=zp0 (ps:=ps) hb.2 h2 fun j t v a b=>hv (j+1) t v (by simpa using a) (by simpa using b)
  exact ⟨(x,xs),⟨⟨_,zsS hb.1 (hv 0 t v rfl rfl),hx⟩,hxs⟩,hw,hws⟩
 | .ptr _ _::_,_,_,_,_,hb,_,_=>by simp [zry]at hb
 | .val _::_,[],_,_,_,hb,_,_=>by simp [zry]at hb
 | [],_::_,_,_,_,hb,_,_=>by simp [zry]at hb
 | [],[],_::_,_,_,_,ht,_=>by simp [DataW.TrodAll]at ht
 | .val _::_,_::_,[],_,_,_,ht,_=>by simp [DataW.TrodAll]at ht
 | .val _::_,_::_,_::_,[],_,_,ht,_=>by simp [DataW.TrodAll]at ht
theorem zi6:∀ {n:Nat} {vs:List Value},vs.length=n->zbH (List.replicate n .p) vs=vs
 | 0,[],_=>rfl
 | n+1,v::vs,h=>by simp [qcy,zbH,zi6 (n:=n) (vs:=vs) (by simpa using h)]
theorem law_ok{f:FuncId}{ps:List PTy}{F:Pden ps->Option (Rden [⟨.bool,[none],none⟩]×Oden ps)}{sh:List AP}(hsh:sh=List.replicate ps.length .p)(hs:(⟨f,sh,ps,[⟨.bool,[none],none⟩],F⟩:Entry).Sound P)(hF:∀ d,wfP ps d->∃ o,F d=some ((true,()),o))
 {ts:List TypeId} {vs:List Value} {ds:List (DataW H)} {p:List MemPlace} {r:Reach} {base:Nat} (hb:zry P ps ts=true) (ht:DataW.TrodAll enc P w 0 spare held ts vs ds p)
 (hv:∀ (j:Nat) t v,ts[j]?=some t->vs[j]?=some v->Value.okWide P w r base t v) :
 Calls P f vs.toArray w fun e w'=>e = .returned (.bool true)/\Below w.heap.size w w':=by
 obtain ⟨d,ha,hw⟩:=zp0 hb ht hv;obtain ⟨o,ho⟩:=hF d hw;have hcall:=hs w _ d vs [] _ ha (fun _ h=>h) ho 0
 subst hsh;rw [show zbH (⟨f,List.replicate ps.length .p,ps,[⟨.bool,[none],none⟩],F⟩:Entry).sh vs=vs from zi6 ha.lt.2]at hcall
 refine hcall.mono ?_;rintro e w' ⟨vals,env,own,rfl,hr⟩;have hres:=hr.res;simp only [resL,flat,ownL,Ty.isAgg,qag]at hres;obtain ⟨v,rfl,hv⟩:=All2.one hres;simp only [A1R,LfR,Fits,List.cons.injEq,qbf]at hv;subst hv;exact ⟨rfl,hr.behind.os,hr.behind.tape,hr.behind.output,hr.behind.size,fun k hk=>hr.behind.old k hk (by simp)⟩
end
end Go.VI
