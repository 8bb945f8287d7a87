import Derived.Test.YtfjkjbffdhoejaaGreatV03
import Derived.Test.YtfjkjbffdhoejaaGreatV05
set_option linter.unusedSimpArgs false
set_option linter.unusedVariables false
set_option maxRecDepth 100000
set_option maxHeartbeats 4000000
noncomputable section
namespace Go.VI
open Go Go.Proofs Go.RowKit
@[reducible] def TyHeap:Ty:=(.prod (.prod (.int .i64) (.prod (.int .i64) .unit)) (.prod (.slice (.int .u64)) (.prod (.slice (.prod (.int .i64) (.prod (.int .i64) (.prod (.int .i64) (.prod (.int .i64) .unit))))) (.prod (.int .i64) (.prod (.int .i64) .unit)))))
@[reducible] def TyFound:Ty:=(.prod (.prod (.int .i64) (.prod (.int .i64) (.prod (.int .u32) .unit))) (.prod (.int .i64) .unit))
@[reducible] def tsW:List Ty:=[.int .u64,TyFound]
theorem zhV:∀ t∈tsW,t.plain=true:=by decide
@[reducible] def psP:List PTy:=[.ptr 27 TyHeap,.ptr 3 (.int .i64)]
def c81:Code:=zcE Tryz.f179
def tblP:Tbl:=[E_page_Address.ent,E_object_At.ent,E_header_Size.ent]
theorem zfU:Tbl.Sound Tryz.prog tblP:=sc zeu (sc zfu (sc zdD sn))
def ops81:Array Oper:=opsOf (cAt [1,1,1,1,1,1,1,0,0] c81)
theorem c81_eq:c81 = .seq (cAt [0] c81) (.block 0 (.loop (.seq (cAt [1,1,1,0] c81) (.block 1 (.seq (cAt [1,1,1,1,1,0] c81) (.seq (cAt [1,1,1,1,1,1,0] c81) (.seq (.seq (.region (idOf (cAt [1,1,1,1,1,1,1,0,0] c81)) ops81 false) (cAt [1,1,1,1,1,1,1,0,1] c81)) (cAt [1,1,1,1,1,1,1,1] c81)))))))):=by kernel_rfl
theorem zeL:ops81.size=11:=by kernel_rfl
def op81:Oper:=(ops81[5]?).getD default
theorem op81_at:ops81[5]?=some op81:=by kernel_rfl
theorem op81_op:op81.op = .call ⟨.value (.tmp 31),⟨[.tmp 32,.tmp 35]⟩,#[55,182]⟩:=by kernel_rfl
theorem op81_gd:op81.guard=none:=by kernel_rfl
theorem zyV:op81.dst=some 36:=by kernel_rfl
def zk5:List Loc:=[.s 0,.s 1,.s 2,.b 1,.b 2]
def hdP(d:Pden psP)(v:Int):List Wr:=.w (.s 4) (.av (.v (.one (.imm (.int .i64) v))))::zb7 psP d
abbrev rcP(c:Code)(bid nx:Nat)(st:List Wr):Option Out:=(runCode te tblP [] 46 c bid nx st).ev
def zyG(n:Nat):T Int:=do
 match <-rd1 (.tmp n) with
 | .imm (.int .i64) v=>pure v
 | _=>.fail
def errB(x:Tden tsW):Bool:=x.2.1.2.1 != (0:Int)
def tailP(nx:Nat)(gs:List Nat)(s3:List Wr)(w0:List Wr)(x:Tden tsW):Option ((Tden tsW×Option Int)⊕Unit) :=
 (za4 te tblP ops81 46 nx gs none (List.range' 6 5) (kbW 36 false::s3) []).ev.bind fun wF=>
 (rcP (cAt [1,1,1,1,1,1,1,0,1] c81) 1 (nx+64*11) (frzW (wF++(kbW 36 false::s3)))).bind fun oF=>
 (za4 te tblP ops81 46 nx gs none (List.range' 6 5) (kbW 36 true::s3) []).ev.bind fun wT=>
 (rcP (cAt [1,1,1,1,1,1,1,0,1] c81) 1 (nx+64*11) (frzW (wT++(kbW 36 true::s3)))).bind fun oT=>
 match oF.1 with
 | .ret=>match oT.1 with
  | .ret=>cond (errB x) (some (.inl (x,none))) none
  | .normal=>(rcP (cAt [1,1,1,1,1,1,1,1] c81) 1 oT.2.1 (frzW (oT.2.2++frzW (wT++(kbW 36 true::s3))))).bind fun oE=>
   match oE.1 with
   | .normal=>((zyG 4).evs (look (frzW (oE.2.2++frzW (oT.2.2++frzW (wT++(kbW 36 true::s3))))))).bind fun v'=>
    cond (zct zk5 (oE.2.2++(oT.2.2++(wT++(kbW 36 true::w0)))) && !errB x) (some (.inl (x,some v'))) none
   | _=>none
  | _=>none
 | _=>none
def zcr(d:Pden psP)(v:Int):Option ((Tden tsW×Option Int)⊕Unit) :=
 (rcP (cAt [1,1,1,0] c81) 0 67 (hdP d v)).bind fun oA=>
 match oA.1 with
 | .exit id=>cond (Nat.beq id 0) (some (.inr ())) none
 | .ret=>none
 | .normal=>(rcP (cAt [1,1,1,1,1,0] c81) 1 oA.2.1 (frzW (oA.2.2++hdP d v))).bind fun oB=>
  match oB.1 with
  | .normal=>(rcP (cAt [1,1,1,1,1,1,0] c81) 1 oB.2.1 (frzW (oB.2.2++frzW (oA.2.2++hdP d v)))).bind fun oC=>
   match oC.1 with
   | .normal=>
    let s2:=frzW (oC.2.2++frzW (oB.2.2++frzW (oA.2.2++hdP d v)))
    (za4 te tblP ops81 46 oC.2.1 (zby ops81) none (List.range 5) s2 []).ev.bind fun w1=>
    ((zjJ 31).evs (look (frzW (w1++s2)))).bind fun _=>
    ((zoG tsW [.tmp 32,.tmp 35]).evs (look (frzW (w1++s2)))).bind fun x=>
    tailP oC.2.1 (zby ops81) (frzW (w1++s2)) (w1++(oC.2.2++(oB.2.2++oA.2.2))) x
   | _=>none
  | _=>none
def okL:List (Tden tsW)->Bool
 | []=>true
 | [_]=>true
 | x::y::r=>!errB x&&okL (y::r)
def zeo:List (Tden tsW)->Bool
 | []=>false
 | [x]=>errB x
 | _::y::r=>zeo (y::r)
theorem zuS:∀ {L pre:List (Tden tsW)} {x:Tden tsW},okL L=true->(pre++[x]) <+: L->errB x=true->pre++[x]=L
 | [],pre,x,_,h,_=>by simp at h
 | [y],pre,x,_,⟨t,ht⟩,_=>by
  cases pre with
  | nil=>simp at ht;simp [ht.1]
  | cons a pre=>have:=congrArg List.length ht;simp at this
 | y::z::r,pre,x,h,⟨t,ht⟩,he=>by
  simp only [okL,qae,qar]at h;cases pre with
  | nil=>
   simp at ht
   rw [ht.1,h.1]at he;cases he
  | cons a pre=>
   simp only [qaM,List.cons.injEq]at ht;rw [qaM,ht.1,zuS h.2 ⟨t,ht.2⟩ he]
theorem zec:∀ {pre:List (Tden tsW)} {x:Tden tsW},zeo (pre++[x])=errB x
 | [],x=>rfl
 | [y],x=>rfl
 | y::z::r,x=>by
  show zeo (z::r++[x])=_
  exact zec
def listP(d:Pden psP):Option (List (Tden tsW)):=(listOf (zcr d) 0).bind fun L=>cond (okL L) (some L) none
theorem zu1{d:Pden psP}{L:List (Tden tsW)}(h:listP d=some L):listOf (zcr d) 0=some L/\okL L=true:=by
 obtain ⟨M,h1,h2⟩:=qbt.1 h;cases ho:okL M with
 | false=>rw [ho]at h2;cases h2
 | true=>rw [ho]at h2;cases h2;exact ⟨h1,ho⟩
def G_walk_inPage:Gen:=⟨179,psP,tsW,listP⟩
theorem annN:Ann.Sound Tryz.prog []:=fun _ h=>nomatch h
theorem zvB(d:Pden psP)(l:Loc):(look (zb7 psP d) l).frz=look (zb7 psP d) l:=by unfold zb7;rw [zcy,ztL]
theorem zu4(d:Pden psP)(v:Int){l:Loc}(h:l∈zk5):look (hdP d v) l=look (zb7 psP d) l:=by
 simp only [hdP,look];have:Loc.s 4≠l:=by rintro rfl;simp [zk5]at h
 rw [zbh this,qaf]
theorem zlR(d:Pden psP){l:Loc}(h:l ∉ zk5):look (zb7 psP d) l = .no:=by
 unfold zb7;rw [zcy,zis]
 . rfl
 . exact h
theorem zsS(d:Pden psP)(l:Loc):zyl 67 l (look (zb7 psP d) l):=by
 by_cases h:l∈zk5
 . simp only [zk5,qas,List.not_mem_nil,or_false]at h;rcases h with rfl | rfl | rfl | rfl | rfl
   . show AvN (· < 67) (.v (.one (.nam 0)));show (0:Nat)<67;decide
   . show AvN (· < 67) (.v (.one (.bptr 1 0)));show (1:Nat)<67;decide
   . show AvN (· < 67) (.v (.one (.bptr 2 0)));show (2:Nat)<67;decide
   . exact ⟨by decide,fun x hx=>by
      have:∀ {t:Ty} {v:t.den},∀ x∈flat t v,LfN (· < 67) x:=by
       intro t;induction t with
       | prod a b iha ihb=>intro v x hx;rcases qak.1 hx with h | h;exact iha x h;exact ihb x h
       | _=>intro v x hx;simp [flat]at hx <;> subst hx <;> trivial
      exact this x hx⟩
   . exact ⟨by decide,fun x hx=>by
      have hx:x∈flat (.int .i64) d.2.1:=hx;simp [flat]at hx;subst hx;trivial⟩
 . rw [zlR d h];cases l <;> trivial
theorem roundP{p:PC}{J Jx:(Nat->Prop)->List (Tden tsW)->World->Prop}{pre L:List (Tden tsW)}(hJ:Free p.B J)(hJx:Free p.B Jx){l:Nat}(hyv:p.yv = .func (.yield l) #[] #[])
 (hY:∀ X pre x W1,J X pre W1->(∀ c,p.X0 c->X c)->(pre++[x]) <+: L->YieldAt Fence.wide 0 Tryz.prog l (encs tsW x) W1 fun e W'=>
  (e = .returned (.bool true)/\J X (pre++[x]) W'/\Kept X W1 W')\/(e = .returned (.bool false)/\Jx X (pre++[x]) W'/\Kept X W1 W'))
 {d:Pden psP} {v:Int} {a:Act} {W:World} {r:(Tden tsW×Option Int)⊕Unit} {Q:Exit->Act->World->Prop} (h:PS p J 46 (look (hdP d v)) a W (· < 67) pre) (hs:zcr d v=some r)
 (hex:r = .inr ()->∀ a' W' N fs,PS p J 46 fs a' W' N pre->Q (.exit 0) a' W') (hpre:∀ x v',r = .inl (x,v')->(pre++[x]) <+: L)
 (hgo:∀ x v',r = .inl (x,some v')->∀ a' W',PS p J 46 (look (hdP d v')) a' W' (· < 67) (pre++[x])->Q .normal a' W')
 (hret:∀ x,r = .inl (x,none)->∀ a' W' N fs,PS p J 46 fs a' W' N (pre++[x])->Q .ret a' W')
 (hno:∀ x v',r = .inl (x,v')->∀ a' W' N fs,PS p Jx 46 fs a' W' N (pre++[x])->Q .ret a' W') :
 (Code.seq (cAt [1,1,1,0] c81) (.block 1 (.seq (cAt [1,1,1,1,1,0] c81) (.seq (cAt [1,1,1,1,1,1,0] c81) (.seq (.seq (.region (idOf (cAt [1,1,1,1,1,1,1,0,0] c81)) ops81 false) (cAt [1,1,1,1,1,1,1,0,1] c81)) (cAt [1,1,1,1,1,1,1,1] c81)))))).wpIn (Fw none) 0 Tryz.prog Q a W:=by
 unfold zcr at hs;cases hA:rcP (cAt [1,1,1,0] c81) 0 67 (hdP d v) with
 | none=>rw [hA]at hs;cases hs
 | some oA=>
 obtain ⟨eA,nA,wA⟩:=oA;rw [hA]at hs;simp only [qaa]at hs;refine wpIn_seq (PS.code zcM zfU annN zbI hJ (.inl rfl) h hA fun a1 W1 h1=>?_)
 cases eA with
 | ret=>cases hs
 | exit id=>
  simp only at hs
  cases hid:Nat.beq id 0 with
  | false=>rw [hid]at hs;cases hs
  | true=>
   rw [hid]at hs;have:=qan hid
   subst this;exact hex (Option.some.inj hs).symm _ _ _ _ h1
 | normal=>
 simp only at hs
 refine wpIn_block ?_;cases hB:rcP (cAt [1,1,1,1,1,0] c81) 1 nA (frzW (wA++hdP d v)) with
 | none=>rw [hB]at hs;cases hs
 | some oB=>
 obtain ⟨eB,nB,wB⟩:=oB;rw [hB]at hs;simp only [qaa]at hs;refine wpIn_seq (PS.code zcM zfU annN zbI hJ (.inl rfl) h1 hB fun a2 W2 h2=>?_)
 cases eB with
 | ret=>cases hs
 | exit id=>cases hs
 | normal=>
 simp only at hs
 cases hC:rcP (cAt [1,1,1,1,1,1,0] c81) 1 nB (frzW (wB++frzW (wA++hdP d v))) with
 | none=>rw [hC]at hs;cases hs
 | some oC=>
 obtain ⟨eC,nC,wC⟩:=oC;rw [hC]at hs;simp only [qaa]at hs;refine wpIn_seq (PS.code zcM zfU annN zbI hJ (.inl rfl) h2 hC fun a3 W3 h3=>?_)
 cases eC with
 | ret=>cases hs
 | exit id=>cases hs
 | normal=>
 simp only at hs
 obtain ⟨s2,hs2⟩:∃ s2,s2=frzW (wC++frzW (wB++frzW (wA++hdP d v))):=⟨_,rfl⟩
 rw [<-hs2]at hs h3;cases h1':(za4 te tblP ops81 46 nC (zby ops81) none (List.range 5) s2 []).ev with
 | none=>rw [h1']at hs;cases hs
 | some w1=>
 rw [h1']at hs;simp only [qaa]at hs;cases h2':(zjJ 31).evs (look (frzW (w1++s2))) with
 | none=>rw [h2']at hs;cases hs
 | some u=>
 rw [h2']at hs;simp only [qaa]at hs;cases h3':(zoG tsW [.tmp 32,.tmp 35]).evs (look (frzW (w1++s2))) with
 | none=>rw [h3']at hs;cases hs
 | some x=>
 rw [h3']at hs;simp only [qaa,tailP]at hs;cases h5':(za4 te tblP ops81 46 nC (zby ops81) none (List.range' 6 5) (kbW 36 false::frzW (w1++s2)) []).ev with
 | none=>rw [h5']at hs;cases hs
 | some wF=>
 rw [h5']at hs;simp only [qaa]at hs;cases hF:rcP (cAt [1,1,1,1,1,1,1,0,1] c81) 1 (nC+64*11) (frzW (wF++(kbW 36 false::frzW (w1++s2)))) with
 | none=>rw [hF]at hs;cases hs
 | some oF=>
 obtain ⟨eF,nF,wF2⟩:=oF;rw [hF]at hs;simp only [qaa]at hs;cases h4':(za4 te tblP ops81 46 nC (zby ops81) none (List.range' 6 5) (kbW 36 true::frzW (w1++s2)) []).ev with
 | none=>rw [h4']at hs;cases hs
 | some wT=>
 rw [h4']at hs;simp only [qaa]at hs;cases hTt:rcP (cAt [1,1,1,1,1,1,1,0,1] c81) 1 (nC+64*11) (frzW (wT++(kbW 36 true::frzW (w1++s2)))) with
 | none=>rw [hTt]at hs;cases hs
 | some oT=>
 obtain ⟨eT,nT,wT2⟩:=oT;rw [hTt]at hs;simp only [qaa]at hs;cases eF with
 | normal=>cases hs
 | exit id=>cases hs
 | ret=>
 simp only at hs
 have hx:∃ v',r = .inl (x,v'):=by
  cases eT with
  | exit id=>cases hs
  | ret=>
   simp only at hs
   cases he:errB x with
   | false=>rw [he]at hs;cases hs
   | true=>rw [he]at hs;exact ⟨none,(Option.some.inj hs).symm⟩
  | normal=>
   simp only at hs
   cases hE:rcP (cAt [1,1,1,1,1,1,1,1] c81) 1 nT (frzW (wT2++frzW (wT++(kbW 36 true::frzW (w1++s2))))) with
   | none=>rw [hE]at hs;cases hs
   | some oE=>
    obtain ⟨eE,nE,wE⟩:=oE;rw [hE]at hs;simp only [qaa]at hs;cases eE with
    | ret=>cases hs
    | exit id=>cases hs
    | normal=>
     simp only at hs
     obtain ⟨v',q1,q2⟩:=qbt.1 hs;cases hu:(zct zk5 (wE++(wT2++(wT++kbW 36 true::(w1++(wC++(wB++wA)))))) && !errB x) with
     | false=>rw [hu]at q2;cases q2
     | true=>rw [hu]at q2;exact ⟨some v',(Option.some.inj q2).symm⟩
 obtain ⟨v0,hx⟩:=hx;refine wpIn_seq (wpIn_seq (PS.region zcM zfU zhV hJ hJx hyv hY h3 (j:=5) (d:=36) (by rw [zeL];decide) op81_at op81_op op81_gd zyV (by decide) h1' h2' h3' (hpre x v0 hx) (by rw [zeL];exact h4') (by rw [zeL];exact h5') (fun a4 W4 h4=>?_) fun a4 W4 h4=>?_))
 ·
  rw [zeL]at h4;refine PS.code zcM zfU annN zbI hJ (.inl rfl) h4 hTt fun a5 W5 h5=>?_
  cases eT with
  | exit id=>cases hs
  | ret=>
   simp only at hs
   cases he:errB x with
   | false=>rw [he]at hs;cases hs
   | true=>rw [he]at hs;exact hret x (Option.some.inj hs).symm _ _ _ _ h5
  | normal=>
   simp only at hs
   cases hE:rcP (cAt [1,1,1,1,1,1,1,1] c81) 1 nT (frzW (wT2++frzW (wT++(kbW 36 true::frzW (w1++s2))))) with
   | none=>rw [hE]at hs;cases hs
   | some oE=>
    obtain ⟨eE,nE,wE⟩:=oE;rw [hE]at hs;simp only [qaa]at hs;refine PS.code zcM zfU annN zbI hJ (.inl rfl) h5 hE fun a6 W6 h6=>?_
    cases eE with
    | ret=>cases hs
    | exit id=>cases hs
    | normal=>
     simp only at hs
     obtain ⟨v',q1,q2⟩:=qbt.1 hs;cases hu':(zct zk5 (wE++(wT2++(wT++kbW 36 true::(w1++(wC++(wB++wA)))))) && !errB x) with
     | false=>rw [hu']at q2;cases q2
     | true=>
     rw [hu']at q2;have hu:=(qbp.1 hu').1;refine hgo x v' (Option.some.inj q2).symm _ _ (h6.forget (fun l=>?_) (fun l=>?_) (by decide))
     . by_cases hl:l∈zk5
       . right;left
         have u:∀ {w:List Wr},(∀ y∈w,y∈(wE++(wT2++(wT++kbW 36 true::(w1++(wC++(wB++wA)))))))->zct zk5 w=true:=fun hm=>qaN.2 fun y hy=>(qaN.1 hu) y (hm y hy)
         have hd0:look (kbW 36 true::frzW (w1++s2)) l=look (frzW (w1++s2)) l:=by
          simp only [kbW,look];have:Loc.s 36≠l:=by rintro rfl;simp [zk5]at hl
          rw [zbh this,qaf]
         rw [zdT (u fun y hy=>by simp [hy]) hl,zdT (u fun y hy=>by simp [hy]) hl,zdT (u fun y hy=>by simp [hy]) hl,hd0,zdT (u fun y hy=>by simp [hy]) hl,hs2,zdT (u fun y hy=>by simp [hy]) hl,zdT (u fun y hy=>by simp [hy]) hl,zdT (u fun y hy=>by simp [hy]) hl,zu4 d v hl,zu4 d v' hl]
         simp only [ztL,zvB]
       . by_cases h4l:l = .s 4
         . subst h4l;right;left
           obtain ⟨lf,r1,r2⟩:=zaa.1 q1;split at r2
           . simp at r2;subst r2
             obtain ⟨av,t1,t2⟩:=zaa.1 r1;have:=zou t2
             subst this;simp only [rdO,rdS,T.evs]at t1;split at t1
             . rename_i b hb;simp [T.evs]at t1;subst t1
               rw [hb];rfl
             . simp [T.evs]at t1
           . simp [T.evs]at r2
         . left
           simp only [hdP,look];rw [zbh (Ne.symm h4l),qaf];exact zlR d hl
     . simp only [hdP,look];by_cases h4l:l = .s 4
       . subst h4l;rw [zaO,qah];trivial
       . rw [zbh (Ne.symm h4l),qaf];exact zsS d l
 ·
  rw [zeL]at h4;refine PS.code zcM zfU annN zbI hJx (.inl rfl) h4 hF fun a5 W5 h5=>?_
  exact hno x v0 hx _ _ _ _ h5
theorem seqP(w:World)(X0:Nat->Prop)(d:Pden psP)(lb:List Value)(L:List (Tden tsW))(ha:zc7 w.heap X0 psP d lb)(hX0:∀ c,X0 c->c<w.heap.size)(hL:listP d=some L):zo1 Tryz.prog 179 lb.toArray (encs tsW) X0 L w:=by
 obtain ⟨n,hn⟩:=ztB (zu1 hL).1;intro l J Jx W hsz hsame hJ hJx hY h0;have hst:=PS.start (nt:=46) (yv:=.func (.yield l) #[] #[]) ha hX0 hsz hsame h0 (by decide) rfl
 generalize hp:(⟨.func (.yield l) #[] #[],X0,fun _=>False,W,W.heap.size⟩:PC)=p at hst
 have hpB:p.B=W.heap.size:=by rw [<-hp]
 have hpX:p.X0=X0:=by rw [<-hp]
 have hyv:p.yv = .func (.yield l) #[] #[]:=by rw [<-hp]
 rw [<-hpB]at hJ hJx;have hnt:Tryz.f179.ntmps=46:=by kernel_rfl
 have hres:Tryz.f179.results=#[]:=by kernel_rfl
 refine (callsIn_wide (n:=0)).1 (callsIn_of_wp_marks (F:=Fence.wide) (n:=0) (fn:=Tryz.f179) (by kernel_rfl) (show Tryz.f179.body=some c81 by kernel_rfl) trivial ?_ rfl)
 rw [hnt,c81_eq];have hJR:∀ v X W',J X L W'->(fun (e:Ending) W'=>(∃ v,e = .returned v)/\∃ X,J X L W'\/∃ pre,pre <+: L/\Jx X pre W') (.returned v) W':=fun v X W' h=>⟨⟨v,rfl⟩,X,.inl h⟩
 refine wpIn_seq (F:=Fw none) (PS.code zcM zfU annN zbI hJ (.inl rfl) hst (show rcP (cAt [0] c81) 0 3 (zb7 psP d)=some (.normal,67,[.w (.s 4) (.av (.v (.one (.imm (.int .i64) 0))))]) by kernel_rfl) fun a1 W1 h1=>?_)
 have h1:PS p J 46 (look (hdP d 0)) a1 W1 (· < 67) []:=by
  have e:frzW ([Wr.w (.s 4) (.av (.v (.one (.imm (.int .i64) 0))))]++zb7 psP d)=hdP d 0:=by
   show Wr.w (.s 4) (.av (.v (.one (.imm (.int .i64) 0))))::frzW (zb7 psP d)=_
   unfold zb7;rw [zrW];rfl
  have h1:PS p J 46 (look (frzW ([Wr.w (.s 4) (.av (.v (.one (.imm (.int .i64) 0))))]++zb7 psP d))) a1 W1 (· < 67) []:=h1;rw [e]at h1;exact h1
 refine wpIn_block (wpIn_loop_ghost (fun k a W=>∃ v pre rest,L=pre++rest/\zco (zcr d) k v=some rest/\PS p J 46 (look (hdP d v)) a W (· < 67) pre) n ⟨0,[],L,rfl,hn,h1⟩ ?_)
 rintro k a W2 ⟨v,pre,rest,e1,e2,h2⟩;cases k with
 | zero=>cases e2
 | succ k=>
 simp only [zco]at e2;cases hs:zcr d v with
 | none=>rw [hs]at e2;cases e2
 | some r=>
 rw [hs]at e2;have hstop:∀ x v',r = .inl (x,v')->(pre++[x]) <+: L:=fun x v' hr=>by
  subst hr;cases v' with
  | none=>simp only [Option.some.injEq]at e2;exact ⟨[],by rw [e1,<-e2];simp⟩
  | some v'=>
   simp only [qb4]at e2;obtain ⟨r',_,rfl⟩:=e2;exact ⟨r',by rw [e1];simp⟩
 refine roundP hJ hJx hyv (by rw [hpX];exact hY) h2 hs (fun hr a' W' N fs h=>?_) hstop (fun x v' hr a' W' h=>?_) (fun x hr a' W' N fs h=>?_) (fun x v' hr a' W' N fs h=>?_)
 . subst hr;simp only [Option.some.injEq]at e2;subst e2;rw [qaW]at e1;subst e1;exact PS.leaves hJ hres hJR h
 . subst hr;simp only [qb4]at e2;obtain ⟨r',q1,rfl⟩:=e2;exact ⟨k,by omega,v',pre++[x],r',by rw [e1];simp,q1,h⟩
 . subst hr;simp only [Option.some.injEq]at e2;subst e2;subst e1;exact PS.leaves hJ hres hJR h
 . exact PS.leaves hJx hres (fun v X W' h=>⟨⟨v,rfl⟩,X,.inr ⟨_,hstop x v' hr,h⟩⟩) h
theorem zfJ:zbZ Tryz.prog 179/\G_walk_inPage.Sound Tryz.prog :=
 ⟨zmK (fn:=Tryz.f179) (by kernel_rfl) (by kernel_rfl),rfl,fun w ok d lb gs L ha hokl hL=>seqP w _ d lb L (ha.caps (fun c hc=>.inl hc) fun g hg=>.inr hg) (fun c hc=>hc.elim (hokl c) fun h=>(ha.lt.1 c h).1) hL⟩
@[reducible] def psH:List PTy:=[.ptr 27 TyHeap]
def c87:Code:=zcE Tryz.f144
def tblH:Tbl:=[E_page_Proper.ent,E_walk_inPage.ent]
theorem zci:Tbl.Sound Tryz.prog tblH:=sc zcJ (sc ziZ sn)
def oA87:Array Oper:=opsOf (cAt [1,0,1,0,0] c87)
def oB87:Array Oper:=opsOf (cAt [1,1,1,1,1,1,1,0,1,1,1,1,1,1,0] c87)
theorem c87_eq:c87 = .seq (cAt [0] c87) (.seq (.seq (cAt [1,0,0] c87) (.cond (.tmp 8) (.seq (.region (idOf (cAt [1,0,1,0,0] c87)) oA87 false) .ret) .skip)) (.seq (cAt [1,1,0] c87) (.block 0 (.loop (.seq (cAt [1,1,1,1,1,0] c87) (.seq (cAt [1,1,1,1,1,1,0] c87) (.seq (.block 1 (.seq (cAt [1,1,1,1,1,1,1,0,1,0] c87) (.seq (cAt [1,1,1,1,1,1,1,0,1,1,0] c87) (.block 2 (.rangeFunc (.tmp 20) #[21,22] (cAt [1,1,1,1,1,1,1,0,1,1,1,1,0] c87) (.block 3 (.seq (.region (idOf (cAt [1,1,1,1,1,1,1,0,1,1,1,1,1,1,0] c87)) oB87 false) (cAt [1,1,1,1,1,1,1,0,1,1,1,1,1,1,1] c87)))))))) (cAt [1,1,1,1,1,1,1,1] c87)))))))):=by kernel_rfl
theorem zmd:oA87.size=3:=by kernel_rfl
theorem zmc:oB87.size=10:=by kernel_rfl
def opA87:Oper:=(oA87[2]?).getD default
def opB87:Oper:=(oB87[3]?).getD default
theorem zyU:oA87[2]?=some opA87:=by kernel_rfl
theorem zyR:oB87[3]?=some opB87:=by kernel_rfl
theorem zyS:opA87.op = .call ⟨.value (.tmp 9),⟨[.const (.int .u64 0),.tmp 10]⟩,#[55,182]⟩:=by kernel_rfl
theorem zyP:opB87.op = .call ⟨.value (.tmp 23),⟨[.tmp 24,.tmp 25]⟩,#[55,182]⟩:=by kernel_rfl
theorem zyT:opA87.guard=none:=by kernel_rfl
theorem zyQ:opB87.guard=none:=by kernel_rfl
theorem zxs:opA87.dst=some 11:=by kernel_rfl
theorem zxr:opB87.dst=some 26:=by kernel_rfl
abbrev rcH(c:Code)(bid nx:Nat)(st:List Wr):Option Out:=(runCode te tblH [] 34 c bid nx st).ev
def bsH(d:Pden psH):List Wr:=.w (.s 2) (.av (.v (.one (.bptr 2 0)))) :: .w (.b 2) (.rb 183 [.nam 0])::zb7 psH d
theorem r87_0(d:Pden psH):∃ W,rcH (cAt [0] c87) 0 2 (zb7 psH d)=some (.normal,66,W)/\frzW (W++zb7 psH d)=bsH d:=⟨[.w (.s 2) (.av (.v (.one (.bptr 2 0)))),.w (.b 2) (.box 183 [.nam 0])],by kernel_rfl,by unfold zb7;rw [<-zrW];kernel_rfl⟩
def hdH(d:Pden psH)(n v:Int):List Wr:=.w (.s 15) (.av (.v (.one (.imm (.int .i64) v)))) :: .w (.s 14) (.av (.v (.one (.imm (.int .i64) n))))::bsH d
def oI1(d:Pden psH)(n v:Int):Out:=(rcH (cAt [1,1,1,1,1,1,1,0,1,0] c87) 1 66 (hdH d n v)).getD (.ret,0,[])
theorem oI1_eq(d:Pden psH)(n v:Int):rcH (cAt [1,1,1,1,1,1,1,0,1,0] c87) 1 66 (hdH d n v)=some (oI1 d n v):=by kernel_rfl
theorem oI1_1(d:Pden psH)(n v:Int):(oI1 d n v).1 = .normal:=by kernel_rfl
def sI1(d:Pden psH)(n v:Int):List Wr:=frzW ((oI1 d n v).2.2++hdH d n v)
def oI2(d:Pden psH)(n v:Int):Out:=(rcH (cAt [1,1,1,1,1,1,1,0,1,1,0] c87) 1 (oI1 d n v).2.1 (sI1 d n v)).getD (.ret,0,[])
theorem oI2_eq(d:Pden psH)(n v:Int):rcH (cAt [1,1,1,1,1,1,1,0,1,1,0] c87) 1 (oI1 d n v).2.1 (sI1 d n v)=some (oI2 d n v):=by kernel_rfl
theorem oI2_1(d:Pden psH)(n v:Int):(oI2 d n v).1 = .normal:=by kernel_rfl
def sI(d:Pden psH)(n v:Int):List Wr:=frzW ((oI2 d n v).2.2++sI1 d n v)
def csI(d:Pden psH)(n v:Int):List Cp:=match look (sI d n v) (.s 20) with
 | .av (.v (.one (.clo _ _ cs)))=>cs
 | _=>[]
theorem csI_eq(d:Pden psH)(n v:Int):look (sI d n v) (.s 20) = .av (.v (.one (.clo 179 [] (csI d n v)))):=by kernel_rfl
theorem zzl(d:Pden psH)(n v:Int):(zn0 psP (csI d n v)).evs (look (sI d n v))=some (d.1,v,()):=by kernel_rfl
def oR(d:Pden psH)(n v:Int)(x:Tden tsW):Out:=(rcH (cAt [1,1,1,1,1,1,1,0,1,1,1,1,0] c87) 2 (oI2 d n v).2.1 (zfz [21,22] tsW x++sI d n v)).getD (.ret,0,[])
theorem oR_eq(d:Pden psH)(n v:Int)(x:Tden tsW):rcH (cAt [1,1,1,1,1,1,1,0,1,1,1,1,0] c87) 2 (oI2 d n v).2.1 (zfz [21,22] tsW x++sI d n v)=some (oR d n v x):=by kernel_rfl
theorem oR_1(d:Pden psH)(n v:Int)(x:Tden tsW):(oR d n v x).1 = .normal:=by kernel_rfl
def sR(d:Pden psH)(n v:Int)(x:Tden tsW):List Wr:=frzW ((oR d n v x).2.2++(zfz [21,22] tsW x++sI d n v))
def w1R(d:Pden psH)(n v:Int)(x:Tden tsW):List Wr:=(za4 te tblH oB87 34 (oR d n v x).2.1 (zby oB87) none (List.range 3) (sR d n v x) []).ev.getD []
theorem w1R_eq(d:Pden psH)(n v:Int)(x:Tden tsW):(za4 te tblH oB87 34 (oR d n v x).2.1 (zby oB87) none (List.range 3) (sR d n v x) []).ev=some (w1R d n v x):=by kernel_rfl
theorem yR_eq(d:Pden psH)(n v:Int)(x:Tden tsW):(zjJ 23).evs (look (frzW (w1R d n v x++sR d n v x)))=some ():=by kernel_rfl
theorem xR_eq(d:Pden psH)(n v:Int)(x:Tden tsW):(zoG tsW [.tmp 24,.tmp 25]).evs (look (frzW (w1R d n v x++sR d n v x)))=some x:=by kernel_rfl
def wR(b:Bool)(d:Pden psH)(n v:Int)(x:Tden tsW):List Wr:=(za4 te tblH oB87 34 (oR d n v x).2.1 (zby oB87) none (List.range' 4 6) (kbW 26 b::frzW (w1R d n v x++sR d n v x)) []).ev.getD []
theorem wR_t(d:Pden psH)(n v:Int)(x:Tden tsW):(za4 te tblH oB87 34 (oR d n v x).2.1 (zby oB87) none (List.range' 4 6) (kbW 26 true::frzW (w1R d n v x++sR d n v x)) []).ev=some (wR true d n v x):=by kernel_rfl
theorem wR_f(d:Pden psH)(n v:Int)(x:Tden tsW):(za4 te tblH oB87 34 (oR d n v x).2.1 (zby oB87) none (List.range' 4 6) (kbW 26 false::frzW (w1R d n v x++sR d n v x)) []).ev=some (wR false d n v x):=by kernel_rfl
theorem cR_f(d:Pden psH)(n v:Int)(x:Tden tsW)(k:Nat):rcH (cAt [1,1,1,1,1,1,1,0,1,1,1,1,1,1,1] c87) 3 k (frzW (wR false d n v x++(kbW 26 false::frzW (w1R d n v x++sR d n v x))))=some (.ret,k,[]):=by kernel_rfl
theorem cR_t(d:Pden psH)(n v:Int)(x:Tden tsW)(k:Nat):rcH (cAt [1,1,1,1,1,1,1,0,1,1,1,1,1,1,1] c87) 3 k (frzW (wR true d n v x++(kbW 26 true::frzW (w1R d n v x++sR d n v x))))=cond (errB x) (some (.ret,k,[])) (some (.normal,k,[])):=by kernel_rfl
def oE(d:Pden psH)(n v:Int):Out:=(rcH (cAt [1,1,1,1,1,1,1,1] c87) 0 (oI2 d n v).2.1 (sI d n v)).getD (.ret,0,[])
theorem oE_eq(d:Pden psH)(n v:Int):rcH (cAt [1,1,1,1,1,1,1,1] c87) 0 (oI2 d n v).2.1 (sI d n v)=some (oE d n v):=by kernel_rfl
theorem oE_1(d:Pden psH)(n v:Int):(oE d n v).1 = .normal:=by kernel_rfl
def sE(d:Pden psH)(n v:Int):List Wr:=frzW ((oE d n v).2.2++sI d n v)
def nextH(d:Pden psH)(n v:Int):Int:=((zyG 15).evs (look (sE d n v))).getD 0
def oH1(d:Pden psH)(n v:Int):Out:=(rcH (cAt [1,1,1,1,1,0] c87) 0 66 (hdH d n v)).getD (.ret,0,[])
theorem oH1_eq(d:Pden psH)(n v:Int):rcH (cAt [1,1,1,1,1,0] c87) 0 66 (hdH d n v)=some (oH1 d n v):=by kernel_rfl
theorem oH1_1(d:Pden psH)(n v:Int):(oH1 d n v).1 = .normal:=by kernel_rfl
def sH1(d:Pden psH)(n v:Int):List Wr:=frzW ((oH1 d n v).2.2++hdH d n v)
theorem cH1(d:Pden psH)(n v:Int):rcH (cAt [1,1,1,1,1,1,0] c87) 0 (oH1 d n v).2.1 (sH1 d n v)=cond (decide (v<n)) (some (.normal,130,[])) (some (.exit 0,130,[])):=by kernel_rfl
def WP(d:Pden psH)(b:Bool):List Wr:=[.w (.s 8) (.av (.v (.one (.imm .bool (!b))))),.w (.s 7) (.av (.v (.one (.imm .bool b)))),.w (.s 6) (.av (.v (.agg (flat TyHeap d.1))))]
theorem rP(d:Pden psH):rcH (cAt [1,0,0] c87) 0 66 (bsH d)=(F_page_Proper (d.1,())).bind fun r=>some (.normal,258,WP d r.1.1):=by kernel_rfl
def sP(d:Pden psH)(b:Bool):List Wr:=frzW (WP d b++bsH d)
def xErr:Tden tsW:=(0,((0,0,0,()),(1,())),())
def w1A(d:Pden psH):List Wr:=(za4 te tblH oA87 34 258 (zby oA87) none (List.range 2) (sP d false) []).ev.getD []
theorem w1A_eq(d:Pden psH):(za4 te tblH oA87 34 258 (zby oA87) none (List.range 2) (sP d false) []).ev=some (w1A d):=by kernel_rfl
theorem yA_eq(d:Pden psH):(zjJ 9).evs (look (frzW (w1A d++sP d false)))=some ():=by kernel_rfl
theorem xA_eq(d:Pden psH):(zoG tsW [.const (.int .u64 0),.tmp 10]).evs (look (frzW (w1A d++sP d false)))=some xErr:=by kernel_rfl
theorem wA_eq(d:Pden psH)(b:Bool):(za4 te tblH oA87 34 258 (zby oA87) none (List.range' 3 0) (kbW 11 b::frzW (w1A d++sP d false)) []).ev=some []:=by kernel_rfl
def oQ(d:Pden psH):Out:=(rcH (cAt [1,1,0] c87) 0 258 (sP d true)).getD (.ret,0,[])
theorem oQ_eq(d:Pden psH):rcH (cAt [1,1,0] c87) 0 258 (sP d true)=some (oQ d):=by kernel_rfl
theorem oQ_1(d:Pden psH):(oQ d).1 = .normal:=by kernel_rfl
def sQ(d:Pden psH):List Wr:=frzW ((oQ d).2.2++sP d true)
def lenH(d:Pden psH):Int:=((zyG 14).evs (look (sQ d))).getD 0
theorem zu5(d:Pden psH)(n v:Int){l:Loc}(h:l ∉ [Loc.s 15,.s 14,.s 2,.b 2,.s 0,.s 1,.b 1]):look (hdH d n v) l = .no:=by
 rw [zis];exact h
theorem zxW{st:List Wr}(d:Pden psH)(n v:Int)(h:∀ l∈[Loc.s 15,.s 14,.s 2,.b 2,.s 0,.s 1,.b 1],look st l=look (hdH d n v) l):FsLe (look st) (look (hdH d n v)):=fun l=>by
 by_cases hl:l∈[Loc.s 15,.s 14,.s 2,.b 2,.s 0,.s 1,.b 1]
 . exact .inr (.inl (h l hl))
 . exact .inl (zu5 d n v hl)
theorem mem7{Q:Loc->Prop}(h1:Q (.s 15))(h2:Q (.s 14))(h3:Q (.s 2))(h4:Q (.b 2))(h5:Q (.s 0))(h6:Q (.s 1))(h7:Q (.b 1)):∀ l∈[Loc.s 15,.s 14,.s 2,.b 2,.s 0,.s 1,.b 1],Q l:=by
 intro l hl;simp only [qas,List.not_mem_nil,or_false]at hl;rcases hl with rfl | rfl | rfl | rfl | rfl | rfl | rfl <;> assumption
theorem sE_le(d:Pden psH)(n v:Int):FsLe (look (sE d n v)) (look (hdH d n (nextH d n v))) :=
 zxW d n _ (mem7 (by kernel_rfl) (by kernel_rfl) (by kernel_rfl) (by kernel_rfl) (by kernel_rfl) (by kernel_rfl) (by kernel_rfl))
theorem sH1_le(d:Pden psH)(n v:Int):FsLe (look (frzW ([]++sH1 d n v))) (look (hdH d n v)) :=
 zxW d n _ (mem7 (by kernel_rfl) (by kernel_rfl) (by kernel_rfl) (by kernel_rfl) (by kernel_rfl) (by kernel_rfl) (by kernel_rfl))
theorem sQ_le(d:Pden psH):FsLe (look (sQ d)) (look (hdH d (lenH d) 0)) :=
 zxW d _ _ (mem7 (by kernel_rfl) (by kernel_rfl) (by kernel_rfl) (by kernel_rfl) (by kernel_rfl) (by kernel_rfl) (by kernel_rfl))
theorem zpW(d:Pden psH)(n v:Int)(l:Loc):zyl 66 l (look (hdH d n v) l):=by
 by_cases hl:l∈[Loc.s 15,.s 14,.s 2,.b 2,.s 0,.s 1,.b 1]
 . revert l
   refine fun l hl=>mem7 (Q:=fun l=>zyl 66 l (look (hdH d n v) l)) ?_ ?_ ?_ ?_ ?_ ?_ ?_ l hl
   . trivial
   . trivial
   . show (2:Nat)<66;decide
   . refine ⟨by decide,fun x hx=>?_⟩
     have hx:x∈[Lf.nam 0]:=hx;simp at hx;subst hx;show (0:Nat)<66;decide
   . show (0:Nat)<66;decide
   . show (1:Nat)<66;decide
   . exact ⟨by decide,fun x hx=>by
      have:∀ {t:Ty} {v:t.den},∀ x∈flat t v,LfN (· < 66) x:=by
       intro t;induction t with
       | prod a b iha ihb=>intro v x hx;rcases qak.1 hx with h | h;exact iha x h;exact ihb x h
       | _=>intro v x hx;simp [flat]at hx <;> subst hx <;> trivial
      exact this x hx⟩
 . rw [zu5 d n v hl];cases l <;> trivial
def pagesH(d:Pden psH)(n:Int):Nat->Int->Option (List (Tden tsW))
 | 0,_=>none
 | k+1,v=>cond (decide (v<n)) ((listP (d.1,v,())).bind fun Li=>cond (zeo Li) (some Li) ((pagesH d n k (nextH d n v)).map (Li ++ ·))) (some [])
def listH(d:Pden psH):Option (List (Tden tsW)):=(F_page_Proper (d.1,())).bind fun r=>cond r.1.1 (pagesH d (lenH d) (d.1.2.2.1.length+1) 0) (some [xErr])
def G_walk_inHeap:Gen:=⟨144,psH,tsW,listH⟩
theorem zqK{p:PC}{T:(Nat->Prop)->List (Tden tsW)->World->Prop}{nt:Nat}{st:List Wr}{a:Act}{W:World}{N:Nat->Prop}{pre:List (Tden tsW)}{n:Nat}{b:Bool}{c1 c2:Code}{fr:Option Nat}{m0:Nat}{Q:Exit->Act->World->Prop}(h:PS p T nt (look st) a W N pre)(hb:look st (.s n) = .av (.v (.one (.imm .bool b))))(hq:(cond b c1 c2).wpIn (Fw fr) m0 Tryz.prog Q a W):(Code.cond (.tmp n) c1 c2).wpIn (Fw fr) m0 Tryz.prog Q a W:=by
 obtain ⟨X,env,h1,_⟩:=h.ex;have hd:=h1.rs n;rw [hb]at hd;simp only [zbQ,AvR,A1R,LfR,Fits,List.cons.injEq,qbn]at hd;refine wpIn_cond_split (t:=b) hd (fun he=>?_) fun he=>?_
 . subst he;exact hq
 . subst he;exact hq
set_option maxHeartbeats 2000000 in
theorem seqH(w:World)(X0:Nat->Prop)(d:Pden psH)(lb:List Value)(L:List (Tden tsW))(ha:zc7 w.heap X0 psH d lb)(hX0:∀ c,X0 c->c<w.heap.size)(hL:listH d=some L):zo1 Tryz.prog 144 lb.toArray (encs tsW) X0 L w:=by
 intro l J Jx W hsz hsame hJ hJx hY h0;have hst:=PS.start (nt:=34) (yv:=.func (.yield l) #[] #[]) ha hX0 hsz hsame h0 (by decide) rfl
 generalize hp:(⟨.func (.yield l) #[] #[],X0,fun _=>False,W,W.heap.size⟩:PC)=p at hst
 have hpB:p.B=W.heap.size:=by rw [<-hp]
 have hpX:p.X0=X0:=by rw [<-hp]
 have hpr:∀ c,¬p.Xr c:=by rw [<-hp];exact fun _ h=>h
 have hyv:p.yv = .func (.yield l) #[] #[]:=by rw [<-hp]
 rw [<-hpB]at hJ hJx;rw [<-hpX]at hY;have hnt:Tryz.f144.ntmps=34:=by kernel_rfl
 have hres:Tryz.f144.results=#[]:=by kernel_rfl
 refine (callsIn_wide (n:=0)).1 (callsIn_of_wp_marks (F:=Fence.wide) (n:=0) (fn:=Tryz.f144) (by kernel_rfl) (show Tryz.f144.body=some c87 by kernel_rfl) trivial ?_ rfl)
 rw [hnt,c87_eq];have hJR:∀ v X W',J X L W'->(fun (e:Ending) W'=>(∃ v,e = .returned v)/\∃ X,J X L W'\/∃ pre,pre <+: L/\Jx X pre W') (.returned v) W':=fun v X W' h=>⟨⟨v,rfl⟩,X,.inl h⟩
 have hJxR:∀ pre,pre <+: L->∀ v X W',Jx X pre W'->(fun (e:Ending) W'=>(∃ v,e = .returned v)/\∃ X,J X L W'\/∃ pre,pre <+: L/\Jx X pre W') (.returned v) W':=fun pre hpre v X W' h=>⟨⟨v,rfl⟩,X,.inr ⟨pre,hpre,h⟩⟩
 obtain ⟨W0,r0,r0'⟩:=r87_0 d;refine wpIn_seq (F:=Fw none) (PS.code zcM zci annN zbI hJ (.inl rfl) hst r0 fun a1 W1 h1=>?_)
 have h1:PS p J 34 (look (frzW (W0++zb7 psH d))) a1 W1 (· < 66) []:=h1;rw [r0']at h1;unfold listH at hL;cases hF:F_page_Proper (d.1,()) with
 | none=>rw [hF]at hL;cases hL
 | some r=>
 obtain ⟨⟨b,u⟩,u2⟩:=r;rw [hF]at hL;simp only [qaa]at hL;refine wpIn_seq (wpIn_seq (PS.code zcM zci annN zbI hJ (.inl rfl) h1 ((rP d).trans (by rw [hF];rfl)) fun a2 W2 h2=>?_))
 have h2:PS p J 34 (look (sP d b)) a2 W2 (· < 258) []:=h2;refine zqK (b:=!b) h2 (by cases b <;> rfl) ?_
 cases b with
 | false=>
  simp only [qaf,Option.some.injEq]at hL;subst hL;refine wpIn_seq (PS.region zcM zci zhV hJ hJx hyv hY h2 (j:=2) (d:=11) (by rw [zmd];decide) zyU zyS zyT zxs (by decide) (w1A_eq d) (yA_eq d) (xA_eq d) ⟨[],rfl⟩ (by rw [zmd];exact wA_eq d true) (by rw [zmd];exact wA_eq d false) (fun a4 W4 h4=>?_) fun a4 W4 h4=>?_)
  . exact wpIn_ret (PS.leaves hJ hres hJR h4)
  . exact wpIn_ret (PS.leaves hJx hres (hJxR _ ⟨[],rfl⟩) h4)
 | true=>
  simp only [qah]at hL;refine wpIn_skip ?_;refine wpIn_seq (PS.code zcM zci annN zbI hJ (.inl rfl) h2 (oQ_eq d) fun a3 W3 h3=>?_)
  rw [oQ_1];have h3:PS p J 34 (look (hdH d (lenH d) 0)) a3 W3 (· < 66) []:=PS.forget h3 (sQ_le d) (zpW d _ _) (by decide)
  generalize hn:lenH d=n at h3 hL
  generalize hk:d.1.2.2.1.length+1=k0 at hL
  refine wpIn_block (wpIn_loop_ghost (fun k a W=>∃ v acc rest,L=acc++rest/\pagesH d n k v=some rest/\PS p J 34 (look (hdH d n v)) a W (· < 66) acc) k0 ⟨0,[],L,rfl,hL,h3⟩ ?_)
  rintro k a4 W4 ⟨v,acc,rest,e1,e2,h4⟩;cases k with
  | zero=>cases e2
  | succ k=>
  simp only [pagesH]at e2;refine wpIn_seq (PS.code zcM zci annN zbI hJ (.inl rfl) h4 (oH1_eq d n v) fun a5 W5 h5=>?_)
  rw [oH1_1];have h5:PS p J 34 (look (sH1 d n v)) a5 W5 (· < (oH1 d n v).2.1) acc:=h5;have hc:=cH1 d n v;cases hv:decide (v<n) with
  | false=>
   rw [hv]at hc e2;refine wpIn_seq (PS.code zcM zci annN zbI hJ (.inl rfl) h5 hc fun a6 W6 h6=>?_)
   simp only [qaf,Option.some.injEq]at e2;subst e2;rw [qaW]at e1;subst e1;exact PS.leaves hJ hres hJR h6
  | true=>
   rw [hv]at hc e2;refine wpIn_seq (PS.code zcM zci annN zbI hJ (.inl rfl) h5 hc fun a6 W6 h6=>?_)
   simp only [qah]at e2;obtain ⟨Li,q1,q2⟩:=qbt.1 e2;obtain ⟨-,hokL⟩:=zu1 q1;have h6:PS p J 34 (look (hdH d n v)) a6 W6 (· < 66) acc:=PS.forget h6 (sH1_le d n v) (zpW d _ _) (by decide)
   have hpreL:∀ s,s <+: Li->(acc++s) <+: L:=fun s hs=>by
    obtain ⟨t,rfl⟩:=hs;rw [e1];cases hle:zeo (s++t) with
    | true=>rw [hle]at q2;cases q2;exact ⟨t,by simp⟩
    | false=>
     rw [hle]at q2;simp only [qaf,qb4]at q2;obtain ⟨r',_,rfl⟩:=q2;exact ⟨t++r',by simp⟩
   refine wpIn_seq (wpIn_block (wpIn_seq (PS.code zcM zci annN zbI hJ (.inl rfl) h6 (oI1_eq d n v) fun a7 W7 h7=>?_)))
   rw [oI1_1];refine wpIn_seq (PS.code zcM zci annN zbI hJ (.inl rfl) (show PS p J 34 (look (sI1 d n v)) a7 W7 (· < (oI1 d n v).2.1) acc from h7) (oI2_eq d n v) fun a8 W8 h8=>?_)
   rw [oI2_1];have h8:PS p J 34 (look (sI d n v)) a8 W8 (· < (oI2 d n v).2.1) acc:=h8;refine wpIn_block (PS.rangeFunc hJ hJx hpr h8 (csI_eq d n v) (zzl d n v) zfJ.1 (fun w X lb hcr hXl=>seqP w X (d.1,v,()) lb Li hcr hXl q1) zhV rfl (by decide) (by decide) (fun s=>s=Li/\zeo Li=true) (fun s=>zeo s=false) rfl (sR d n v) (fun x=>(oR d n v x).2.1) ?assign ?body ?done ?ret ?retx)
   case assign=>
    intro l' p' pre x a1 W1 Q hp1 hp2 hp3 hpre hPS hK
    refine PS.code zcM zci annN zbI (by rw [hp2];exact hJ) (.inr (by kernel_rfl)) hPS (oR_eq d n v x) fun a2 W2 h2=>?_
    rw [oR_1];exact hK _ _ h2
   case body=>
    intro l' p' pre x a2 W2 Q hp1 hp2 hp3 hpre hPS hgo hlast hstop
    have hJ':Free p'.B J:=by rw [hp2];exact hJ
    have hJx':Free p'.B Jx:=by rw [hp2];exact hJx
    refine wpIn_block (wpIn_seq (PS.region zcM zci zhV hJ' hJx' (hp1.trans hyv) (fun X pr y W1 hj hx hl=>hY X pr y W1 hj (fun c hc=>hx c (hp3 c hc)) hl) hPS (j:=3) (d:=26) (by rw [zmc];decide) zyR zyP zyQ zxr (by decide) (w1R_eq d n v x) (yR_eq d n v x) (xR_eq d n v x) (by rw [qaR];exact hpreL _ hpre) (by rw [zmc];exact wR_t d n v x) (by rw [zmc];exact wR_f d n v x) (fun a4 W4 h4=>?_) fun a4 W4 h4=>?_))
    . rw [qaR]at h4;have hct:=cR_t d n v x ((oR d n v x).2.1+64*oB87.size);cases he:errB x with
      | true=>
       rw [he]at hct;refine PS.code zcM zci annN zbI hJ' (.inr (by kernel_rfl)) h4 hct fun a5 W5 h5=>?_
       have hpl:=zuS hokL hpre he;refine hlast _ _ _ _ ⟨hpl,?_⟩ h5;rw [<-hpl,zec];exact he
      | false=>
       rw [he]at hct;refine PS.code zcM zci annN zbI hJ' (.inr (by kernel_rfl)) h4 hct fun a5 W5 h5=>?_
       exact hgo _ _ _ _ (by rw [zec];exact he) h5
    . rw [qaR]at h4;refine PS.code zcM zci annN zbI hJx' (.inr (by kernel_rfl)) h4 (cR_f d n v x _) fun a5 W5 h5=>?_
      exact hstop _ _ _ _ h5
   case done=>
    intro a9 W9 hO h9;rw [hO]at q2;simp only [qaf,qb4]at q2;obtain ⟨r',q3,rfl⟩:=q2;refine PS.code zcM zci annN zbI hJ (.inl rfl) h9 (oE_eq d n v) fun aE WE hE=>?_
    rw [oE_1];exact ⟨k,by omega,nextH d n v,acc++Li,r',by rw [e1];simp,q3,PS.forget hE (sE_le d n v) (zpW d _ _) (by decide)⟩
   case ret=>
    rintro a9 W9 s ⟨rfl,hle⟩ h9;rw [hle]at q2;cases q2;subst e1;exact PS.leaves hJ hres hJR h9
   case retx=>
    intro a9 W9 s hs h9;exact PS.leaves hJx hres (hJxR _ (hpreL s hs)) h9
theorem sndH(f:FuncId)(F:Pden psH->Option (List (Tden tsW)))(hE:zbZ Tryz.prog f)(hF:∀ (w:World) (X0:Nat->Prop) (d:Pden psH) (lb:List Value) (L:List (Tden tsW)),zc7 w.heap X0 psH d lb->(∀ c,X0 c->c<w.heap.size)->F d=some L->zo1 Tryz.prog f lb.toArray (encs tsW) X0 L w):zbZ Tryz.prog f/\(⟨f,psH,tsW,F⟩:Gen).Sound Tryz.prog :=
 ⟨hE,rfl,fun w ok d lb gs L ha hokl hL=>hF w _ d lb L (ha.caps (fun c hc=>.inl hc) fun g hg=>.inr hg) (fun c hc=>hc.elim (hokl c) fun h=>(ha.lt.1 c h).1) hL⟩
theorem zll:zbZ Tryz.prog 144/\G_walk_inHeap.Sound Tryz.prog:=sndH 144 listH (zmK (fn:=Tryz.f144) (by kernel_rfl) (by kernel_rfl)) seqH
end Go.VI
