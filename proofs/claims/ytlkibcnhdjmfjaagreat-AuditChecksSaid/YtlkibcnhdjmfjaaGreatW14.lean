import Derived.Test.YtlkibcnhdjmfjaaGreatW13
set_option linter.unusedSimpArgs false
set_option linter.unusedVariables false
set_option maxRecDepth 100000
set_option maxHeartbeats 4000000
namespace Go.VI
open Go Go.Proofs
theorem zlo(h:HpD)(hw:HpW h):Tot (fun r=>r.1.1=P.zrg (toHp h)) (F_audit_Good (h,())):=by
 rw [zg2];dsimp only
 simp only [zar];refine zad (zeK h hw) ?_;rintro ⟨⟨f,_⟩,_⟩ hf;have hf:toFd f=P.zfj (toHp h):=hf
 refine zab ?_;unfold P.zrg;by_cases e:(P.zfj (toHp h)).fault=0
 · rw [qac e];have:=fd_z f (hf.trans (P.zmR e))
   subst this
   rfl
 · rw [qaj e];obtain ⟨x1,x2,x3,_⟩:=f;have hne:¬x1=0:=fun q=>e (by rw [<-hf];exact q)
   show (x1 == 0&&(x2 == 0&&(x3 == 0&&true)))=false
   rw [show (x1 == 0)=false by simpa using hne];rfl
end Go.VI
namespace Go.VI
open Go Go.Proofs
theorem zgr(d:WdD)(l:List Int)(a:Int)(h0:0<=a)(h1:a<=1000000)(hwl:1<=d.1.2.1.length/\d.1.2.1.length<=10000000)(hpl:1<=d.1.2.2.1.length/\d.1.2.2.1.length<=1000000)(hwb:WBo d.1.2.1):
 Tot (fun (r:(WdD×Unit)×(List Int×Int×Unit)×Unit)=>WBo r.1.1.1.2.1/\r.1.1.1.2.1.length=d.1.2.1.length/\r.1.1.1.2.2.1.length<=d.1.2.2.1.length/\d.1.2.2.1.length<=r.1.1.1.2.2.1.length+1/\0<=r.2.1.2.1/\r.2.1.2.1<=a+4) (F_made_World_Spoil (d,(l,a,()),())):=by
 obtain ⟨⟨⟨pw,np,_⟩,ws,ps,sp,bu,_⟩,st,wk,_⟩:=d;dsimp only at hwl hpl hwb
 have fin:∀ (cf:CfD) (ws':List Int) (ps':List PgD) (s b:Int) (tp:List Int×Int×Unit),ws'.length=ws.length->(ps'.length<=ps.length/\ps.length<=ps'.length+1)->WBo ws'->(0<=tp.2.1/\tp.2.1<=a+4)->Tot (fun (r:(WdD×Unit)×(List Int×Int×Unit)×Unit)=>WBo r.1.1.1.2.1/\r.1.1.1.2.1.length=ws.length/\r.1.1.1.2.2.1.length<=ps.length/\ps.length<=r.1.1.1.2.2.1.length+1/\0<=r.2.1.2.1/\r.2.1.2.1<=a+4) (some ((((cf,ws',ps',s,b,()),st,wk,()),()),tp,())):=fun cf ws' ps' s b tp q1 q2 q3 q4=>zab ⟨q3,q1,q2.1,q2.2,q4.1,q4.2⟩
 have setW:∀ (i:Nat) (v:Int),0<=v/\v<18446744073709551616->(ws.set i v).length=ws.length/\WBo (ws.set i v):=fun i v hv=>⟨by rw [List.length_set],hwb.set hv⟩
 have setP:∀ (i:Nat) (v:PgD),(ps.set i v).length<=ps.length/\ps.length<=(ps.set i v).length+1:=fun i v=>by rw [List.length_set];omega
 rw [zgc];dsimp only
 refine zae (zan.2 (by omega)) (zae (zan.2 (by omega)) (zad (zap l a (ws.length:Int) h0 (by omega) (by omega)) ?_))
 rintro ⟨⟨(wi:Int),_⟩,⟨(l1:List Int),(a1:Int),_⟩,_⟩ g1;have q1:=g1.lo;have q2:=g1.hi (by omega);have q4:=g1.a0;have q5:=g1.a1
 dsimp only at q1 q2 q4 q5 ⊢
 refine zad (zap l1 a1 (ps.length:Int) (by omega) (by omega) (by omega)) ?_
 rintro ⟨⟨(pi:Int),_⟩,⟨(l2:List Int),(a2:Int),_⟩,_⟩ g2;have r1:=g2.lo;have r2:=g2.hi (by omega);have r4:=g2.a0;have r5:=g2.a1
 dsimp only at r1 r2 r4 r5 ⊢
 refine zad (zap l2 a2 12 (by omega) (by omega) (by omega)) ?_
 rintro ⟨⟨(v:Int),_⟩,⟨(l3:List Int),(a3:Int),_⟩,_⟩ g3;have s4:=g3.a0;have s5:=g3.a1
 dsimp only at s4 s5 ⊢
 have hiw:inB wi ws.length=true:=zaj.2 ⟨q1,q2⟩
 have hip:inB pi ps.length=true:=zaj.2 ⟨r1,r2⟩
 have next:∀ m:Int,1<=m->m<=10000000->Tot (fun r=>0<=(r.1.1:Int)/\(r.1.1:Int)<m/\0<=(r.2.1.2.1:Int)/\(r.2.1.2.1:Int)<=a+4) (F_made_Tape_Next ((l3,a3,()),m,())):=fun m m0 m1=>(zap l3 a3 m (by omega) (by omega) (by omega)).mono fun r hr=>⟨hr.lo,hr.hi m0,by have:=hr.a0;omega,by have:=hr.a1;omega⟩
 refine zac (fun _=>?_) fun _=>zae (zaB fun _=>hiw) (zac (fun _=>?_) fun _=>zac (fun _=>?_) fun _=>zac (fun _=>?_) fun _=>zae (zaB fun _=>hip) (zac (fun _=>?_) fun _=>zac (fun _=>?_) fun _=>zac (fun _=>?_) fun _=>zac (fun _=>?_) fun _=>zae ?_ (zac (fun _=>?_) fun _=>zac (fun _=>?_) fun _=>zac (fun _=>?_) fun _=>?_)))
 · refine zad (next 10 (by omega) (by omega)) ?_
   rintro ⟨⟨(u:Int),_⟩,tp,_⟩ ⟨u0,u1,u2,u3⟩;dsimp only at u0 u1 u2 u3 ⊢
   have hv:∀ x∈[(0:Int),1,5,21,4096,4097,4112,16386,1099511627776,61],0<=x/\x<18446744073709551616:=by
    intro x hx;simp only [qat,qcg,or_false]at hx;omega
   have hs:=setW wi.toNat _ (hv _ (zaC (d:=0) (i:=u.toNat) (by simp only [qaM,qbO];omega)))
   exact zae (zaj.2 ⟨u0,by simp only [qaM,qbO];omega⟩) (zae hiw (fin _ _ _ _ _ _ hs.1 (by omega) hs.2 ⟨u2,u3⟩))
 · refine zad (next 64 (by omega) (by omega)) ?_
   rintro ⟨⟨(u:Int),_⟩,tp,_⟩ ⟨u0,u1,u2,u3⟩;dsimp only at u0 u1 u2 u3 ⊢
   have hbx:∀ x y:Int,0<=zcx IntKind.u64 (fun (x1 x2:BitVec IntKind.u64.bits)=>x1 ^^^ x2) x y/\zcx IntKind.u64 (fun (x1 x2:BitVec IntKind.u64.bits)=>x1 ^^^ x2) x y<18446744073709551616:=fun x y=>zvG _
   have hs:=setW wi.toNat _ (hbx (ws.getD wi.toNat 0) (U (1*2 ^ min (U u).toNat IntKind.u64.bits)));refine zae ?_ (zae hiw (fin _ _ _ _ _ _ hs.1 (by omega) hs.2 ⟨u2,u3⟩))
   have:=zvG u
   simp only [qao,qaf];omega
 · refine zad (next 5 (by omega) (by omega)) fun r hr=>zae hip (fin _ _ _ _ _ _ (by omega) (setP _ _) hwb hr.2.2)
 · refine zad (next 3 (by omega) (by omega)) fun r hr=>zae hip (fin _ _ _ _ _ _ (by omega) (setP _ _) hwb hr.2.2)
 · refine zad (next 9 (by omega) (by omega)) fun r hr=>zae hip (fin _ _ _ _ _ _ (by omega) (setP _ _) hwb hr.2.2)
 · refine zad (next 3 (by omega) (by omega)) fun r hr=>zae hip (fin _ _ _ _ _ _ (by omega) (setP _ _) hwb hr.2.2)
 · refine zad (next 3 (by omega) (by omega)) fun r hr=>fin _ _ _ _ _ _ (by omega) (by omega) hwb hr.2.2
 · have w:W ((ps.length:Int)+2)=ps.length+2:=W_id (by omega)
   rw [w];refine zad (next ((ps.length:Int)+2) (by omega) (by omega)) fun r hr=>fin _ _ _ _ _ _ (by omega) (by omega) hwb hr.2.2
 · cases (v == 9) <;> cases (v == 10) <;> first | rfl | exact qac (by omega)
 · exact fin _ _ _ _ _ _ (by omega) (by omega) hwb ⟨by dsimp only;omega,by dsimp only;omega⟩
 · exact fin _ _ _ _ _ _ (by omega) (by rw [qau,qaG];omega) hwb ⟨by dsimp only;omega,by dsimp only;omega⟩
 · refine zad (P:=fun r=>r.2.2.1.length=ps.length) (zao (fun x=>0<=x.1.1/\x.1.1<=(ps.length:Int)/\x.2.2.1.length=ps.length) (fun x=>((ps.length:Int)-x.1.1).toNat) ?_ ?_) ?_
   · exact ⟨by dsimp only;omega,by dsimp only;omega,rfl⟩
   · rintro ⟨⟨(i:Int),_⟩,_,(qs:List PgD),_⟩ ⟨i0,i1,i2⟩;dsimp only at i0 i1 i2 ⊢
     refine zac (fun h=>?_) fun _=>zab i2
     simp only [qaa]at h;have hi:inB i qs.length=true:=zaj.2 ⟨i0,h⟩
     have w:W (i+1)=i+1:=W_id (by omega)
     rw [w];refine zae hi (zae (zaB fun _=>hi) (zac (fun _=>zab ?_) fun _=>zab ?_))
     · simp only [qaq];exact ⟨⟨by omega,by omega,by rw [List.length_set];exact i2⟩,by omega⟩
     · simp only [qaq];exact ⟨⟨by omega,by omega,i2⟩,by omega⟩
   · rintro ⟨_,_,(qs:List PgD),_⟩ hq;dsimp only at hq ⊢
     exact fin _ _ _ _ _ _ (by omega) (by omega) hwb ⟨by dsimp only;omega,by dsimp only;omega⟩
 · exact fin _ _ _ _ _ _ (by omega) (by omega) hwb ⟨by dsimp only;omega,by dsimp only;omega⟩
theorem zk9(v:HpD)(hv:HpW v)(q:Bool)(k:Int):Tot (fun r=>∃ q',r=(.inl ((q',k,()),(),()):LX⊕LY)) ((F_audit_Check (v,())).bind fun (r_5:((Int×Int×Int×Unit)×Unit)×Unit)=>(F_r09_Check (v,())).bind fun (r_6:((Int×Int×Int×Unit)×Unit)×Unit)=>
 bif r_5.1.1.1 != r_6.1.1.1 then some (Sum.inr (Sum.inl ((false,()),(),()))) else bif r_5.1.1.2.1 != r_6.1.1.2.1 then some (Sum.inr (Sum.inl ((false,()),(),()))) else bif r_5.1.1.2.2.1 != r_6.1.1.2.2.1 then some (Sum.inr (Sum.inl ((false,()),(),())))
 else (F_audit_Good (v,())).bind fun (r_7:(Bool×Unit)×Unit)=>(F_r09_Good (v,())).bind fun (r:(Bool×Unit)×Unit)=>bif !r_7.1.1 == r.1.1 then some (Sum.inr (Sum.inl ((false,()),(),()))) else some (Sum.inl ((q,k,()),(),()))):=by
 refine zad (zeK v hv) ?_;rintro ⟨⟨⟨(a1:Int),(a2:Int),(a3:Int),_⟩,_⟩,_⟩ ha;refine zad (zlh v hv) ?_;rintro ⟨⟨⟨(b1:Int),(b2:Int),(b3:Int),_⟩,_⟩,_⟩ hb;have e:toFd (a1,a2,a3,())=toFd (b1,b2,b3,()):=Eq.trans ha (Eq.symm hb)
 have e1:a1=b1:=congrArg P.Fd.fault e
 have e2:a2=b2:=congrArg P.Fd.page e
 have e3:a3=b3:=congrArg P.Fd.addr e
 subst e1 e2 e3;refine zac (fun c=>by simp at c) fun _=>zac (fun c=>by simp at c) fun _=>zac (fun c=>by simp at c) fun _=>zad (zlo v hv) ?_
 rintro ⟨⟨(b:Bool),_⟩,_⟩ hb1;refine zad (ziv v hv) ?_;rintro ⟨⟨(b':Bool),_⟩,_⟩ hb2;have hb:b=b':=Eq.trans hb1 (Eq.symm hb2)
 subst hb;exact zac (fun c=>by simp at c) fun _=>zab ⟨_,rfl⟩
theorem zou(raw:HpD)(hr:WBo raw.2.1)(tape odd:List Int):F_l09_AuditChecks (raw,tape,odd,())=some ((true,()),()):=by
 refine zvb ?_;rw [zgZ];dsimp only
 refine zad (zrL tape) ?_;rintro ⟨⟨(d:WdD),_⟩,_⟩ ⟨n,hm⟩;have hm:Mk n d:=hm;have hw:=hm.hw;have L:=hm.lens;have c:=P.zai L.conf;have cp:=P.conf_prod L.conf;have l1:(d.1.2.1.length:Int)=(toWd d).h.np*(toWd d).h.pw:=L.words
 have l2:(d.1.2.2.1.length:Int)=(toWd d).h.np:=by rw [<-L.pages];show ((d.1.2.2.1.length:Nat):Int)=((d.1.2.2.1.map toPg).length:Nat);rw [qai]
 have l3:1<=d.1.2.1.length/\d.1.2.1.length<=10000000:=by
  have:1*1<=(toWd d).h.np*(toWd d).h.pw:=qbU (by omega) (by omega) (by omega) (by omega)
  have:(toWd d).h.np*(toWd d).h.pw<=64*64:=qbU (by omega) (by omega) (by omega) (by omega)
  omega
 have l4:8<=d.1.2.2.1.length/\d.1.2.2.1.length<=64:=by omega
 have hwb:=hm.wb;clear hm L cp l1 l2 c;have hsp1:=zgr d odd 0 (by omega) (by omega) l3 ⟨by omega,by omega⟩ hwb
 refine zad hsp1 ?_;rintro ⟨⟨(d1:WdD),_⟩,⟨(t1:List Int),(a1:Int),_⟩,_⟩ ⟨s1,s2,s3,s4,s5,s6⟩;dsimp only at s1 s2 s3 s4 s5 s6 ⊢
 have hsp2:=zgr d t1 a1 s5 (by omega) l3 ⟨by omega,by omega⟩ hwb
 refine zad hsp2 ?_;rintro ⟨⟨(d2:WdD),_⟩,⟨(t2:List Int),(a2:Int),_⟩,_⟩ ⟨u1,u2,u3,u4,u5,u6⟩;dsimp only at u1 u2 u3 u4 u5 u6 ⊢
 have hsp3:=zgr d2 t2 a2 u5 (by omega) ⟨by omega,by omega⟩ ⟨by omega,by omega⟩ u1
 refine zad hsp3 ?_;rintro ⟨⟨(d3:WdD),_⟩,⟨(t3:List Int),(a3:Int),_⟩,_⟩ ⟨v1,v2,v3,v4,v5,v6⟩;dsimp only at v1 v2 v3 v4 v5 v6 ⊢
 have hw1:HpW d1.1:=⟨by omega,by omega,s1⟩
 have hw3:HpW d3.1:=⟨by omega,by omega,v1⟩
 simp only [zar];rw [zqb,qab];dsimp only;have go:∀ hs:List HpD,hs.length<=1000->(∀ v∈hs,HpW v)->∀ (k:Nat) (q:Bool),k<hs.length->HpW (hs.getD k H0):=fun hs _ h k q hk=>h _ (zaC hk)
 refine zae (zaB fun _=>zan.2 (by simp)) (zac (fun h1=>?_) fun h1=>?_)
 · simp only [qaa]at h1;have hall:∀ v∈[d.1,d1.1,d3.1]++[raw],HpW v:=by
    intro v hv;simp only [qaF,qaV,qat,qcg,or_false]at hv;rcases hv with e | e | e | e
    · rw [e];exact hw
    · rw [e];exact hw1
    · rw [e];exact hw3
    · rw [e];exact ⟨by omega,by omega,hr⟩
   have hlen:([d.1,d1.1,d3.1]++[raw]).length<=1000:=by simp
   generalize [d.1,d1.1,d3.1]++[raw]=hs at *
   refine zad (P:=fun r=>∃ y,r = .inr y) (zsa (n:=hs.length) (by omega) fun q k hk=>?_) ?_
   · rw [qad,W_id (n:=(k:Int)+1) (by omega)]
     exact zk9 _ (hall _ (zaC hk)) q _
   · rintro _ ⟨y,rfl⟩;simp only [qan];rw [zls];exact zab rfl
 · have hall:∀ v∈[d.1,d1.1,d3.1],HpW v:=by
    intro v hv;simp only [qat,qcg,or_false]at hv;rcases hv with e | e | e
    · rw [e];exact hw
    · rw [e];exact hw1
    · rw [e];exact hw3
   have hlen:[d.1,d1.1,d3.1].length<=1000:=by simp
   generalize [d.1,d1.1,d3.1]=hs at *
   refine zad (P:=fun r=>∃ y,r = .inr y) (zsa (n:=hs.length) (by omega) fun q k hk=>?_) ?_
   · rw [qad,W_id (n:=(k:Int)+1) (by omega)]
     exact zk9 _ (hall _ (zaC hk)) q _
   · rintro _ ⟨y,rfl⟩;simp only [qan];rw [zls];exact zab rfl
theorem L_AuditChecksu(d)(h:wfP E_l09_AuditChecks.ps d):F_l09_AuditChecks d=some ((true,()),()):=by
 obtain ⟨raw,tape,odd,_⟩:=d;obtain ⟨hr,-⟩:=h;exact zou raw (fun x hx=>wf_u (hr.2.1.2 x hx)) tape odd
end Go.VI
