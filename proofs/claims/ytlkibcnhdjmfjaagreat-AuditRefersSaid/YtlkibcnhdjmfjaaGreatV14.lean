import Derived.Test.YtlkibcnhdjmfjaaGreatV13
set_option linter.unusedSimpArgs false
set_option linter.unusedVariables false
set_option maxRecDepth 100000
set_option maxHeartbeats 4000000
namespace Go.VI
open Go Go.Proofs
theorem zlv(h:HpD)(hw:HpW h):Tot (fun r=>r.1.1=P.zpK (toHp h)) (F_audit_Good (h,())):=by
 rw [zha];dsimp only
 simp only [zar];refine zad (zjO h hw) ?_;rintro ⟨⟨f,_⟩,_⟩ hf;have hf:toFd f=P.zfp (toHp h):=hf
 refine zab ?_;unfold P.zpK;by_cases e:(P.zfp (toHp h)).fault=0
 · rw [qac e];have:=fd_z f (hf.trans (P.zmV e))
   subst this
   rfl
 · rw [qaj e];obtain ⟨x1,x2,x3,_⟩:=f;have hne:¬x1=0:=fun q=>e (by rw [<-hf];exact q)
   show (x1 == 0&&(x2 == 0&&(x3 == 0&&true)))=false
   rw [show (x1 == 0)=false by simpa using hne];rfl
theorem ziL(h:HpD)(hw:HpW h)(refs:List Int)(hl:refs.length<=1000000):Tot (fun r=>r.1.1=P.ze2 (toHp h) refs) (F_audit_Refers (h,refs,())):=by
 rw [zkL];dsimp only
 simp only [zar];refine zad (zlv h hw) ?_;rintro ⟨⟨(b:Bool),_⟩,_⟩ hb;have hb:b=P.zpK (toHp h):=hb
 unfold P.ze2;rw [<-hb];dsimp only;cases b with
 | false=>exact zac (fun _=>zab rfl) fun c=>by cases c
 | true=>
 rw [zd3 h hw];have hol:=zgh (toHp h);have hup:=zii (toHp h);generalize P.zag (toHp h)=l at *
 refine zac (fun c=>by cases c) fun _=>?_
 rw [qab];dsimp only;rw [zbq,zby];dsimp only;rw [qaP];refine zad (P:=fun r=>r.1.1 = !(refs.all fun x=>decide (x=0\/x∈l))) (zad (P:=fun r=>(0<=r.1.1/\(refs.all fun x=>decide (x=0\/x∈l))=false)\/(r.1.1 = -1/\(refs.all fun x=>decide (x=0\/x∈l))=true)) (zad (P:=fun r=>(∃ y,r = .inl y/\0<=y.1.1/\(refs.all fun x=>decide (x=0\/x∈l))=false)\/(∃ y,r = .inr y/\(refs.all fun x=>decide (x=0\/x∈l))=true)) (zan (fun x=>∃ k:Nat,x.1.2.1=(k:Int)/\k<=refs.length/\x.2.2.1.1=l/\∀ j,j<k->(refs.getD j 0=0\/refs.getD j 0∈l)) (fun x=>((refs.length:Int)-x.1.2.1).toNat) ⟨0,rfl,by omega,rfl,fun j hj=>by omega⟩ ?_) ?_) ?_) ?_
 · rintro ⟨⟨(q:Int),(k':Int),_⟩,_,⟨(l':List Int),_⟩,_⟩ ⟨k,e1,e2,e3,e4⟩;dsimp only at e1 e3 ⊢
   subst e1 e3;refine zac (fun h4=>?_) fun h4=>zab ?_
   rotate_left
   · simp only [qaf]at h4;refine .inr ⟨_,rfl,qaL.2 fun x hx=>qac ?_⟩
     obtain ⟨u,hu,eu⟩:=qbP.1 hx;have eu:refs.getD u 0=x:=by rw [qaw,qap hu];exact eu
     have:=e4 u (by omega)
     rw [eu]at this;exact this
   simp only [qaa]at h4;have hk:k<refs.length:=by omega
   rw [qad,W_id (n:=(k:Int)+1) (by omega),zfT]
   dsimp only;refine zae (zaj.2 ⟨by omega,h4⟩) (zad (P:=fun r=>(r.1.1=false↔(refs.getD k 0=0\/refs.getD k 0∈l'))/\r.2.1=l') (zad (zeH l' (by omega) hup _) ?_) ?_)
   · rintro ⟨⟨(b:Bool),_⟩,_⟩ hb2;dsimp only at hb2 ⊢
     refine zab ⟨?_,rfl⟩;rw [<-hb2];cases b <;> simp
   · rintro ⟨⟨(b:Bool),_⟩,(l2:List Int),_⟩ ⟨hb2,hl2⟩;dsimp only at hb2 hl2 ⊢
     subst hl2;cases b with
     | true=>
      refine zac (fun _=>zab (.inl ⟨_,rfl,by dsimp only;omega,?_⟩)) fun c=>by cases c
      rw [<-qbl];intro c;have:=qaq (qaL.1 c _ (zaG (d:=0) hk))
      have:=hb2.2 this
      cases this
     | false=>
      exact zac (fun c=>by cases c) fun _=>zab ⟨⟨k+1,by dsimp only;omega,by omega,rfl,fun j hj=>by
       by_cases e:j=k
       · subst e;exact hb2.1 rfl
       · exact e4 j (by omega)⟩,by dsimp only;omega⟩
 · rintro _ (⟨y,rfl,g1,g2⟩ | ⟨y,rfl,g2⟩)
   · exact zab (.inl ⟨g1,g2⟩)
   · exact zab (.inr ⟨rfl,g2⟩)
 · rintro ⟨⟨(q:Int),_⟩,_⟩ hq;dsimp only at hq ⊢
   refine zab ?_;rcases hq with ⟨g1,g2⟩ | ⟨g1,g2⟩
   · rw [g2];exact qac g1
   · rw [g2,g1];rfl
 · rintro ⟨⟨(b:Bool),_⟩,_⟩ hb2;have hb2:b = !(refs.all fun x=>decide (x=0\/x∈l)):=hb2
   refine zab ?_;rw [hb2];exact Bool.not_not _
theorem zoB(raw:HpD)(hr:WBo raw.2.1)(refs tape odd:List Int):F_l09_AuditRefers (raw,refs,tape,odd,())=some ((true,()),()):=by
 refine zvi ?_;rw [zg7];dsimp only
 simp only [zar];refine zac (fun _=>zab rfl) fun h1=>?_
 simp only [qaf]at h1;rw [zqj,qab];dsimp only;refine zac (fun _=>zab rfl) fun h2=>?_
 have h2:raw.2.1.length<=5000/\raw.2.2.1.length<=100:=by simpa using h2
 have hwr:HpW raw:=⟨by omega,by omega,hr⟩
 refine zad (zrR tape) ?_;rintro ⟨⟨(d:WdD),_⟩,_⟩ ⟨n,hm⟩;have hw:=hm.hw;have L:=hm.lens;have h4:=hm.n400;have hsp:=zhC n d hm odd 0 (by omega) (by omega)
 obtain ⟨(h:HpD),(st:List Int),(wk:List Int),_⟩:=d;have hw:HpW h:=hw;have l1:st.length<=n:=L.stn
 refine zad hsp ?_;rintro ⟨⟨⟨(h':HpD),(st':List Int),(wk':List Int),_⟩,_⟩,⟨(tp:List Int),(ta:Int),_⟩,_⟩ hw';have hw':HpW h':=hw';dsimp only;rw [zrS,qab];dsimp only;refine zac (fun _=>?_) fun c=>by cases c
 have two:∀ (v:HpD),HpW v->∀ l:List Int,l.length<=1000000->∃ b x y,F_audit_Refers (v,l,())=some ((b,x),y)/\∃ x' y',F_r09_Refers (v,l,())=some ((b,x'),y'):=fun v hv l hl=>by
  obtain ⟨⟨⟨b1,x⟩,y⟩,e1,g1⟩:=ziL v hv l hl;obtain ⟨⟨⟨b2,x'⟩,y'⟩,e2,g2⟩:=zfs v hv l (by omega)
  have:b2=b1:=g2.trans g1.symm
  subst this;exact ⟨_,_,_,e1,_,_,e2⟩
 obtain ⟨b1,_,_,e1,_,_,e1'⟩:=two raw hwr refs (by omega)
 obtain ⟨b2,_,_,e2,_,_,e2'⟩:=two h hw refs (by omega)
 obtain ⟨b3,_,_,e3,_,_,e3'⟩:=two h' hw' st (by omega)
 try simp only [zar]
 rw [e1,qab,e1',qab];refine zac (fun _=>?_) fun c=>by simp at c
 rw [e2,qab,e2',qab];refine zac (fun _=>?_) fun c=>by simp at c
 rw [e3,qab,e3',qab];exact zab (by simp)
theorem L_AuditRefersu(d)(h:wfP E_l09_AuditRefers.ps d):F_l09_AuditRefers d=some ((true,()),()):=by
 obtain ⟨raw,refs,tape,odd,_⟩:=d;obtain ⟨hr,-⟩:=h;exact zoB raw (fun x hx=>wf_u (hr.2.1.2 x hx)) refs tape odd
end Go.VI
