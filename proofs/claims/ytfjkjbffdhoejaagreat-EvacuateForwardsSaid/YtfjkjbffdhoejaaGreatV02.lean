import Derived.Test.YtfjkjbffdhoejaaGreatV01
import Derived.Laws.CopyRow
import Derived.Laws.IdiomCopy
import Derived.OrdersIn
import Derived.ControlIn
import Derived.RangeFuncLeaves
import Derived.RangeFuncRecord
import Derived.RangeFuncNested
import Derived.Sort.LoopGhostIn
import Derived.Scope
set_option linter.unusedSimpArgs false
set_option linter.unusedVariables false
set_option maxRecDepth 100000
set_option maxHeartbeats 4000000
namespace Go.VI
open Go Go.RowKit
section
variable {P:Program} {te:TE} {cx:Cx} {fs:FS} {w:World} {env:Nm} {own:Ow} {N:Nat->Prop}
theorem zsa{e e':Ty}{l':List e'.den}{l:List e.den}(h:Ty.cast (.slice e') (.slice e) l'=some l):∃ he:e'=e,he ▸ l'=l:=by
 unfold Ty.cast at h;split at h
 . rename_i he;have:=Ty.eqb_eq he
   injection this with this
   subst this;simp at h
   exact ⟨rfl,h⟩
 . cases h
theorem ones_of{h:Array Obj}{ok:Nat->Prop}{e:Ty}{l:List e.den}{cs:List Value}(hl:cs.length=l.length)(hf:∀ i (hi:i<l.length),Fits h ok e l[i] ((cs.drop i).take 1)):∀ v∈cs,v.oneCell'=true:=by
 intro v hv;obtain ⟨i,hi,rfl⟩:=List.getElem_of_mem hv;refine (hf i (by omega)).one _ ?_
 rw [qaU hi,qcv];exact qbg ..
theorem zr8(hw:RW cx w env own N)(hb:RB cx fs w env own){t elem ty:TypeId}{i:TypeInfo}(hu:P.underlying t=some (.slice elem))(hi:P.info? elem=some i){e:Ty}(hsz:i.size=e.size)(he:e.size=1)
 {y:Lf} {vy:Value} {m:List e.den} {wy:Ws} (hm:(zl6 false e y).evs fs=some (m,wy)) (hy:LfR w.heap (cx.ok own) env y vy)
 {b:Nat} {T:TypeId} {l:List e.den} (hfs:fs (.b b) = .arr true T e l) {p:Option Addr} {len c lo n:Nat} (hv:env b=some (.slice p len c)) (hlo:lo+n<=len) (hlc:len<=c) {vx:Value} (hx:vx = .slice (if c=lo then p else p.map (·.add lo)) n (c-lo)) :
 ∃ w',(Builtin.copy_ #[t,t] ty #[vx,vy]).run P w = .ok (.int .i64 (min m.length n:Nat)) w'/\Post cx fs w env own [(b,.arr true T e (l.take lo++(m.take n++l.drop (lo+min m.length n))))] w' env own N:=by
 obtain ⟨⟨q,cy,hvy,hqn,hrow,_⟩,_⟩:=zf5 hb hm hy;subst hvy;subst hx
 have hbb:=hb b;rw [hfs]at hbb;obtain ⟨v',hv',hr⟩:=hbb;rw [hv]at hv'
 simp at hv';subst hv'
 have hs1:(P.info? elem).map (·.size)=some 1:=by simp [hi,hsz,he]
 have same:∀ {l':List e.den},l'=l->Post cx fs w env own [(b,.arr true T e l')] w env own N:=fun {l'} h=>by
  subst h;refine ⟨hw,fun b'=>?_,.refl,qao _⟩
  by_cases hbn:b'=b
  . subst hbn;rw [zb0,<-hfs];exact hb b'
  . rw [zch (Ne.symm hbn)];exact hb b'
 by_cases h0:min m.length n=0
 . refine ⟨w,?_,same ?_⟩
   . rw [run_copy_none (P:=P) w t t ty elem _ _ _ _ _ _ hu hs1 h0,h0];rfl
   . have hmt:m.take n=[]:=qbT (by rw [qau];omega)
     rw [h0,hmt,qa9,qaS,qcm]
 . rcases hr with ⟨hr1,rfl⟩ | ⟨g,cap,cur,hr1,hg,h1,h2,h3,h4,h5,h6⟩
   . obtain ⟨_,e2,e3⟩:=Value.slice.inj hr1;have:n=0:=by omega
     rw [this]at h0;simp at h0
   . injection hr1 with e1 e2 e3
     subst e1;subst e2;subst e3
     rw [he,qbY]at h3;obtain ⟨hown,hge⟩:=h5 rfl;cases q with
     | none=>have:=hqn rfl;subst this;simp at h0
     | some ya=>
      obtain ⟨hsp,cury,Ty',fy,hgy,hley,hfity,_⟩:=hrow ya rfl (fun h=>h0 (by simp [h]))
      rw [he,qbY]at hley;let cs:List Value:=(cury.toList.drop ya.off).take (min m.length n)
      have hcs:cs.length=Nat.min m.length n:=by
       simp only [cs,qau,qaK,qbz];show min _ _=min _ _
       omega
      have hcf:∀ i (hi:i<(m.take n).length),Fits w.heap (cx.ok own) e (m.take n)[i] ((cs.drop i).take 1):=fun i hi=>by
       have him:i<m.length:=by simp at hi;omega
       have:=hfity i him
       rw [he,qbY]at this;have e1:(cs.drop i).take 1=(cury.toList.drop (ya.off+i)).take 1:=by
        simp only [cs,qbK,qbJ,qbu];congr 1
        simp at hi
        omega
       rw [e1];simpa [qcd] using this
      have hones:=ones_of (l:=m.take n) (cs:=cs) (by rw [hcs,qau];show min _ _=min _ _;omega) hcf
      have hrun:=run_copy_row (P:=P) w t t ty elem g lo n (c-lo) ya m.length cy cur T cs hu hs1 hg hcs (zqT hsp hgy _) (by rw [hcs,h3];show lo+min _ _<=_;omega) hones
      rw [if_neg (by omega)]
      simp only [qbI,Addr.add_lit,qaH];refine ⟨_,hrun.trans (by rw [show goInt (cs.length:Int)=Value.int .i64 (min m.length n:Nat) from by rw [hcs];rfl]),Post.write hw hb hown ⟨_,hv,.inr ⟨g,c,_,?_,setRow_heap w g cur _ T _ hg,?_,h2,?_,fun i hi=>?_,fun _=>⟨hown,hge⟩,fun h=>by cases h⟩⟩⟩
      . congr 1
        simp only [qaD,qau,qaK];omega
      . simp only [qaD,qau,qaK];omega
      . rw [he,qbY];simp only [List.size_toArray,qaD,qau,qaK,qbz,hcs];show min lo cur.size+min m.length n+(cur.size-(lo+min m.length n))=c
        omega
      . have hH:=(zeW (cx:=cx) (w:=w) (env:=env) hown (cur.toList.take lo++cs++cur.toList.drop (lo+cs.length)).toArray).heap
        rw [he,qbY];simp only
        have hcl:cs.length=min m.length n:=hcs
        have hlt:i<l.length:=by simp only [qaD,qau,qaK]at hi;omega
        have h4':∀ j (hj:j<l.length),Fits w.heap (cx.ok own) e l[j] ((cur.toList.drop j).take 1):=fun j hj=>by
         have:=h4 j hj
         rwa [he,qbY]at this
        refine Fits.mono hH ?_;have hcur:cur.toList.length=c:=by simpa using h3
        by_cases hi1:i<lo
        . have e1:(l.take lo++(m.take n++l.drop (lo+min m.length n)))[i]=l[i]:=by
           rw [qcz (by simp;omega)];simp
          have e2:((cur.toList.take lo++cs++cur.toList.drop (lo+cs.length)).drop i).take 1=(cur.toList.drop i).take 1:=by
           rw [qaR,qcn (by simp;omega),qbZ (by simp;omega),qbK,qbJ]
           congr 1;omega
          rw [e1,e2];exact h4' i hlt
        . by_cases hi2:i<lo+min m.length n
          . have hin:i-lo<(m.take n).length:=by simp;omega
            have e1:(l.take lo++(m.take n++l.drop (lo+min m.length n)))[i]=(m.take n)[i-lo]:=by
             rw [qcE (by simp;omega)]
             simp only [qau,qbE (show lo<=l.length by omega)]
             rw [qcz hin]
            have e2:((cur.toList.take lo++cs++cur.toList.drop (lo+cs.length)).drop i).take 1=(cs.drop (i-lo)).take 1:=by
             rw [qaR,qbP,qbk (by simp;omega),qaS]
             simp only [qau,hcur,qbE (show lo<=c by omega)]
             rw [qcn (by omega),qbZ (by simp;omega)]
            rw [e1,e2];exact hcf (i-lo) hin
          . have e1:(l.take lo++(m.take n++l.drop (lo+min m.length n)))[i]=l[i]:=by
             rw [qcE (by simp;omega)]
             simp only [qau,qbE (show lo<=l.length by omega)]
             rw [qcE (by simp;omega)]
             simp only [qau,qcj];congr 1
             omega
            have e2:((cur.toList.take lo++cs++cur.toList.drop (lo+cs.length)).drop i).take 1=(cur.toList.drop i).take 1:=by
             rw [qbP,qbk (by simp;omega),qaS,qbu]
             simp only [qaD,qau,hcur,qbE (show lo<=c by omega)]
             congr 2
             omega
            rw [e1,e2];exact h4' i hlt
theorem copy_ok(ht:TEok P te)(hw:RW cx w env own N)(hb:RB cx fs w env own){t ty:TypeId}{x y a:Lf}{vx vy:Value}{bw:Ws}(h:(copyT te t x y).evs fs=some (a,bw))
 (hx:LfR w.heap (cx.ok own) env x vx) (hy:LfR w.heap (cx.ok own) env y vy) :
 ∃ v w',(Builtin.copy_ #[t,t] ty #[vx,vy]).run P w = .ok v w'/\Post cx fs w env own bw w' env own N/\LfR w'.heap (cx.ok own) env a v:=by
 obtain ⟨r,h1,h2⟩:=zaa.1 h;obtain ⟨htr,hr⟩:=zb3 ht h1;subst htr;split at h2
 . rename_i e hty;obtain ⟨hu,i,z,hi,hsz,_⟩:=hr.slice e hty;obtain ⟨_,h3,h4⟩:=zaa.1 h2;have he:=qan (zah.1 h3);obtain ⟨⟨m,wy⟩,h5,h6⟩:=zaa.1 h4;dsimp only at h6
   split at h6
   . rename_i b;obtain ⟨cl,h7,h8⟩:=zaa.1 h6;simp only [zaS,Option.some.injEq]at h7;subst h7;split at h8
     . rename_i TT e' l' hfs
       obtain ⟨l,h9,h10⟩:=zaa.1 h8;simp only [zcm,zbb]at h9;obtain ⟨rfl,hl⟩:=zsa h9;simp only at hl;subst hl
       simp at h10
       obtain ⟨rfl,rfl⟩:=h10;obtain ⟨hx1,p,n,c,rfl⟩:=hx;have hbb:=hb b;rw [hfs]at hbb;obtain ⟨v',hv',hr'⟩:=hbb;rw [hx1]at hv'
       simp at hv';subst hv'
       have hlen:n=l'.length/\n<=c:=by
        rcases hr' with ⟨q,rfl⟩ | ⟨g,cap,cur,q,_,q1,_⟩
        . injection q with _ q2 q3;subst q2;subst q3;simp
        . injection q with _ q2 q3;subst q2;subst q3;exact ⟨rfl,q1⟩
       obtain ⟨rfl,hnc⟩:=hlen;have hvx:(Value.slice p l'.length c) = .slice (if c=0 then p else p.map (·.add 0)) l'.length (c-0):=by
        have:p.map (·.add 0)=p:=by cases p <;> simp [Addr.add]
        simp [this]
       obtain ⟨w',q1,q2⟩:=zr8 (ty:=ty) hw hb hu hi hsz he h5 hy hfs hx1 (lo:=0) (n:=l'.length) (by omega) hnc hvx
       refine ⟨_,w',q1,?_,by simp [LfR,Fits]⟩
       have e1:l'.take 0++(m.take l'.length++l'.drop (0+min m.length l'.length))=m.take l'.length++l'.drop m.length:=by
        rw [List.take_zero,qaS,qaH];congr 1
        by_cases hml:m.length<=l'.length
        . rw [qbE hml]
        . rw [Nat.min_eq_right (by omega),qbk (by omega),qbk (by omega)]
       rw [e1]at q2;exact q2
     . simp [T.evs]at h8
   . rename_i b sz lo n;obtain ⟨cl,h7,h8⟩:=zaa.1 h6;simp only [zaS,Option.some.injEq]at h7;subst h7;split at h8
     . rename_i TT e' l' hfs
       obtain ⟨l,h9,h10⟩:=zaa.1 h8;obtain ⟨_,h11,h12⟩:=zaa.1 h10;have hsz1:=qan (zah.1 h11);subst hsz1;simp only [zcm,zbb]at h9;obtain ⟨rfl,hl⟩:=zsa h9;simp only at hl;subst hl
       simp at h12
       obtain ⟨rfl,rfl⟩:=h12;obtain ⟨p,len,c,q1,q2,q3,rfl⟩:=hx;obtain ⟨w',q4,q5⟩:=zr8 (ty:=ty) hw hb hu hi hsz he h5 hy hfs q1 q2 q3 (vx:=.slice (if c=lo then p else p.map (·.add (lo*1))) n (c-lo)) (by rw [qbY])
       exact ⟨_,w',q4,q5,by simp [LfR,Fits]⟩
     . simp [T.evs]at h8
   . simp [T.evs]at h6
 . simp [T.evs]at h2
end
end Go.VI
namespace Go.VI
open Go Go.RowKit
def Fw(fr:Option Nat):Fence:={ Fence.wide with round:=fr }
theorem zze{fr:Option Nat}{m0:Nat}{P:Program}{f:FuncId}{args:Array Value}{w:World}{R:Ending->World->Prop}(h:Calls P f args w R):CallsIn (Fw fr) m0 P f args w R:=callsIn_wide (n:=m0).2 h
section
variable {fr:Option Nat} {m0:Nat} {P:Program} {te:TE} {tbl:Tbl} {cx:Cx} {fs:FS} {w:World} {env:Nm} {own:Ow} {N:Nat->Prop} {o:Oper} {act:Act} {K:Act->World->Prop} {Q:Exit->Act->World->Prop}
theorem zxy{ρ:Operand->Value}{o:Oper}{r:Result Next}{w:World}(h:(execOp ρ o).run P w=r)(hr:∀ d w',r≠.ok (.defer d) w')(c:_):o.op≠.defer c\/∃ x w',r = .halt x w':=by
 by_cases hc:o.op = .defer c
 . right
   simp only [execOp,hc,Sem.run_bind]at h;cases hq:(resolve ρ c o.type).run P w with
   | ok d w'=>rw [hq]at h;exact absurd h.symm (hr _ _)
   | halt x w'=>rw [hq]at h;exact ⟨x,w',h.symm⟩
 . exact .inl hc
theorem zuC{o:Oper}{r:Next}{w':World}(h:(execOp act.eval o).run P w = .ok r w')(hr:∀ d,r≠.defer d)(k:o.uponIn (Fw fr) m0 P act K Q (.ok r w')):o.wpIn (Fw fr) m0 P act w K Q:=by
 refine ⟨fun _ _=>trivial,?_⟩
 rw [Oper.semAt_eq (Fw fr).round act.eval o fun c=>(zxy h (fun d w2 e=>hr d (by injection e)) c).resolve_right (by rintro ⟨x,w2,e⟩;cases e),h]
 exact k
theorem za7{v:Value}{w':World}(h:(execOp act.eval o).run P w = .ok (.value v) w')(k:K (act.put o.dst v) w'):o.wpIn (Fw fr) m0 P act w K Q:=zuC h (fun _ e=>by cases e) k
theorem wp_skp{w':World}(h:(execOp act.eval o).run P w = .ok .skip w')(k:K (act.put o.dst undef) w'):o.wpIn (Fw fr) m0 P act w K Q:=zuC h (fun _ e=>by cases e) k
def ResOk(h:Array Obj)(ok:Nat->Prop)(env:Nm)(a:Option AV)(v:Value):Prop:=match a with
 | some a=>AvR h ok env a v
 | none=>v=undef
theorem zep{t:T Lf}{r:Option AV×Ws}(h:T.evs fs (do pure (some (AV.v (A1.one (<-t))),[]))=some r):∃ x,t.evs fs=some x/\r=(some (.v (.one x)),[]):=by
 obtain ⟨x,h1,h2⟩:=zaa.1 h;simp at h2
 exact ⟨x,h1,h2.symm⟩
theorem op_wp(ht:TEok P te)(hT:tbl.Sound P)(hw:RW cx w env own N)(hb:RB cx fs w env own)(hs:RS cx fs act.tmps w env own){nm:Nat}(hn:∀ b,nm<=b->b<nm+64->¬N b){r:Option AV×Ws}(h:(znz te tbl o nm).evs fs=some r)
 (hK:∀ v w' env' own',Post cx fs w env own r.2 w' env' own' (fun b=>N b\/(nm<=b/\b<nm+64))->ResOk w'.heap (cx.ok own') env' r.1 v->K (act.put o.dst v) w'):o.wpIn (Fw fr) m0 P act w K Q:=by
 have hn0:¬N nm:=hn nm (by omega) (by omega)
 have hid:Post cx fs w env own [] w env own (fun b=>N b\/(nm<=b/\b<nm+64)):=(Post.refl hw hb).mono fun _ h=>.inl h
 have hnm:∀ b,(N b\/b=nm)->(N b\/(nm<=b/\b<nm+64)):=fun b h=>h.imp id fun h=>by omega
 obtain ⟨dst,op,ty,pos,after,guard⟩:=o;cases op
 case move x=>
  obtain ⟨a,h1,h2⟩:=zaa.1 h;simp at h2;subst h2
  exact za7 (v:=act.eval x) (w':=w) (by simp [execOp]) (hK _ _ _ _ hid (zdN hs h1))
 case assign x=>
  obtain ⟨a,h1,h2⟩:=zaa.1 h;simp at h2;subst h2
  exact za7 (v:=act.eval x) (w':=w) (by simp [execOp]) (hK _ _ _ _ hid (zdN hs h1))
 case pick c a b=>
  obtain ⟨x,h1,h2⟩:=zaa.1 h;have hc:=zbc hs h1;split at h2
  . obtain ⟨u,h3,h4⟩:=zaa.1 h2;simp at h4;subst h4
    simp only [LfR]at hc;exact za7 (v:=act.eval a) (w':=w) (by simp [execOp,hc,Go.asBool]) (hK _ _ _ _ hid (zdN hs h3))
  . obtain ⟨u,h3,h4⟩:=zaa.1 h2;simp at h4;subst h4
    simp only [LfR]at hc;exact za7 (v:=act.eval b) (w':=w) (by simp [execOp,hc,Go.asBool]) (hK _ _ _ _ hid (zdN hs h3))
  . simp [T.evs]at h2
 case alloc t=>
  obtain ⟨rw',h1,h2⟩:=zaa.1 h;simp at h2;subst h2
  obtain ⟨v,w',env',own',e1,e2,e3⟩:=zzr ht hw hb hn0 h1;exact za7 (by simp [execOp,e1]) (hK _ _ _ _ (e2.mono hnm) e3)
 case box t x=>
  obtain ⟨rw',h1,h2⟩:=zaa.1 h;obtain ⟨a,h3,h4⟩:=zaa.1 h2;obtain ⟨ys,h5,h6⟩:=zaa.1 h4;obtain ⟨_,h7,h8⟩:=zaa.1 h6;simp at h8;subst h8
  obtain ⟨v,w',env',own',e1,e2,e3⟩:=box_ok ht hw hb hn0 (t:=t) (ziw h5 (zdN hs h3))
  exact za7 (by simp [execOp,e1]) (hK _ _ _ _ (e2.mono hnm) e3)
 case build t ps=>
  obtain ⟨rw',h1,h2⟩:=zaa.1 h;obtain ⟨_,h3,h4⟩:=zaa.1 h2;obtain ⟨zs,h5,h6⟩:=zaa.1 h4;simp at h6;subst h6
  obtain ⟨v,e1,e2⟩:=zzp ht hs h1 (zah.1 h3) h5;exact za7 (by simp only [execOp,Sem.run_bind];rw [e1];rfl) (hK _ _ _ _ hid e2)
 case buildSlice t n ps=>
  obtain ⟨rw',h1,h2⟩:=zaa.1 h;split at h2
  . rename_i e hty;obtain ⟨⟨vs,ws⟩,h3,h4⟩:=zaa.1 h2;obtain ⟨_,h5,h6⟩:=zaa.1 h4;simp at h6;subst h6
    have h5:=zah.1 h5;simp only [qae]at h5;obtain ⟨v,w',env',own',e1,e2,e3⟩:=zqg ht hw hb hs hn0 h1 hty h3 (qan h5.1) (qa5 h5.2);exact za7 (by simp only [execOp,Sem.run_bind];rw [e1];rfl) (hK _ _ _ _ (e2.mono hnm) e3)
  . simp [T.evs]at h2
 case makeInterface K' x=>
  obtain ⟨rw',h1,h2⟩:=zaa.1 h;obtain ⟨_,h3,h4⟩:=zaa.1 h2;obtain ⟨a,h5,h6⟩:=zaa.1 h4;obtain ⟨ys,h7,h8⟩:=zaa.1 h6;obtain ⟨⟨v,rest,ws⟩,h9,h10⟩:=zaa.1 h8;obtain ⟨_,h11,h12⟩:=zaa.1 h10;simp at h12;subst h12
  have hagg:=zah.1 h3;have hr:rest=[]:=by simpa using zah.1 h11
  subst hr;obtain ⟨k1,k2⟩:=zb1 h7 (zdN hs h5) (.inr trivial);obtain ⟨f1,c1,c2,hc,hr,f2⟩:=zcf hb h9 k1;have hc2:c2=[]:=by cases c2 with
   | nil=>rfl
   | cons _ _=>exact hr.elim
  subst hc2;rw [qaW]at hc;have hv:=k2 _ rfl;obtain ⟨rfl,hro⟩:=zb3 ht h1;obtain ⟨d,hu,hd⟩:=hro.agg;rw [hagg]at hd;have hv2:∃ cs:Array Value,act.eval x = .agg cs:=by
   rw [hv];simp [zaW,hagg]
  obtain ⟨cs,hcs⟩:=hv2;have hrun:(Instr.makeInterface rw'.t (act.eval x)).run P w = .ok (.iface rw'.t (act.eval x)) w:=by
   simp only [Instr.makeInterface,Sem.run_bind,run_underlying hu,Result.andThen_ok];cases d <;> first | rfl | simp [aggD]at hd
  refine za7 (by simp only [execOp,Sem.run_bind];rw [hrun];rfl) (hK _ _ _ _ ((Post.freeze hw hb f1).mono fun _ h=>.inl h) ?_)
  refine .inr ⟨v,cs,rfl,by rw [hcs],?_⟩
  have:=f2 (nms ws) fun p hp=>qav.2 ⟨p,hp,rfl⟩
  rw [<-hc,hcs]at this;exact this
 case typeAssert x xT A ck=>
  cases ck with
  | false=>simp [znz,T.evs]at h
  | true=>
   obtain ⟨rw',h1,h2⟩:=zaa.1 h;obtain ⟨_,h3,h4⟩:=zaa.1 h2;obtain ⟨l,h5,h6⟩:=zaa.1 h4;split at h6
   . rename_i t' v
     obtain ⟨o,h7,h8⟩:=zaa.1 h6;simp at h8;subst h8
     have hx:Fits _ _ _ _ _:=zbc hs h5;simp only [zcm,zbb]at h7;have hf:=LfR.imm_of_cast h7 hx;obtain ⟨rfl,hro⟩:=zb3 ht h1;have hg:=zah.1 h3;simp only [qae,Row.isStruct,qar]at hg;obtain ⟨⟨hagg,harr⟩,hsz⟩:=hg;have harr:rw'.arr=none:=by simpa using harr
     obtain ⟨fls,hu,-⟩:=hro.struct hagg harr;obtain ⟨i,z,hi,hsize,hz,hcells⟩:=hro.info;have hzagg:∃ zc:Array Value,z = .agg zc:=by
      have hl:=congrArg List.length hcells;rw [zdH]at hl;have:rw'.ty.size≠1:=fun e=>by rw [e]at hsz;cases hsz
      cases z <;> first | exact ⟨_,rfl⟩ | (simp [Value.cells]at hl;omega)
     obtain ⟨zc,rfl⟩:=hzagg;rcases hf with ⟨rfl,he⟩ | ⟨d,c,rfl,he,hd⟩
     . have he:act.eval x = .nilIface:=by simpa using he
       refine za7 (v:=.tuple #[.agg zc,.bool false]) (w':=w) ?_ (hK _ _ _ _ hid ⟨_,rfl,⟨zc,rfl,?_⟩,by simp [A1R,LfR,Fits],trivial⟩)
       . simp [execOp,Instr.typeAssert,run_underlying hu,he,zeroValue,typeInfo,hi,hz]
       . have:=zcZ (env:=env) (zex (h:=w.heap) (ok:=cx.ok own) rw'.ty)
         rw [<-hcells]at this;exact this
     . have he:act.eval x = .iface rw'.t (.agg c):=by simpa using he
       refine za7 (v:=.tuple #[.agg c,.bool true]) (w':=w) ?_ (hK _ _ _ _ hid ⟨_,rfl,⟨c,rfl,zcZ hd⟩,by simp [A1R,LfR,Fits],trivial⟩)
       simp [execOp,Instr.typeAssert,run_underlying hu,he]
   . simp [T.evs]at h6
 case load t p=>
  obtain ⟨l,h1,h2⟩:=zaa.1 h;obtain ⟨a,h3,h4⟩:=zaa.1 h2;simp at h4;subst h4
  obtain ⟨v,e1,e2⟩:=load_ok ht hb h3 (zbc hs h1);exact za7 (by simp [execOp,e1]) (hK _ _ _ _ hid e2)
 case store t p x=>
  obtain ⟨a,h1,h2⟩:=zaa.1 h;obtain ⟨l,h3,h4⟩:=zaa.1 h2;obtain ⟨bw,h5,h6⟩:=zaa.1 h4;simp at h6;subst h6
  obtain ⟨w',own',e1,e2⟩:=zyy ht hw hb h5 (zbc hs h3) (zdN hs h1);exact wp_skp (by simp [execOp,e1]) (hK _ _ _ _ (e2.mono fun _ h=>.inl h) rfl)
 case nilCheck x=>
  obtain ⟨z,h1,rfl⟩:=zep h;obtain ⟨l,h2,h3⟩:=zaa.1 h1;have hx:=zbc hs h2;split at h3
  . simp at h3;subst h3
    obtain ⟨g,q1,q2⟩:=hx;exact za7 (v:=act.eval x) (w':=w) (by simp [execOp,q2]) (hK _ _ _ _ hid ⟨g,q1,q2⟩)
  . simp at h3;subst h3
    obtain ⟨g,n,c,q1,q2,q3⟩:=hx;exact za7 (v:=act.eval x) (w':=w) (by simp [execOp,q3]) (hK _ _ _ _ hid ⟨g,n,c,q1,q2,q3⟩)
  . simp at h3;subst h3
    obtain ⟨y,q1,q2,q3⟩:=hx;exact za7 (v:=act.eval x) (w':=w) (by simp [execOp,q2]) (hK _ _ _ _ hid ⟨y,q1,q2,q3⟩)
  . simp [T.evs]at h3
 case binOp op xt x y yt=>
  obtain ⟨z,h1,rfl⟩:=zep h;obtain ⟨a,h2,h3⟩:=zaa.1 h1;obtain ⟨b,h4,h5⟩:=zaa.1 h3;obtain ⟨v,e1,e2⟩:=binA_ok (P:=P) (w:=w) (t:=xt) (ox:=x) (oy:=y) ht hb h5 (zdN hs h2) (zdN hs h4)
  exact za7 (by simp only [execOp];rw [Sem.run_bind,e1];rfl) (hK _ _ _ _ hid e2)
 case unOp op xt x=>
  obtain ⟨z,h1,rfl⟩:=zep h;obtain ⟨a,h2,h3⟩:=zaa.1 h1;obtain ⟨v,e1,e2⟩:=un_ok (P:=P) (w:=w) h3 (zbc hs h2)
  exact za7 (by simp [execOp,e1]) (hK _ _ _ _ hid e2)
 case convert s d x=>
  obtain ⟨z,h1,rfl⟩:=zep h;obtain ⟨a,h2,h3⟩:=zaa.1 h1;obtain ⟨v,e1,e2⟩:=conv_ok (P:=P) (w:=w) ht h3 (zbc hs h2)
  exact za7 (by simp [execOp,e1]) (hK _ _ _ _ hid e2)
 case fieldAddr s x f=>
  obtain ⟨z,h1,rfl⟩:=zep h;obtain ⟨a,h2,h3⟩:=zaa.1 h1;obtain ⟨v,e1,e2⟩:=zzg ht h3 (zbc hs h2);exact za7 (by simp [execOp,e1]) (hK _ _ _ _ hid e2)
 case field s x f=>
  obtain ⟨a,h1,h2⟩:=zaa.1 h;obtain ⟨b,h3,h4⟩:=zaa.1 h2;simp at h4;subst h4
  obtain ⟨v,e1,e2⟩:=part_ok (P:=P) (w:=w) ht h3 (zdN hs h1)
  exact za7 (by simp [execOp,e1]) (hK _ _ _ _ hid e2)
 case indexAddr t x i=>
  obtain ⟨z,h1,rfl⟩:=zep h;obtain ⟨li,h2,h3⟩:=zaa.1 h1;obtain ⟨⟨k,n⟩,h4,h5⟩:=zaa.1 h3;obtain ⟨lx,h6,h7⟩:=zaa.1 h5;have hi:=zc8 h4 (zbc hs h2);obtain ⟨v,e1,e2⟩:=zzc (k:=k) ht hb h7 (zbc hs h6)
  exact za7 (by simp [execOp,hi,e1]) (hK _ _ _ _ hid e2)
 case extract x i=>
  obtain ⟨a,h1,h2⟩:=zaa.1 h;have hx:=zdN hs h1;split at h2
  . rename_i as;obtain ⟨b,h3,h4⟩:=zaa.1 h2;simp at h4;subst h4
    simp only [zbb]at h3;obtain ⟨vs,q1,q2⟩:=hx;obtain ⟨v,q3,q4⟩:=q2.get i b h3;exact za7 (v:=v) (w':=w) (by simp only [execOp,q1,Instr.extract,Sem.run_bind];rw [<-Array.getElem?_toList,q3];rfl) (hK _ _ _ _ hid q4)
  . simp [T.evs]at h2
 case makeSlice t l c=>
  obtain ⟨rw',h1,h2⟩:=zaa.1 h;obtain ⟨ll,h3,h4⟩:=zaa.1 h2;obtain ⟨⟨kl,n⟩,h5,h6⟩:=zaa.1 h4;obtain ⟨lc,h7,h8⟩:=zaa.1 h6;obtain ⟨⟨kc,m⟩,h9,h10⟩:=zaa.1 h8;dsimp only at h10
  split at h10
  . rename_i e hty;obtain ⟨_,h11,h12⟩:=zaa.1 h10;obtain ⟨_,h13,h14⟩:=zaa.1 h12;simp at h14;subst h14
    have hl:=zc8 h5 (zbc hs h3);have hc:=zc8 h9 (zbc hs h7);have hnm':=zcC.1 h11;simp only [qab]at hnm'
    obtain ⟨v,w',env',own',e1,e2,e3⟩:=zrI ht hw hb hn0 h1 hty (kl:=kl) (kc:=kc) hnm' (zcC.1 h13)
    exact za7 (by simp [execOp,hl,hc,e1]) (hK _ _ _ _ (e2.mono hnm) e3)
  . simp [T.evs]at h10
 case slice t x lo hi mx=>
  cases mx with
  | some _=>simp [znz,T.evs]at h
  | none=>
   obtain ⟨rw',h1,h2⟩:=zaa.1 h;split at h2
   . rename_i e hty;obtain ⟨lx,h3,h4⟩:=zaa.1 h2;obtain ⟨ow,h4o,h4⟩:=zaa.1 h4;obtain ⟨⟨l,ws⟩,h5,h6⟩:=zaa.1 h4;obtain ⟨a,h7,h8⟩:=zaa.1 h6;obtain ⟨b,h9,h10⟩:=zaa.1 h8;obtain ⟨_,h11,h12⟩:=zaa.1 h10;have hab:=zcC.1 h11;simp only [qab]at hab;have hlo:(lo.map act.eval=none/\a=0)\/∃ k,lo.map act.eval=some (.int k a):=by
      cases lo with
      | none=>simp [zvn,T.evs]at h7;exact .inl ⟨rfl,h7.symm⟩
      | some y=>
       obtain ⟨ly,q1,q2⟩:=zaa.1 h7;obtain ⟨⟨k,n⟩,q3,q4⟩:=zaa.1 q2;simp at q4;subst q4
       exact .inr ⟨k,by simp [zc8 q3 (zbc hs q1)]⟩
     have hhi:(hi.map act.eval=none/\b=l.length)\/∃ k,hi.map act.eval=some (.int k b):=by
      cases hi with
      | none=>simp [zvn,T.evs]at h9;exact .inl ⟨rfl,h9.symm⟩
      | some y=>
       obtain ⟨ly,q1,q2⟩:=zaa.1 h9;obtain ⟨⟨k,n⟩,q3,q4⟩:=zaa.1 q2;simp at q4;subst q4
       exact .inr ⟨k,by simp [zc8 q3 (zbc hs q1)]⟩
     split at h12
     . rename_i bb;simp at h12;subst h12
       obtain ⟨v,e1,e2⟩:=zsU ht hb h1 hty h5 (zbc hs h3) hlo hhi hab;exact za7 (by simp [execOp,e1]) (hK _ _ _ _ hid e2)
     . simp [T.evs]at h12
     . simp at h12;subst h12
       obtain ⟨v,own',e1,e2,e3⟩:=zyC ht hw hb h1 hty h5 (zbc hs h3) hlo hhi hab;exact za7 (by simp [execOp,e1]) (hK _ _ _ _ (e2.mono fun _ h=>.inl h) e3)
   . simp [T.evs]at h2
 case makeFunc fn fi ca=>
  cases fn with
  | func f=>
   obtain ⟨z,h1,rfl⟩:=zep h;obtain ⟨a,h2,h3⟩:=zaa.1 h1;obtain ⟨b,h4,h5⟩:=zaa.1 h3;simp at h5;subst h5
   have q1:=zqd hs h2;have q2:=zqd hs h4;exact za7 (v:=.func (.func f) (fi.map act.eval) (ca.map act.eval)) (w':=w) (by simp [execOp,Instr.makeFunc]) (hK _ _ _ _ hid ⟨_,_,rfl,by simpa using q1,by simpa using q2⟩)
  | _=>simp [znz,T.evs]at h
 case call c=>
  obtain ⟨callee,args,argTypes⟩:=c;obtain ⟨args⟩:=args;obtain ⟨argTypes⟩:=argTypes;cases callee with
  | invoke r m=>simp [znz,T.evs]at h
  | value fo=>
   obtain ⟨l,h1,h2⟩:=zaa.1 (show (do
    let l <-rd1 fo
    let avs <-zsZ args
    zzn tbl l avs nm:T (Option AV×Ws)).evs fs=some r from h)
   obtain ⟨avs,h3,h4⟩:=zaa.1 h2;obtain ⟨f,vs,us,e0,hent,hc⟩:=zzm hT hw hb hn (zbc hs h1) (zpl hs h3) h4;have hx:(execOp act.eval ⟨dst,.call ⟨.value fo,⟨args⟩,⟨argTypes⟩⟩,ty,pos,after,guard⟩).run P w = .ok (.enter f (vs++(args.map act.eval).toArray++us)) w:=by
    have e1:execOp act.eval ⟨dst,.call ⟨.value fo,⟨args⟩,⟨argTypes⟩⟩,ty,pos,after,guard⟩=(do let d <-Deferred.ofValue (act.eval fo) ((⟨args⟩:Array Operand).map act.eval);invoke d.target d.args):=rfl
    rw [e1,e0];have e2:(do let d <-Deferred.ofValue (.func (.func f) vs us) ((⟨args⟩:Array Operand).map act.eval);invoke d.target d.args:Sem Next)=callFunc f (vs++(⟨args⟩:Array Operand).map act.eval++us):=rfl
    rw [e2,hent];simp
   refine zuC hx (fun _ e=>by cases e) ⟨(fun e=>by simp [Fw,Fence.wide]at e),(zze hc).mono ?_⟩
   rintro e w' ⟨v,a,env',own',rfl,e1,e2,e3⟩;exact hK v w' env' own' e3 (by rw [e1];exact e2)
  | builtin b=>
   cases b
   case len=>
    obtain ⟨z,h1,rfl⟩:=zep h;split at h1
    . rename_i x t hx hty;subst hx;subst hty
      obtain ⟨lx,h2,h3⟩:=zaa.1 h1;obtain ⟨v,e1,e2⟩:=len_ok (ty:=ty) ht hb h3 (zbc hs h2)
      exact za7 (by simp [execOp,resolve,invoke,builtin,e1]) (hK _ _ _ _ hid e2)
    . simp [T.evs]at h1
   case append=>
    simp only [znz]at h;split at h
    . rename_i x y t t'
      unfold zzQ at h;cases hcc:Nat.beq t t' with
      | true=>
       have htt:=qan hcc;subst htt;simp only [hcc,qah]at h;obtain ⟨lx,h3,h4⟩:=zaa.1 h;obtain ⟨ly,h5,h6⟩:=zaa.1 h4;obtain ⟨⟨a,ws⟩,h7,h8⟩:=zaa.1 h6;simp at h8;subst h8
       obtain ⟨v,w',env',own',e1,e2,e3⟩:=zyc (ty:=ty) ht hw hb hn0 h7 (zbc hs h3) (zbc hs h5)
       exact za7 (by simp [execOp,resolve,invoke,builtin,e1]) (hK _ _ _ _ (e2.mono hnm) e3)
      | false=>
       simp only [hcc,qaf]at h;obtain ⟨r,h1,h2⟩:=zaa.1 h;obtain ⟨htr,hr⟩:=zb3 ht h1;subst htr;split at h2
       . rename_i kn hty;obtain ⟨ly,h3,h4⟩:=zaa.1 h2;obtain ⟨⟨kq,n⟩,h5,h6⟩:=zaa.1 h4;obtain ⟨lx,h7,h8⟩:=zaa.1 h6;obtain ⟨⟨a,ws⟩,h9,h10⟩:=zaa.1 h8;simp at h10;subst h10
         have hy:=zc8 h5 (zbc hs h3);obtain ⟨v,w',env',own',e1,e2,e3⟩:=appZ_ok (ty:=ty) (kq:=kq) ht hw hb hn0 (hr.int kn hty) h9 (zbc hs h7)
         exact za7 (by simp [execOp,resolve,invoke,builtin,hy,e1]) (hK _ _ _ _ (e2.mono hnm) e3)
       . simp [T.evs]at h2
    . simp [T.evs]at h
   case copy=>
    simp only [znz]at h;split at h
    . rename_i x y t t'
      obtain ⟨_,h1,h2⟩:=zaa.1 h;have htt:=qan (zah.1 h1);subst htt;obtain ⟨lx,h3,h4⟩:=zaa.1 h2;obtain ⟨ly,h5,h6⟩:=zaa.1 h4;obtain ⟨⟨a,ws⟩,h7,h8⟩:=zaa.1 h6;simp at h8;subst h8
      obtain ⟨v,w',e1,e2,e3⟩:=copy_ok (ty:=ty) ht hw hb h7 (zbc hs h3) (zbc hs h5)
      exact za7 (by simp [execOp,resolve,invoke,builtin,e1]) (hK _ _ _ _ (e2.mono fun _ h=>.inl h) e3)
    . simp [T.evs]at h
   case min=>
    obtain ⟨z,h1,rfl⟩:=zep h;split at h1
    . rename_i x y hx;subst hx;obtain ⟨lx,h2,h3⟩:=zaa.1 h1;obtain ⟨⟨k,a⟩,h4,h5⟩:=zaa.1 h3;obtain ⟨ly,h6,h7⟩:=zaa.1 h5;obtain ⟨⟨k',b⟩,h8,h9⟩:=zaa.1 h7;simp at h9;subst h9
      have hx:=zc8 h4 (zbc hs h2);have hy:=zc8 h8 (zbc hs h6);exact za7 (v:=.int k (if b<a then b else a)) (w':=w) (by simp [execOp,resolve,invoke,builtin,hx,hy,Builtin.min_,Builtin.min2]) (hK _ _ _ _ hid (by simp [ResOk,AvR,A1R,LfR,Fits]))
    . simp [T.evs]at h1
   case max=>
    obtain ⟨z,h1,rfl⟩:=zep h;split at h1
    . rename_i x y hx;subst hx;obtain ⟨lx,h2,h3⟩:=zaa.1 h1;obtain ⟨⟨k,a⟩,h4,h5⟩:=zaa.1 h3;obtain ⟨ly,h6,h7⟩:=zaa.1 h5;obtain ⟨⟨k',b⟩,h8,h9⟩:=zaa.1 h7;simp at h9;subst h9
      have hx:=zc8 h4 (zbc hs h2);have hy:=zc8 h8 (zbc hs h6);exact za7 (v:=.int k (if b > a then b else a)) (w':=w) (by simp [execOp,resolve,invoke,builtin,hx,hy,Builtin.max_,Builtin.max2]) (hK _ _ _ _ hid (by simp [ResOk,AvR,A1R,LfR,Fits]))
    . simp [T.evs]at h1
   all_goals simp [znz,T.evs]at h
 all_goals simp [znz,T.evs]at h
end
end Go.VI
namespace Go.VI
open Go Go.RowKit
def ovr(fs:FS):List Wr->FS
 | []=>fs
 | .w l c::r=>fun x=>cond (Loc.eqb l x) c (ovr fs r x)
 | .cut::_=>fun _=>.no
theorem zaH(a b:List Wr):look (a++b)=ovr (look b) a:=by
 funext x
 induction a with
 | nil=>rfl
 | cons y a ih=>
  cases y with
  | w l c=>simp only [qaM,look,ovr,ih]
  | cut=>rfl
theorem zjs(fs:FS)(a b:List Wr):ovr fs (a++b)=ovr (ovr fs b) a:=by
 funext x
 induction a with
 | nil=>rfl
 | cons y a ih=>
  cases y with
  | w l c=>simp only [qaM,ovr,ih]
  | cut=>rfl
theorem zbh{a b:Loc}(h:a≠b):Loc.eqb a b=false:=by
 cases hh:Loc.eqb a b with
 | false=>rfl
 | true=>exact absurd (Loc.eqb_iff.1 hh) h
theorem zaO(a:Loc):Loc.eqb a a=true:=Loc.eqb_iff.2 rfl
theorem zff{fs:FS}{ws:List Wr}{l:Loc}(h:l ∉ ws.filterMap Wr.loc)(hc:Wr.cut ∉ ws):ovr fs ws l=fs l:=by
 induction ws with
 | nil=>rfl
 | cons y ws ih=>
  cases y with
  | w l' c=>
   simp only [List.filterMap_cons,Wr.loc,qas,not_or]at h;simp only [ovr,zbh (Ne.symm h.1),qaf];exact ih h.2 fun hm=>hc (by simp [hm])
  | cut=>simp at hc
theorem zs5{fs fs':FS}{ws:List Wr}{l:Loc}(h:l∈ws.filterMap Wr.loc):ovr fs ws l=ovr fs' ws l:=by
 induction ws with
 | nil=>simp at h
 | cons y ws ih=>
  cases y with
  | w l' c=>
   simp only [ovr];cases hh:Loc.eqb l' l with
   | true=>rfl
   | false=>
    refine ih ?_;simp only [List.filterMap_cons,Wr.loc,qas]at h;rcases h with rfl | h
    . rw [zaO]at hh;cases hh
    . exact h
  | cut=>rfl
theorem zos{fs:FS}{bw:Ws}:ovr fs (bw.map fun p=>Wr.w (.b p.1) p.2)=upd fs bw:=by
 funext x
 induction bw with
 | nil=>rfl
 | cons p bw ih=>simp only [qaX,ovr,upd,ih]
def znx(lo:Nat->Prop)(h:Array Obj)(ok:Nat->Prop)(ds:List Deferred):Prop:=∃ Ds:List Nat,ds=Ds.map (fun D=>{ target:=.collected D,args:=#[] })/\Ds.Nodup/\∀ D∈Ds,h[D]?=some (.deferred (some []))/\ok D/\lo D
theorem znx.nil{lo:Nat->Prop}{h:Array Obj}{ok:Nat->Prop}:znx lo h ok []:=⟨[],rfl,qcq,fun _ h=>nomatch h⟩
theorem znx.mono{lo:Nat->Prop}{h h':Array Obj}{ok ok':Nat->Prop}{ds:List Deferred}(m:znx lo h ok ds)(hh:∀ c,ok c->c<h.size->ok' c/\h'[c]?=h[c]?):znx lo h' ok' ds:=by
 obtain ⟨Ds,h1,h2,h3⟩:=m;refine ⟨Ds,h1,h2,fun D hD=>?_⟩
 obtain ⟨k1,k2,k3⟩:=h3 D hD;obtain ⟨q1,q2⟩:=hh D k2 (qaL.1 k1).1;exact ⟨q2.trans k1,q1,k3⟩
structure St (cx:Cx) (nt:Nat) (fs:FS) (a:Act) (w:World) (N:Nat->Prop):Prop where
 size:a.tmps.size=nt
 ex:∃ env own,RW cx w env own N/\RB cx fs w env own/\RS cx fs a.tmps w env own/\znx cx.low w.heap (cx.ok own) a.defers
def zfK(a b:Cell):Prop:=b = .no\/a=b\/∃ x y,a = .av x/\b = .av y/\∀ h ok env v,AvR h ok env x v->AvR h ok env y v
def FsLe(f g:FS):Prop:=∀ l,zfK (f l) (g l)
theorem zfK.refl(a:Cell):zfK a a:=.inr (.inl rfl)
theorem zfK.trans{a b c:Cell}(h:zfK a b)(k:zfK b c):zfK a c:=by
 rcases k with rfl | rfl | ⟨x,y,rfl,rfl,hk⟩
 . exact .inl rfl
 . exact h
 . rcases h with h | rfl | ⟨x',y',rfl,h,hh⟩
   . cases h
   . exact .inr (.inr ⟨x,y,rfl,rfl,hk⟩)
   . cases h;exact .inr (.inr ⟨x',y,rfl,rfl,fun h ok env v q=>hk h ok env v (hh h ok env v q)⟩)
theorem FsLe.refl(f:FS):FsLe f f:=fun _=>.refl _
theorem FsLe.trans{f g h:FS}(a:FsLe f g)(b:FsLe g h):FsLe f h:=fun l=>(a l).trans (b l)
theorem zfK.cell{B:Nat->Prop}{h:Array Obj}{ok:Nat->Prop}{env:Nm}{own:Ow}{b:Nat}{c c':Cell}(hl:zfK c c')(hc:za9 B h ok env own b c):za9 B h ok env own b c':=by
 rcases hl with rfl | rfl | ⟨x,y,rfl,rfl,_⟩
 . trivial
 . exact hc
 . trivial
theorem zfK.slot{h:Array Obj}{ok:Nat->Prop}{env:Nm}{c c':Cell}{v:Value}(hl:zfK c c')(hc:zbQ h ok env c v):zbQ h ok env c' v:=by
 rcases hl with rfl | rfl | ⟨x,y,rfl,rfl,hk⟩
 . trivial
 . exact hc
 . exact hk _ _ _ _ hc
theorem St.le{cx:Cx}{nt:Nat}{f g:FS}{a:Act}{w:World}{N:Nat->Prop}(h:St cx nt f a w N)(hl:FsLe f g):St cx nt g a w N:=by
 obtain ⟨env,own,h1,h2,h3,h4⟩:=h.ex;exact ⟨h.size,env,own,h1,fun b=>(hl _).cell (h2 b),fun n=>(hl _).slot (h3 n),h4⟩
theorem St.mono{cx:Cx}{nt:Nat}{f:FS}{a:Act}{w:World}{N N':Nat->Prop}(h:St cx nt f a w N)(hl:∀ b,N b->N' b):St cx nt f a w N':=by
 obtain ⟨env,own,h1,h2,h3,h4⟩:=h.ex;exact ⟨h.size,env,own,h1.mono hl,h2,h3,h4⟩
def zqH(gs:List Nat)(ws W:List Wr):Prop:=(zp8 gs ws=none/\W=ws)\/∃ d c,ws=[.w (.s d) (.av (.v (.one (.imm .bool c))))]/\W=[.w (.s d) (.av (.v (.one (.kb c))))]
theorem zwK(d:Option Tmp)(r:Option AV×Ws):Wr.cut ∉ wrs d r:=by
 unfold wrs;rcases r with ⟨a,bw⟩
 cases d <;> cases a <;> simp
section
variable {fr:Option Nat} {m0:Nat} {P:Program} {te:TE} {tbl:Tbl} {cx:Cx} {nt nx:Nat} {fs:FS} {w:World} {N:Nat->Prop} {ops:Array Oper} {act:Act} {K:Act->World->Prop} {Q:Exit->Act->World->Prop}
theorem opT_cut{i:Nat}{ws:List Wr}(h:(opT te tbl ops nt nx i).evs fs=some ws):Wr.cut ∉ ws:=by
 unfold opT at h;split at h
 . simp [T.evs]at h
 . obtain ⟨_,_,h2⟩:=zaa.1 h;obtain ⟨b,_,h4⟩:=zaa.1 h2;cases b with
   | true=>
    obtain ⟨r,_,h6⟩:=zaa.1 h4;simp at h6;subst h6
    exact zwK _ _
   | false=>simp at h4;subst h4;exact zwK _ _
theorem zq8{d:Option Tmp}{r:Option AV×Ws}{b:Nat}:ovr fs (wrs d r) (.b b)=upd fs r.2 (.b b):=by
 unfold wrs;rw [zjs,zos];rcases r with ⟨a,bw⟩
 cases d <;> cases a <;> simp [ovr,Loc.eqb]
theorem zxo{d:Option Tmp}{r:Option AV×Ws}{n:Nat}:ovr fs (wrs d r) (.s n)=if d=some n then (match r.1 with
 | some a=>.av a
 | none=>.no) else fs (.s n):=by
 unfold wrs;rw [zjs,zos];rcases r with ⟨a,bw⟩
 cases d with
 | none=>simp [ovr,zuE]
 | some d=>
  by_cases hd:d=n
  . subst hd;cases a <;> simp [ovr,Loc.eqb]
  . have:Nat.beq d n=false:=by
     cases hh:Nat.beq d n with
     | false=>rfl
     | true=>exact absurd (qan hh) hd
    cases a <;> simp [ovr,Loc.eqb,this,zuE,hd]
theorem zpX(a:Act)(d:Option Tmp)(v:Value)(n:Nat)(hd:zx5 a.tmps.size d=true):(a.put d v).tmps.getD n undef=if d=some n then v else a.tmps.getD n undef:=by
 cases d with
 | none=>simp [Act.put]
 | some d=>
  have hlt:d<a.tmps.size:=by simpa [zx5] using hd
  by_cases hdn:d=n
  . subst hdn;simp [Act.put,hlt]
  . simp [Act.put,Array.getElem?_setIfInBounds_ne hdn,hdn]
theorem zpe(a:Act)(d:Option Tmp)(v:Value):(a.put d v).tmps.size=a.tmps.size:=by cases d <;> simp [Act.put]
theorem zjQ(a:Act)(d:Option Tmp)(v:Value):(a.put d v).defers=a.defers:=by cases d <;> simp [Act.put]
theorem zxq(ht:TEok P te)(hT:tbl.Sound P)(hS:St cx nt fs act w N){i:Nat}(hn:∀ b,nx+64*i<=b->b<nx+64*i+64->¬N b){ws W:List Wr}{gs:List Nat}(h:(opT te tbl ops nt nx i).evs fs=some ws)(hL:zqH gs ws W)
 (hK:∀ act' w',St cx nt (ovr fs W) act' w' (fun b=>N b\/(nx+64*i<=b/\b<nx+64*i+64))->K act' w'):wpOpIn (Fw fr) m0 P ops Q i K act w:=by
 obtain ⟨env,own,hw,hb,hs,hmk⟩:=hS.ex;unfold opT at h;unfold wpOpIn;split at h
 . simp [T.evs]at h
 . rename_i o ho;simp only [ho];obtain ⟨_,h1,h2⟩:=zaa.1 h;obtain ⟨b,h3,h4⟩:=zaa.1 h2;have hdst:=zah.1 h1;rw [<-hS.size]at hdst;have hwant:Region.wanted o (yielded ops act.tmps)=b:=by
    unfold zwP at h3;unfold Region.wanted;split at h3
    . rename_i hg;simp [T.evs]at h3;simp [hg,h3]
    . rename_i j want hg;simp only [hg];split at h3
      . simp [T.evs]at h3
      . rename_i d hd;obtain ⟨av,h5,h6⟩:=zaa.1 h3;have hav:=zuI hs h5;split at h6
        . rename_i b'
          simp at h6
          have hv:act.tmps.getD d undef = .bool b':=hav
          have hy:yielded ops act.tmps j=some b':=by
           unfold yielded;rw [hd];simp only [qaa];rw [qbh]at hv;cases hq:act.tmps[d]? with
           | none=>rw [hq]at hv;simp [undef]at hv
           | some u=>rw [hq]at hv;simp at hv;rw [hv]
          rw [hy,<-h6];cases b' <;> cases want <;> rfl
        . simp at h6
          obtain ⟨vs,hv,hl⟩:∃ vs,act.tmps.getD d undef = .tuple vs/\All2 _ [] vs.toList:=hav
          have hy:yielded ops act.tmps j=none:=by
           unfold yielded;rw [hd];simp only [qaa];rw [qbh]at hv;cases hq:act.tmps[d]? with
           | none=>rfl
           | some u=>rw [hq]at hv;simp at hv;rw [hv]
          rw [hy,h6];rfl
        . simp [T.evs]at h6
   have fin:∀ (r:Option AV×Ws) (v:Value) (w':World) (env':Nm) (own':Ow),ws=wrs o.dst r->Post cx fs w env own r.2 w' env' own' (fun b=>N b\/(nx+64*i<=b/\b<nx+64*i+64)) ->
    (∀ a,r.1=some a->AvR w'.heap (cx.ok own') env' a v)->K (act.put o.dst v) w':=by
    intro r v w' env' own' hws hp hv
    refine hK _ _ ⟨by rw [zpe];exact hS.size,env',own',hp.rw,fun b=>?_,fun n=>?_,by rw [zjQ];exact hmk.mono hp.ext.heap⟩
    . rcases hL with ⟨_,rfl⟩ | ⟨d,c,he,rfl⟩
      . rw [hws,zq8];exact hp.rb b
      . have h1:ovr fs ws (.b b)=upd fs r.2 (.b b):=by rw [hws,zq8]
        rw [he]at h1;simp only [ovr,Loc.eqb,qaf]at h1 ⊢;rw [h1];exact hp.rb b
    . rw [zpX _ _ _ _ hdst];have base:zbQ w'.heap (cx.ok own') env' (ovr fs ws (.s n)) (if o.dst=some n then v else act.tmps.getD n undef):=by
       rw [hws,zxo];by_cases hd:o.dst=some n
       . rw [if_pos hd,if_pos hd];cases hr:r.1 with
         | none=>trivial
         | some a=>exact hv a hr
       . rw [if_neg hd,if_neg hd];exact hp.ext.slot (hs n)
      rcases hL with ⟨_,rfl⟩ | ⟨d,c,he,rfl⟩
      . exact base
      . rw [he]at base;simp only [ovr]at base ⊢;cases hh:Loc.eqb (.s d) (.s n) with
        | false=>simpa [hh] using base
        | true=>
         simp only [hh,qah,zbQ,AvR,A1R,LfR,Fits,List.cons.injEq,qbn]at base ⊢;exact base
   cases b with
   | true=>
    simp only [hwant,if_true];obtain ⟨r,h5,h6⟩:=zaa.1 h4;simp at h6
    exact op_wp ht hT hw hb hs hn h5 fun v w' env' own' hp hr=>fin r v w' env' own' h6.symm hp fun a ha=>by rw [ha]at hr;exact hr
   | false=>
    simp at h4
    rw [hwant];simp only [qbm,qbj];refine ⟨fun _ _=>trivial,?_⟩
    exact fin (some (.tup []),[]) undef w env own h4.symm ((Post.refl hw hb).mono fun _ h=>.inl h) (by intro a ha;simp only [Option.some.injEq]at ha;subst ha;exact ⟨#[],rfl,trivial⟩)
def zlm(te:TE)(tbl:Tbl)(ops:Array Oper)(nt nx:Nat)(gs:List Nat):List (Nat×List Wr×List Loc)->FS->Prop
 | [],_=>True
 | (i,W,rds)::tr,fs=>(∃ ws,((opT te tbl ops nt nx i).run fs []).ev=some (ws,rds)/\zqH gs ws W)/\zlm te tbl ops nt nx gs tr (ovr fs W)
def zdl:List (Nat×List Wr×List Loc)->FS->FS
 | [],fs=>fs
 | (_,W,_)::tr,fs=>zdl tr (ovr fs W)
end
end Go.VI
namespace Go.VI
open Go Go.RowKit
section
variable {h:Array Obj} {ok:Nat->Prop} {env:Nm}
theorem cast_lf{t t':Ty}{b:t'.den}{b':t.den}(hc:Ty.cast t' t b=some b'){v:Value}(hf:LfR h ok env (.imm t' b) v):LfR h ok env (.imm t b') v:=LfR.imm_of_cast hc hf
theorem zrF{x y z:Lf}(hm:zhx true x y=some z){v:Value}(hf:LfR h ok env x v):LfR h ok env z v:=by
 unfold zhx at hm;split at hm <;> (try simp only [qah,Option.some.injEq,reduceCtorEq]at hm)
 . subst hm;simpa [LfR,Fits] using hf
 . subst hm;simpa [LfR,Fits] using hf
 . subst hm;simpa [LfR,Fits] using hf
 . subst hm;exact hf
 . rename_i t a t' b
   cases hc:Ty.cast t' t b with
   | none=>simp [hc]at hm
   | some b'=>simp [hc]at hm;subst hm;exact hf
 . subst hm;exact hf
 . subst hm;simp only [LfR]at hf;subst hf
   exact ⟨none,0,rfl,fun _=>rfl,by simp,by simp⟩
 . subst hm;exact hf
 . rename_i a b;cases hc:Nat.beq a b with
   | false=>simp [hc]at hm
   | true=>simp [hc]at hm;subst hm;exact hf
 . rename_i a o b o'
   cases hc:(Nat.beq a b&&Nat.beq o o') with
   | false=>simp [hc]at hm
   | true=>simp [hc]at hm;subst hm;exact hf
 . rename_i a b;cases hc:Nat.beq a b with
   | false=>simp [hc]at hm
   | true=>simp [hc]at hm;subst hm;exact hf
 . rename_i f a b g a' b'
   cases hc:(Nat.beq f g&&Cps.same a a'&&Cps.same b b') with
   | false=>simp [hc]at hm
   | true=>simp [hc]at hm;subst hm;exact hf
theorem Cps.same_eq:∀ {as bs:List Cp},Cps.same as bs=true->as=bs
 | [],[],_=>rfl
 | .ptr _ _::as,.ptr _ _::bs,h=>by
  simp only [Cps.same,Cp.same,qae]at h;rw [qan h.1.1,qan h.1.2,Cps.same_eq h.2]
 | .ptr _ _::_,.imm _ _::_,h=>by simp [Cps.same,Cp.same]at h
 | .imm _ _::_,.ptr _ _::_,h=>by simp [Cps.same,Cp.same]at h
 | .imm _ _::_,.imm _ _::_,h=>by simp [Cps.same,Cp.same]at h
 | [],_::_,h=>by simp [Cps.same]at h
 | _::_,[],h=>by simp [Cps.same]at h
theorem zrG{x y z:Lf}(hm:zhx false x y=some z){v:Value}(hf:LfR h ok env y v):LfR h ok env z v:=by
 unfold zhx at hm;split at hm <;> (try simp only [qaf,Option.some.injEq,reduceCtorEq]at hm)
 . subst hm;simpa [LfR,Fits] using hf
 . subst hm;simpa [LfR,Fits] using hf
 . subst hm;exact hf
 . subst hm;simpa [LfR,Fits] using hf
 . rename_i t a t' b
   cases hc:Ty.cast t' t b with
   | none=>simp [hc]at hm
   | some b'=>simp [hc]at hm;subst hm;exact cast_lf hc hf
 . subst hm;exact hf
 . subst hm;exact hf
 . subst hm;simp only [LfR]at hf;subst hf
   exact ⟨none,0,rfl,fun _=>rfl,by simp,by simp⟩
 . rename_i a b;cases hc:Nat.beq a b with
   | false=>simp [hc]at hm
   | true=>simp [hc]at hm;subst hm;rw [qan hc];exact hf
 . rename_i a o b o'
   cases hc:(Nat.beq a b&&Nat.beq o o') with
   | false=>simp [hc]at hm
   | true=>
    simp only [hc,qah,Option.some.injEq]at hm;subst hm
    simp only [qae]at hc;rw [qan hc.1,qan hc.2];exact hf
 . rename_i a b;cases hc:Nat.beq a b with
   | false=>simp [hc]at hm
   | true=>simp [hc]at hm;subst hm;rw [qan hc];exact hf
 . rename_i f a b g a' b'
   cases hc:(Nat.beq f g&&Cps.same a a'&&Cps.same b b') with
   | false=>simp [hc]at hm
   | true=>
    simp only [hc,qah,Option.some.injEq]at hm;subst hm
    simp only [qae]at hc;rw [qan hc.1.1,Cps.same_eq hc.1.2,Cps.same_eq hc.2];exact hf
theorem zrD:∀ {xs ys zs:List Lf} {cs:List Value},zcX true xs ys=some zs->All2 (LfR h ok env) xs cs->All2 (LfR h ok env) zs cs
 | [],[],zs,cs,hm,hf=>by simp [zcX]at hm;subst hm;exact hf
 | x::xs,y::ys,zs,cs,hm,hf=>by
  simp only [zcX]at hm;split at hm
  . rename_i z zs' h1 h2
    simp at hm;subst hm
    cases cs with
    | nil=>exact hf.elim
    | cons c cs=>exact ⟨zrF h1 hf.1,zrD h2 hf.2⟩
  . cases hm
 | [],_::_,_,_,hm,_=>by simp [zcX]at hm
 | _::_,[],_,_,hm,_=>by simp [zcX]at hm
theorem zrE:∀ {xs ys zs:List Lf} {cs:List Value},zcX false xs ys=some zs->All2 (LfR h ok env) ys cs->All2 (LfR h ok env) zs cs
 | [],[],zs,cs,hm,hf=>by simp [zcX]at hm;subst hm;exact hf
 | x::xs,y::ys,zs,cs,hm,hf=>by
  simp only [zcX]at hm;split at hm
  . rename_i z zs' h1 h2
    simp at hm;subst hm
    cases cs with
    | nil=>exact hf.elim
    | cons c cs=>exact ⟨zrG h1 hf.1,zrE h2 hf.2⟩
  . cases hm
 | [],_::_,_,_,hm,_=>by simp [zcX]at hm
 | _::_,[],_,_,hm,_=>by simp [zcX]at hm
end
theorem zxI(c:Bool)(A B:Cell):zfK (cond c A B) (zxJ c A B):=by
 unfold zxJ;split
 . rename_i x y;cases hm:zhx c x y with
   | none=>exact .inl rfl
   | some z=>
    cases c with
    | true=>exact .inr (.inr ⟨_,_,rfl,rfl,fun h ok env v hf=>zrF hm hf⟩)
    | false=>exact .inr (.inr ⟨_,_,rfl,rfl,fun h ok env v hf=>zrG hm hf⟩)
 . rename_i xs ys;cases hm:zcX c xs ys with
   | none=>exact .inl rfl
   | some zs=>
    cases c with
    | true=>exact .inr (.inr ⟨_,_,rfl,rfl,fun h ok env v ⟨cs,h1,h2⟩=>⟨cs,h1,zrD hm h2⟩⟩)
    | false=>exact .inr (.inr ⟨_,_,rfl,rfl,fun h ok env v ⟨cs,h1,h2⟩=>⟨cs,h1,zrE hm h2⟩⟩)
 . exact .inl rfl
theorem zjm{fs:FS}:∀ {a:List Wr} {ns:List Nat},zdK a=some ns->(∀ b,ovr fs a (.b b)=fs (.b b))/\∀ n,n ∉ ns->ovr fs a (.s n)=fs (.s n)
 | [],ns,h=>by simp [zdK]at h;subst h;exact ⟨fun _=>rfl,fun _ _=>rfl⟩
 | .w (.s n) c::r,ns,h=>by
  simp only [zdK]at h;cases hr:zdK r with
  | none=>simp [hr]at h
  | some ms=>
   simp [hr]at h;subst h
   have ih:=zjm (fs:=fs) hr
   refine ⟨fun b=>by simp only [ovr,Loc.eqb,qaf];exact ih.1 b,fun k hk=>?_⟩
   simp only [qas,not_or]at hk;simp only [ovr,zbh (show Loc.s n≠Loc.s k from fun e=>by cases e;exact hk.1 rfl),qaf]
   exact ih.2 k hk.2
 | .w (.b _) _::r,ns,h=>by simp [zdK]at h
 | .cut::r,ns,h=>by simp [zdK]at h
theorem zir:∀ {l:List Nat} {n:Nat},n∈zp7 l↔n∈l
 | [],n=>by simp [zp7]
 | m::r,n=>by
  simp only [zp7];cases hh:(zp7 r).any (Nat.beq m) with
  | true=>
   simp only [qah,zir,qas];constructor
   . exact .inr
   . rintro (rfl | h)
     . rw [qcb]at hh;obtain ⟨x,hx,he⟩:=hh;have:=qan he
       subst this;exact zir.1 hx
     . exact h
  | false=>simp only [qaf,qas,zir]
theorem zxp{fs:FS}{f:Nat->Cell}:∀ {l:List Nat} {n:Nat},ovr fs (l.map fun n=>Wr.w (.s n) (f n)) (.s n)=if n∈l then f n else fs (.s n)
 | [],n=>by simp [ovr]
 | m::l,n=>by
  simp only [qaX,ovr];by_cases hmn:m=n
  . subst hmn;simp [Loc.eqb]
  . rw [zbh (show Loc.s m≠Loc.s n from fun e=>by cases e;exact hmn rfl),qaf,zxp]
    simp [Ne.symm hmn]
theorem zq9{fs:FS}{f:Nat->Cell}:∀ {l:List Nat} {n:Nat},ovr fs (l.map fun n=>Wr.w (.s n) (f n)) (.b n)=fs (.b n)
 | [],n=>rfl
 | m::l,n=>by simp only [qaX,ovr,Loc.eqb,qaf];exact zq9
theorem zrC{c:Bool}{st a b m:List Wr}(h:zow c st a b=some m):FsLe (ovr (look st) (cond c a b)) (ovr (look st) m):=by
 unfold zow at h;cases ha:zdK a with
 | none=>simp [ha]at h
 | some ka=>
  cases hb:zdK b with
  | none=>simp [ha,hb]at h
  | some kb=>
   simp [ha,hb]at h;subst h
   have ia:=zjm (fs:=look st) ha
   have ib:=zjm (fs:=look st) hb
   intro l;cases l with
   | b n=>
    rw [zq9];cases c with
    | true=>rw [qah,ia.1];exact .refl _
    | false=>rw [qaf,ib.1];exact .refl _
   | s n=>
    rw [zxp];by_cases hn:n∈zp7 (ka++kb)
    . rw [if_pos hn,zaH,zaH];have:=zxI c (ovr (look st) a (.s n)) (ovr (look st) b (.s n))
      cases c <;> exact this
    . rw [if_neg hn];rw [zir]at hn;simp only [qak,not_or]at hn;cases c with
      | true=>rw [qah,ia.2 n hn.1];exact .refl _
      | false=>rw [qaf,ib.2 n hn.2];exact .refl _
theorem zsb{c:Bool}{st a:List Wr}{e:Tree (List Wr)}{w:List Wr}(h:(Tree.br c (.leaf a) e).ev=some w):
 (c=true/\FsLe (ovr (look st) a) (ovr (look st) w))\/(c=false/\∃ w',e.ev=some w'/\FsLe (ovr (look st) w') (ovr (look st) w)):=by
 cases c with
 | true=>simp [Tree.ev]at h;subst h;exact .inl ⟨rfl,.refl _⟩
 | false=>simp [Tree.ev]at h;exact .inr ⟨rfl,w,h,.refl _⟩
theorem phiR_ok{c:Bool}{st a:List Wr}:∀ {e:Tree (List Wr)} {w:List Wr},(phiR c st a e).ev=some w->(c=true/\FsLe (ovr (look st) a) (ovr (look st) w))\/(c=false/\∃ w',e.ev=some w'/\FsLe (ovr (look st) w') (ovr (look st) w)):=by
 intro e;induction e with
 | leaf b=>
  intro w h;simp only [phiR]at h;cases hm:zow c st a b with
  | none=>rw [hm]at h;exact zsb h
  | some m=>
   rw [hm]at h;simp [Tree.ev]at h;subst h
   have:=zrC hm
   cases c with
   | true=>exact .inl ⟨rfl,this⟩
   | false=>exact .inr ⟨rfl,b,rfl,this⟩
 | need p e ih=>
  intro w h;simp only [phiR,Tree.ev]at h;cases c with
  | true=>exact .inl ⟨rfl,(ih h).elim (·.2) fun h=>by cases h.1⟩
  | false=>
   cases p with
   | true=>simpa [Tree.ev] using ih (by simpa using h)
   | false=>simp at h
 | bad=>intro w h;exact zsb h
 | br _ _ _ _ _=>intro w h;exact zsb h
 | bnd _ _ _=>intro w h;exact zsb h
 | sum _ _ _ _ _=>intro w h;exact zsb h
theorem phi_ok{c:Bool}{st:List Wr}{e:Tree (List Wr)}:∀ {t:Tree (List Wr)} {w:List Wr},(phi c st e t).ev=some w->∃ w',(cond c t e).ev=some w'/\FsLe (ovr (look st) w') (ovr (look st) w):=by
 intro t;induction t with
 | leaf a=>
  intro w h;rcases phiR_ok h with ⟨rfl,hl⟩ | ⟨rfl,w',h1,h2⟩
  . exact ⟨a,rfl,hl⟩
  . exact ⟨w',h1,h2⟩
 | need p t ih=>
  intro w h;simp only [phi,Tree.ev]at h;cases c with
  | true=>
   cases p with
   | true=>simpa [Tree.ev] using ih (by simpa using h)
   | false=>simp at h
  | false=>exact ih h
 | bad=>
  intro w h;cases c with
  | true=>simp [phi,Tree.ev]at h
  | false=>exact ⟨w,h,.refl _⟩
 | br _ _ _ _ _=>intro w h;cases c <;> exact ⟨w,by simpa [phi,Tree.ev] using h,.refl _⟩
 | bnd _ _ _=>intro w h;cases c <;> exact ⟨w,by simpa [phi,Tree.ev] using h,.refl _⟩
 | sum _ _ _ _ _=>intro w h;cases c <;> exact ⟨w,by simpa [phi,Tree.ev] using h,.refl _⟩
end Go.VI
namespace Go.VI
open Go Go.RowKit
abbrev Tr:=List (Nat×List Wr×List Loc)
def zfQ(t:Nat×List Wr×List Loc):Log:=(t.1,t.2.2,t.2.1.filterMap Wr.loc)
section
variable {fr:Option Nat} {m0:Nat} {P:Program} {te:TE} {tbl:Tbl} {cx:Cx} {nt nx:Nat} {N:Nat->Prop} {ops:Array Oper} {gs:List Nat} {Q:Exit->Act->World->Prop}
theorem zh2{ms:Option (List Nat)}:∀ {l:List Nat} {st:List Wr} {lg:List Log} {w:List Wr},(za4 te tbl ops nt nx gs ms l st lg).ev=some w ->
 ∃ tr:Tr,tr.map (·.1)=l/\zlm te tbl ops nt nx gs tr (look st)/\FsLe (zdl tr (look st)) (ovr (look st) w)/\∀ m,ms=some m->zf7 m ((tr.map zfQ).reverse++lg)=true
 | [],st,lg,w,h=>by
  simp only [za4]at h;cases ms with
  | none=>simp [Tree.ev]at h;subst h;exact ⟨[],rfl,trivial,.refl _,by simp⟩
  | some m=>
   simp only at h
   cases ho:zf7 m lg with
   | false=>simp [ho,Tree.ev]at h
   | true=>simp [ho,Tree.ev]at h;subst h;exact ⟨[],rfl,trivial,.refl _,fun m' hm=>by cases hm;exact ho⟩
 | i::rest,st,lg,w,h=>by
  simp only [za4,Tree.ev_bind]at h;cases hr:((opT te tbl ops nt nx i).run (look st) []).ev with
  | none=>simp [hr]at h
  | some r=>
   obtain ⟨ws,rds⟩:=r;simp only [hr,qaa]at h;have step:∀ {W:List Wr} {w':List Wr},((za4 te tbl ops nt nx gs ms rest (W++st) ((i,rds,W.filterMap Wr.loc)::lg)).bind fun w=>.leaf (w++W)).ev=some w'->zqH gs ws W->FsLe (ovr (look st) w') (ovr (look st) w) ->
    ∃ tr:Tr,tr.map (·.1)=i::rest/\zlm te tbl ops nt nx gs tr (look st)/\FsLe (zdl tr (look st)) (ovr (look st) w)/\∀ m,ms=some m->zf7 m ((tr.map zfQ).reverse++lg)=true:=by
    intro W w' h1 hL hle
    rw [Tree.ev_bind]at h1;cases hq:(za4 te tbl ops nt nx gs ms rest (W++st) ((i,rds,W.filterMap Wr.loc)::lg)).ev with
    | none=>simp [hq]at h1
    | some w2=>
     simp [hq,Tree.ev]at h1;subst h1
     obtain ⟨tr,t1,t2,t3,t4⟩:=zh2 hq;rw [zaH]at t2 t3;refine ⟨(i,W,rds)::tr,by simp [t1],⟨⟨ws,hr,hL⟩,t2⟩,FsLe.trans ?_ hle,fun m hm=>?_⟩
     . rw [zjs];exact t3
     . have:=t4 m hm
       simpa [zfQ] using this
   split at h
   . rename_i d c hd;obtain ⟨w',h1,h2⟩:=phi_ok h;have hws:ws=[.w (.s d) (.av (.v (.one (.imm .bool c))))]:=by
      unfold zp8 at hd;split at hd
      . rename_i d' c'
        cases hg:gs.any (Nat.beq d') with
        | false=>simp [hg]at hd
        | true=>simp [hg]at hd;rw [hd.1,hd.2]
      . cases hd
     have h1':((za4 te tbl ops nt nx gs ms rest ([.w (.s d) (.av (.v (.one (.kb c))))]++st) ((i,rds,[Wr.w (.s d) (.av (.v (.one (.kb c))))].filterMap Wr.loc)::lg)).bind fun w=>.leaf (w++[.w (.s d) (.av (.v (.one (.kb c))))])).ev=some w':=by
      cases c <;> exact h1
     exact step h1' (.inr ⟨d,c,hws,rfl⟩) h2
   . rename_i hd;exact step h (.inl ⟨hd,rfl⟩) (.refl _)
theorem zlm.cut:∀ {tr:Tr} {fs:FS},zlm te tbl ops nt nx gs tr fs->∀ t∈tr,Wr.cut ∉ t.2.1
 | [],_,_=>by simp
 | (i,W,rds)::tr,fs,h=>by
  obtain ⟨⟨ws,h1,hL⟩,h2⟩:=h;intro t ht;rcases qas.1 ht with rfl | ht
  . have:=opT_cut (T.run_evs h1)
    rcases hL with ⟨_,rfl⟩ | ⟨d,c,rfl,rfl⟩
    . exact this
    . simp
  . exact h2.cut t ht
theorem zpb(ht:TEok P te)(hT:tbl.Sound P){rest:List Nat}:∀ {tr:Tr} {fs:FS} {act:Act} {w:World} {N:Nat->Prop},zlm te tbl ops nt nx gs tr fs->St cx nt fs act w N->(tr.map (·.1)).Nodup->(∀ t∈tr,∀ b,nx+64*t.1<=b->b<nx+64*t.1+64->¬N b) ->
 (∀ act' w',St cx nt (zdl tr fs) act' w' (fun b=>N b\/∃ t∈tr,nx+64*t.1<=b/\b<nx+64*t.1+64)->wpOpsIn (Fw fr) m0 P ops Q rest act' w')->wpOpsIn (Fw fr) m0 P ops Q (tr.map (·.1)++rest) act w
 | [],fs,act,w,N,_,hS,_,_,hQ=>by
  simp only [List.map_nil,qaS];exact hQ act w (hS.mono fun b h=>.inl h)
 | (i,W,rds)::tr,fs,act,w,N,hC,hS,hnd,hn,hQ=>by
  obtain ⟨⟨ws,h1,hL⟩,h2⟩:=hC;simp only [qaX,qaM];rw [wpOpsIn_cons];refine zxq ht hT hS (hn (i,W,rds) (by simp)) (T.run_evs h1) hL fun act' w' hS'=>?_
  simp only [qaX,qbD]at hnd;refine zpb ht hT h2 hS' hnd.2 (fun t ht b hb1 hb2=>?_) fun a2 w2 h=>hQ a2 w2 (h.mono fun b hb=>?_)
  . rintro (h | ⟨h3,h4⟩)
    . exact hn t (by simp [ht]) b hb1 hb2 h
    . have hne:t.1≠i:=fun he=>hnd.1 (qav.2 ⟨t,ht,he⟩)
      omega
  . rcases hb with (hb | hb) | ⟨t,ht,hb⟩
    . exact .inl hb
    . exact .inr ⟨(i,W,rds),by simp,hb⟩
    . exact .inr ⟨t,by simp [ht],hb⟩
theorem text_wp(ht:TEok P te)(hT:tbl.Sound P){tr:Tr}{fs:FS}{act:Act}{w:World}{N:Nat->Prop}(hC:zlm te tbl ops nt nx gs tr fs)(hS:St cx nt fs act w N)(hnd:(tr.map (·.1)).Nodup)(hn:∀ t∈tr,∀ b,nx+64*t.1<=b->b<nx+64*t.1+64->¬N b)
 (hQ:∀ act' w',St cx nt (zdl tr fs) act' w' (fun b=>N b\/∃ t∈tr,nx+64*t.1<=b/\b<nx+64*t.1+64)->Q .normal act' w'):wpOpsIn (Fw fr) m0 P ops Q (tr.map (·.1)) act w:=by
 have:=zpb (rest:=[]) (Q:=Q) (fr:=fr) (m0:=m0) ht hT hC hS hnd hn fun a w h=>by simp only [wpOpsIn];exact hQ a w h
 rwa [qaW]at this
def za8(D:Nat->Bool):Tr->FS->FS
 | [],fs=>fs
 | (i,W,_)::tr,fs=>za8 D tr (cond (D i) (ovr fs W) fs)
theorem zoR{D:Nat->Bool}:∀ {tr:Tr} {fs:FS},(∀ t∈tr,D t.1=true)->za8 D tr fs=zdl tr fs
 | [],_,_=>rfl
 | (i,W,rds)::tr,fs,h=>by
  simp only [za8,zdl,h (i,W,rds) (by simp),qah]
  exact zoR fun t ht=>h t (by simp [ht])
theorem zmN{D:Nat->Bool}:∀ {tr:Tr} {fs:FS},(∀ t∈tr,D t.1=false)->za8 D tr fs=fs
 | [],_,_=>rfl
 | (i,W,rds)::tr,fs,h=>by
  simp only [za8,h (i,W,rds) (by simp),qaf]
  exact zmN fun t ht=>h t (by simp [ht])
theorem zmO{D:Nat->Bool}{l:Loc}:∀ {tr:Tr} {fs fs':FS},(∀ t∈tr,Wr.cut ∉ t.2.1)->(∀ t∈tr,D t.1=true->l ∉ t.2.1.filterMap Wr.loc)->fs l=fs' l->za8 D tr fs l=fs' l
 | [],_,_,_,_,h=>h
 | (i,W,rds)::tr,fs,fs',hc,h,he=>by
  simp only [za8];refine zmO (fun t ht=>hc t (by simp [ht])) (fun t ht=>h t (by simp [ht])) ?_
  cases hD:D i with
  | false=>exact he
  | true=>rw [qah,zff (h (i,W,rds) (by simp) hD) (hc (i,W,rds) (by simp))];exact he
theorem zoQ{D:Nat->Bool}{l:Loc}:∀ {tr:Tr} {fs fs':FS},(∀ t∈tr,Wr.cut ∉ t.2.1)->(∀ t∈tr,l∈t.2.1.filterMap Wr.loc->D t.1=true)->fs l=fs' l->za8 D tr fs l=zdl tr fs' l
 | [],_,_,_,_,h=>h
 | (i,W,rds)::tr,fs,fs',hc,h,he=>by
  simp only [za8,zdl];refine zoQ (fun t ht=>hc t (by simp [ht])) (fun t ht=>h t (by simp [ht])) ?_
  by_cases hm:l∈W.filterMap Wr.loc
  . rw [h (i,W,rds) (by simp) hm,qah];exact zs5 hm
  . rw [zff hm (hc (i,W,rds) (by simp))]
    cases D i with
    | false=>exact he
    | true=>rw [qah,zff hm (hc (i,W,rds) (by simp))];exact he
theorem zfl{D:Nat->Bool}:∀ {a b:Tr} {fs:FS},za8 D (a++b) fs=za8 D b (za8 D a fs)
 | [],_,_=>rfl
 | (i,W,rds)::a,b,fs=>by simp only [qaM,za8];exact zfl
theorem zgm{D D':Nat->Bool}:∀ {a:Tr} {fs:FS},(∀ t∈a,D t.1=D' t.1)->za8 D a fs=za8 D' a fs
 | [],_,_=>rfl
 | (i,W,rds)::a,fs,h=>by simp only [za8,h (i,W,rds) (by simp)];exact zgm fun t ht=>h t (by simp [ht])
theorem zlm.split:∀ {a:Tr} {t:Nat×List Wr×List Loc} {b:Tr} {fs:FS},zlm te tbl ops nt nx gs (a++t::b) fs->∃ ws,((opT te tbl ops nt nx t.1).run (zdl a fs) []).ev=some (ws,t.2.2)/\zqH gs ws t.2.1
 | [],(i,W,rds),b,fs,h=>h.1
 | (i,W,rds)::a,t,b,fs,h=>zlm.split (a:=a) h.2
theorem zl9{ms:List Nat}:∀ {l:List Log},zf7 ms l=true->∀ (a b c:List Log) (y x:Log),l=a++y::(b++x::c)->zr9 x y=true->(ms.getD y.1 0).testBit x.1=true
 | [],_,a,b,c,y,x,he,_=>by simp at he
 | z::l,h,a,b,c,y,x,he,hc=>by
  simp only [zf7,qae]at h;cases a with
  | nil=>
   simp only [qaS,List.cons.injEq]at he;obtain ⟨rfl,rfl⟩:=he;have:=(qaN.1 h.1) x (by simp)
   simpa [hc] using this
  | cons a0 a=>
   simp only [qaM,List.cons.injEq]at he;exact zl9 h.2 a b c y x he.2 hc
end
end Go.VI
namespace Go.VI
open Go Go.RowKit
theorem zgl:∀ {l:List Oper} {i:Nat},zjP l i=true->∀ (j:Nat) o,l[j]?=some o->∀ e∈o.after,Region.binds .any e=true->e.on<i+j
 | [],i,_,j,o,h=>by simp at h
 | x::l,i,h,j,o,ho=>by
  simp only [zjP,qae]at h;cases j with
  | zero=>
   simp at ho;subst ho
   intro e he hb;have:=(qaN.1 h.1) e (by simpa using he)
   simpa [hb] using this
  | succ j=>
   intro e he hb;have:=zgl h.2 j o (by simpa using ho) e he hb
   omega
def zrH(o:Oper)(acc:List Nat):Nat:=o.after.toList.foldl (fun s e=>cond (Region.binds .any e) (s ||| 2 ^ e.on ||| acc.getD e.on 0) s) 0
theorem zrY{acc:List Nat}{i:Nat}:∀ {l:List Edge} {s:Nat},(l.foldl (fun s e=>cond (Region.binds .any e) (s ||| 2 ^ e.on ||| acc.getD e.on 0) s) s).testBit i=true ->
 s.testBit i=true\/∃ e∈l,Region.binds .any e=true/\(e.on=i\/(acc.getD e.on 0).testBit i=true)
 | [],s,h=>.inl h
 | e::l,s,h=>by
  simp only [qb8]at h;rcases zrY h with h | ⟨e',he',h'⟩
  . cases hb:Region.binds .any e with
    | false=>simp [hb]at h;exact .inl h
    | true=>
     simp only [hb,qah,Nat.testBit_or,qaZ,Nat.testBit_two_pow,qab]at h;rcases h with (h | h) | h
     . exact .inl h
     . exact .inr ⟨e,by simp,hb,.inl h⟩
     . exact .inr ⟨e,by simp,hb,.inr h⟩
  . exact .inr ⟨e',by simp [he'],h'⟩
theorem zox:∀ {l:List Oper} {acc:List Nat},(∃ r,zk2 l acc=acc++r)/\∀ (j:Nat) o,l[j]?=some o->∃ acc',(∃ r,zk2 l acc=acc'++r)/\acc'.length=acc.length+j/\(zk2 l acc).getD (acc.length+j) 0=zrH o acc'
 | [],acc=>⟨⟨[],by simp [zk2]⟩,fun j o h=>by simp at h⟩
 | x::l,acc=>by
  obtain ⟨⟨r,h1⟩,h2⟩:=zox (l:=l) (acc:=acc++[zrH x acc])
  have h0:zk2 (x::l) acc=zk2 l (acc++[zrH x acc]):=rfl
  refine ⟨⟨zrH x acc::r,by rw [h0,h1];simp⟩,fun j o ho=>?_⟩
  cases j with
  | zero=>
   simp at ho;subst ho
   refine ⟨acc,⟨zrH x acc::r,by rw [h0,h1];simp⟩,by simp,?_⟩
   rw [h0,h1];simp [List.getD,List.getElem?_append]
  | succ j=>
   obtain ⟨acc',h3,h4,h5⟩:=h2 j o (by simpa using ho)
   refine ⟨acc',by rw [h0];exact h3,by simp at h4;omega,?_⟩
   rw [h0];simp only [qaD,qaJ,qbM,qaH]at h5;rw [show acc.length+(j+1)=acc.length+1+j by omega]
   exact h5
theorem zkz{D:Nat->Bool}{l:Loc}:∀ {tr:Tr} {f g:FS},(∀ t∈tr,Wr.cut ∉ t.2.1)->f l=g l->za8 D tr f l=za8 D tr g l
 | [],_,_,_,h=>h
 | (i,W,rds)::tr,f,g,hc,h=>by
  simp only [za8];refine zkz (fun t ht=>hc t (by simp [ht])) ?_
  cases D i with
  | false=>exact h
  | true=>
   simp only [qah];by_cases hm:l∈W.filterMap Wr.loc
   . exact zs5 hm
   . rw [zff hm (hc (i,W,rds) (by simp)),zff hm (hc (i,W,rds) (by simp))];exact h
theorem ztG{a b:List Loc}{l:Loc}(ha:l∈a)(hb:l∈b):hits a b=true :=
 qcb.2 ⟨l,ha,qcb.2 ⟨l,hb,zaO l⟩⟩
theorem zuF:∀ {tr:Tr} {s n k:Nat},tr.map (·.1)=List.range' s n->k<n->∃ a t b,tr=a++t::b/\t.1=s+k/\(∀ x∈a,x.1<s+k)/\∀ x∈b,s+k<x.1
 | [],s,n,k,h,hk=>by cases n <;> simp [List.range']at h hk
 | t::tr,s,0,k,h,hk=>by omega
 | t::tr,s,n+1,k,h,hk=>by
  simp only [qaX,qcs,List.cons.injEq]at h;cases k with
  | zero=>
   refine ⟨[],t,tr,rfl,by simp [h.1],by simp,fun x hx=>?_⟩
   have:x.1∈tr.map (·.1):=qav.2 ⟨x,hx,rfl⟩
   rw [h.2]at this;have:=(qb1.1 this).1
   omega
  | succ k=>
   obtain ⟨a,u,b,h1,h2,h3,h4⟩:=zuF (k:=k) h.2 (by omega)
   refine ⟨t::a,u,b,by simp [h1],by omega,fun x hx=>?_,fun x hx=>?_⟩
   . rcases qas.1 hx with rfl | hx
     . omega
     . have:=h3 x hx;omega
   . have:=h4 x hx;omega
theorem zpv:∀ {n:Nat} {S:List Nat},S.Nodup->(∀ i∈S,i<n)->S.length<=n
 | 0,S,_,h=>by
  cases S with
  | nil=>simp
  | cons x S=>have:=h x (by simp);omega
 | n+1,S,hnd,h=>by
  by_cases hm:n∈S
  . have:=zpv (n:=n) (S:=S.erase n) (hnd.erase n) fun i hi=>by
     have h1:=h i (List.mem_of_mem_erase hi);have h2:i≠n:=fun he=>by subst he;exact hnd.not_mem_erase hi
     omega
    rw [List.length_erase_of_mem hm]at this;omega
  . have:=zpv (n:=n) hnd fun i hi=>by
     have h1:=h i hi;have h2:i≠n:=fun he=>hm (he ▸ hi)
     omega
    omega
section
variable {fr:Option Nat} {m0:Nat} {P:Program} {te:TE} {tbl:Tbl} {cx:Cx} {nt nx:Nat} {N:Nat->Prop} {ops:Array Oper} {gs:List Nat} {Q:Exit->Act->World->Prop}
theorem any_wp(ht:TEok P te)(hT:tbl.Sound P){tr:Tr}{fs:FS}(hC:zlm te tbl ops nt nx gs tr fs)(hix:tr.map (·.1)=List.range ops.size)(hord:zf7 (zk2 ops.toList []) (tr.map zfQ).reverse=true)(hed:zjP ops.toList 0=true)
 (hN:∀ b,N b->b<nx) (hQ:∀ act' w',St cx nt (zdl tr fs) act' w' (fun b=>N b\/(nx<=b/\b<nx+64*ops.size))->Q .normal act' w') :
 ∀ (fuel:Nat) (listed:Array Bool) (act:Act) (w:World),listed.size=ops.size->(∀ (j:Nat) o,ops[j]?=some o->listed.getD j false=true->∀ e∈o.after,Region.binds .any e=true->listed.getD e.on false=true) ->
  (∀ S:List Nat,S.Nodup->(∀ i∈S,i<ops.size/\listed.getD i false=false)->S.length<=fuel) ->
  St cx nt (za8 (fun i=>listed.getD i false) tr fs) act w (fun b=>N b\/∃ i,listed.getD i false=true/\nx+64*i<=b/\b<nx+64*i+64)->wpAnyIn (Fw fr) m0 P .any ops Q fuel listed act w:=by
 have hcut:=hC.cut;have hlen:tr.length=ops.size:=by have:=congrArg List.length hix;simpa using this
 rw [List.range_eq_range']at hix;have hlt:∀ t∈tr,t.1<ops.size:=fun t ht=>by
  have:t.1∈tr.map (·.1):=qav.2 ⟨t,ht,rfl⟩
  rw [hix]at this;have:=(qb1.1 this).2
  omega
 have ord:∀ p x q y r,tr=p++x::(q++y::r)->zr9 (zfQ x) (zfQ y)=true->((zk2 ops.toList []).getD y.1 0).testBit x.1=true:=by
  intro p x q y r he hc;refine zl9 hord (r.map zfQ).reverse (q.map zfQ).reverse (p.map zfQ).reverse (zfQ y) (zfQ x) ?_ hc;rw [he];simp
 have reach:∀ (listed:Array Bool),(∀ (j:Nat) o,ops[j]?=some o->listed.getD j false=true->∀ e∈o.after,Region.binds .any e=true->listed.getD e.on false=true) ->
  ∀ k o,ops[k]?=some o->(∀ e∈o.after,Region.binds .any e=true->listed.getD e.on false=true)->∀ i,((zk2 ops.toList []).getD k 0).testBit i=true->listed.getD i false=true:=by
  intro listed hDC k;induction k using Nat.strongRecOn with
  | _ k ih=>
   intro o ho hpre i hi;obtain ⟨acc',⟨r,h1⟩,h2,h3⟩:=(zox (l:=ops.toList) (acc:=[])).2 k o (by simpa using ho)
   simp only [qbM,qaH]at h2 h3;rw [h3]at hi;rcases zrY hi with h | ⟨e,he,hb,h⟩
   . simp at h
   . have he':e∈o.after:=by simpa using he
     have hlt:=zgl hed k o (by simpa using ho) e he' hb
     rw [qaH]at hlt;have hD:=hpre e he' hb;rcases h with rfl | h
     . exact hD
     . have hoe:∃ o',ops[e.on]?=some o':=by
        have:k<ops.size:=(qaL.1 ho).1
        exact ⟨_,qby (by omega)⟩
       obtain ⟨o',ho'⟩:=hoe;refine ih e.on hlt o' ho' (hDC _ _ ho' hD) i ?_;have:(zk2 ops.toList []).getD e.on 0=acc'.getD e.on 0:=by
        rw [h1];simp [List.getD,qbL (show e.on<acc'.length by omega)]
       rw [this];exact h
 intro fuel;have allDone:∀ (listed:Array Bool) (act:Act) (w:World),listed.size=ops.size->Region.ready .any ops listed=[]->St cx nt (za8 (fun i=>listed.getD i false) tr fs) act w (fun b=>N b\/∃ i,listed.getD i false=true/\nx+64*i<=b/\b<nx+64*i+64)->Q .normal act w:=by
  intro listed act w hsz hr hS;have all:∀ j,j<ops.size->listed.getD j false=true:=by
   intro j;induction j using Nat.strongRecOn with
   | _ j ih=>
    intro hj;cases hD:listed.getD j false with
    | true=>rfl
    | false=>
     have:j∈Region.ready .any ops listed:=by
      rw [mem_ready];refine ⟨?_,ops[j],qby hj,fun e he hb=>?_⟩
      . rw [qbh,qby (by omega)]at hD ⊢
        exact hD
      . have:=zgl hed j ops[j] (by simp [hj]) e he hb
        exact ih e.on (by omega) (by omega)
     rw [hr]at this;cases this
  rw [zoR fun t ht=>all _ (hlt t ht)]at hS
  refine hQ act w (hS.mono fun b hb=>?_)
  rcases hb with hb | ⟨i,h1,h2,h3⟩
  . exact .inl hb
  . have:i<ops.size:=by
     rcases Nat.lt_or_ge i ops.size with h | h
     . exact h
     . rw [qbh,Array.getElem?_eq_none (by omega)]at h1;cases h1
    exact .inr (by omega)
 induction fuel with
 | zero=>
  intro listed act w hsz hDC hcnt hS;have hr:Region.ready .any ops listed=[]:=by
   cases hr:Region.ready .any ops listed with
   | nil=>rfl
   | cons i r=>
    have hi:i∈Region.ready .any ops listed:=by rw [hr];simp
    obtain ⟨h1,o,h2,_⟩:=mem_ready.1 hi;have hlt:=(qaL.1 h2).1;have:=hcnt [i] (by simp) (by
     simp only [qaE,forall_eq];refine ⟨hlt,?_⟩;rw [qbh,qby (by omega)]at h1 ⊢
     exact h1)
    simp at this
  exact ⟨hr,allDone listed act w hsz hr hS⟩
 | succ fuel ih=>
  intro listed act w hsz hDC hcnt hS;refine ⟨fun hr=>allDone listed act w hsz hr hS,fun k hk=>?_⟩
  obtain ⟨h1,o,h2,hpre⟩:=mem_ready.1 hk;have hkn:=(qaL.1 h2).1;have hDk:listed.getD k false=false:=by
   rw [qbh,qby (by omega)]at h1 ⊢
   exact h1
  obtain ⟨a,t,b,he,htk,ha,hb⟩:=zuF hix hkn;simp only [qaH]at htk ha hb;subst htk;have hcuta:∀ x∈a,Wr.cut ∉ x.2.1:=fun x hx=>hcut x (by rw [he];simp [hx])
  have hcutb:∀ x∈b,Wr.cut ∉ x.2.1:=fun x hx=>hcut x (by rw [he];simp [hx])
  have hcutt:Wr.cut ∉ t.2.1:=hcut t (by rw [he];simp)
  obtain ⟨ws,hrun,hL⟩:=zlm.split (a:=a) (b:=b) (by rw [<-he];exact hC)
  have hfs:za8 (fun i=>listed.getD i false) tr fs=za8 (fun i=>listed.getD i false) b (za8 (fun i=>listed.getD i false) a fs):=by
   rw [he,zfl];obtain ⟨t1,tW,tr'⟩:=t;simp only [za8,hDk,qaf]
  have later:∀ y∈b,listed.getD y.1 false=true->zr9 (zfQ t) (zfQ y)=false:=fun y hy hD=>by
   cases hc:zr9 (zfQ t) (zfQ y) with
   | false=>rfl
   | true=>
    obtain ⟨q,r,hqr⟩:=List.append_of_mem hy;have:=ord a t q y r (by rw [he,hqr]) hc
    have hoy:∃ oy,ops[y.1]?=some oy:=⟨_,qby (hlt y (by rw [he];simp [hy]))⟩
    obtain ⟨oy,hoy⟩:=hoy;have:=reach listed hDC y.1 oy hoy (hDC _ _ hoy hD) t.1 this
    rw [hDk]at this;cases this
  have agree:∀ l∈t.2.2,za8 (fun i=>listed.getD i false) tr fs l=zdl a fs l:=fun l hl=>by
   rw [hfs];refine zmO hcutb (fun y hy hD hm=>?_) (zoQ hcuta (fun x hx hm=>?_) rfl)
   . have:=later y hy hD
     simp only [zr9,qaQ,zfQ]at this;rw [ztG hl hm]at this;exact absurd this.2 (by simp)
   . obtain ⟨p,q,hpq⟩:=List.append_of_mem hx;refine reach listed hDC t.1 o h2 hpre x.1 (ord p x q t b (by rw [he,hpq];simp) ?_)
     simp only [zr9,zfQ,ztG hm hl,Bool.true_or]
  have hrun':=T.run_local hrun agree;refine zxq ht hT hS (fun b hb1 hb2 hNb=>?_) (T.run_evs hrun') hL fun act' w' hS'=>?_
  . rcases hNb with h | ⟨i,h3,h4,h5⟩
    . have:=hN b h;omega
    . have:i=t.1:=by omega
      subst this;rw [hDk]at h3;cases h3
  . have hset:∀ i,(listed.setIfInBounds t.1 true).getD i false=(if i=t.1 then true else listed.getD i false):=fun i=>by
     by_cases hi:i=t.1
     . subst hi;rw [if_pos rfl,qbh,Array.getElem?_setIfInBounds_self_of_lt (by omega)]
       rfl
     . rw [if_neg hi,getD_set_ne false (Ne.symm hi)]
    have hfs':za8 (fun i=>(listed.setIfInBounds t.1 true).getD i false) tr fs=ovr (za8 (fun i=>listed.getD i false) tr fs) t.2.1:=by
     funext l
     rw [hfs,he,zfl];have e1:za8 (fun i=>(listed.setIfInBounds t.1 true).getD i false) a fs=za8 (fun i=>listed.getD i false) a fs:=zgm fun x hx=>by
      rw [hset,if_neg (by have:=ha x hx;omega)]
     rw [e1];have e2:∀ f,za8 (fun i=>(listed.setIfInBounds t.1 true).getD i false) (t::b) f=za8 (fun i=>listed.getD i false) b (ovr f t.2.1):=fun f=>by
      obtain ⟨t1,tW,tr'⟩:=t;simp only [za8];rw [hset,if_pos rfl,qah];exact zgm fun x hx=>by rw [hset,if_neg (by have:=hb x hx;simp only at this;omega)]
     rw [e2];by_cases hm:l∈t.2.1.filterMap Wr.loc
     . refine (zmO hcutb (fun y hy hD hmy=>?_) rfl).trans (zs5 hm)
       have:=later y hy hD
       simp only [zr9,qaQ,zfQ]at this;rw [ztG hm hmy]at this;exact absurd this.1.2 (by simp)
     . rw [zff hm hcutt];exact zkz hcutb (zff hm hcutt)
    refine ih (listed.setIfInBounds t.1 true) act' w' (by simp [hsz]) (fun j oj hoj hD e he' hbe=>?_) (fun S hnd hSu=>?_) ?_
    . rw [hset]at hD ⊢
      split
      . rfl
      . split at hD
        . rename_i hj;subst hj;rw [h2]at hoj;cases hoj
          exact hpre e he' hbe
        . exact hDC j oj hoj hD e he' hbe
    . have hnot:t.1 ∉ S:=fun hm=>by
       have:=(hSu _ hm).2
       rw [hset,if_pos rfl]at this;cases this
      have:=hcnt (t.1::S) (qbD.2 ⟨hnot,hnd⟩) fun i hi=>by
       rcases qas.1 hi with rfl | hi
       . exact ⟨hkn,hDk⟩
       . have:=hSu i hi
         refine ⟨this.1,?_⟩;have h3:=this.2;rw [hset]at h3;split at h3
         . cases h3
         . exact h3
      simp at this
      omega
    . rw [hfs'];refine hS'.mono fun b hb'=>?_
      rcases hb' with (h | ⟨i,h3,h4⟩) | h
      . exact .inl h
      . refine .inr ⟨i,?_,h4⟩;rw [hset];split
        . rfl
        . exact h3
      . exact .inr ⟨t.1,by rw [hset,if_pos rfl],h⟩
theorem zw9(ht:TEok P te)(hT:tbl.Sound P)(hmix:P.follows .mixedOrders=true){st:List Wr}{id:Nat}{draw:Bool}{ws:List Wr}{act:Act}{w:World}(h:(zpi te tbl nt nx ops draw st).ev=some ws)(hS:St cx nt (look st) act w N)(hN:∀ b,N b->b<nx)
 (hQ:∀ act' w',St cx nt (look (ws++st)) act' w' (fun b=>b<nx+64*ops.size)->Q .normal act' w'):(Code.region id ops draw).wpIn (Fw fr) m0 P Q act w:=by
 unfold zpi at h;cases draw with
 | false=>
  simp only [qaf]at h;obtain ⟨tr,h1,h2,h3,_⟩:=zh2 h;refine wpIn_region ?_;rw [<-h1];refine text_wp ht hT h2 hS (by rw [h1];exact List.nodup_range) (fun t ht b hb1 _ hb3=>by have:=hN b hb3;omega) fun act' w' hS'=>?_
  refine hQ act' w' ?_;rw [zaH];refine (hS'.le h3).mono fun b hb=>?_
  rcases hb with hb | ⟨t,ht,hb⟩
  . have:=hN b hb;omega
  . have:t.1∈List.range ops.size:=by rw [<-h1];exact qav.2 ⟨t,ht,rfl⟩
    have:=qbN.1 this
    omega
 | true=>
  simp only [qah]at h;cases hed:zjP ops.toList 0 with
  | false=>simp [hed,Tree.ev]at h
  | true=>
   simp only [hed,qah]at h;obtain ⟨tr,h1,h2,h3,h4⟩:=zh2 h;have h4:=h4 _ rfl;rw [qaW]at h4;refine wpIn_region_any hmix (any_wp (cx:=cx) ht hT h2 h1 h4 hed hN (fun act' w' hS'=>?_) ops.size _ act _ (by simp) (fun j o hj hD=>?_) (fun S hnd hSu=>zpv hnd fun i hi=>(hSu i hi).1) ?_)
   . refine hQ act' w' ?_;rw [zaH];refine (hS'.le h3).mono fun b hb=>?_
     rcases hb with hb | hb
     . have:=hN b hb;omega
     . omega
   . exfalso
     rw [qbh,Array.getElem?_replicate]at hD;split at hD <;> simp at hD
   . have hnone:∀ i,(Array.replicate ops.size false).getD i false=false:=fun i=>by
      rw [qbh,Array.getElem?_replicate];split <;> rfl
     rw [zmN fun t _=>hnone _]
     obtain ⟨env,own,q1,q2,q3,q4⟩:=hS.ex;have:=Post.drew q1 q2
     exact ⟨hS.size,env,own,this.rw.mono fun b hb=>.inl hb,this.rb,q3,q4⟩
end
end Go.VI
namespace Go.VI
open Go Go.RowKit
def envM(nx:Nat)(m:Mp)(env:Nm):Nm:=fun b=>
 if nx<=b/\b<nx+64 then (match m.find (b-nx) with
  | some (some b')=>env b'
  | some none=>some (.slice none 0 0)
  | none=>none)
 else if b<nx then env b else none
theorem zlD{nx:Nat}{m:Mp}{env:Nm}{c b:Nat}(hc:c<64)(h:m.find c=some (some b)):envM nx m env (nx+c)=env b:=by
 simp only [envM];rw [if_pos (by omega),qcG,h]
theorem zvg{nx:Nat}{m:Mp}{env:Nm}{c:Nat}(hc:c<64)(h:m.find c=some none):envM nx m env (nx+c)=some (.slice none 0 0):=by
 simp only [envM];rw [if_pos (by omega),qcG,h]
theorem zfk{nx:Nat}{m:Mp}{env:Nm}{b:Nat}(hb:b<nx):envM nx m env b=env b:=by
 simp only [envM];rw [if_neg (by omega),if_pos hb]
theorem zlV{x:Option (Option Nat)}{b:Nat}(h:same x (some b)=true):x=some (some b):=by
 unfold same at h;split at h
 . rename_i a b' h1
   cases h1;rw [qan h]
 . rename_i h1;cases h1
 . cases h
theorem zw6{x:Option (Option Nat)}(h:same x none=true):x=some none:=by
 unfold same at h;split at h
 . rename_i a b' h1;cases h1
 . rfl
 . cases h
section
variable {cx:Cx} {fs:FS} {w:World} {env:Nm} {own:Ow} {nx:Nat} {m:Mp} {ok':Nat->Prop}
theorem zcw{α:Type}{rest:List α}{u:Unit}(h:(zao rest.isEmpty).evs fs=some u):rest=[]:=by
 have:=zah.1 h;simpa using this
theorem zh5(hB:RB cx fs w env own){t:Ty}{xs:List Lf}{cs:List Value}{v:t.den}{ws:Ws}(h:(za2 true t xs).evs fs=some (v,[],ws))(hx:All2 (LfR w.heap (cx.ok own) env) xs cs):Frz fs ws/\∀ bs,(∀ p∈ws,p.1∈bs)->Fits w.heap (cx.ok (unown own bs)) t v cs:=by
 obtain ⟨h1,c1,c2,hc,hr,hf⟩:=zcf hB h hx;have:c2=[]:=by cases c2 with
  | nil=>rfl
  | cons _ _=>exact hr.elim
 subst this;rw [qaW]at hc;subst hc;exact ⟨h1,hf⟩
structure To (cx:Cx) (w:World) (own:Ow) (ns:List Nat) (ok':Nat->Prop):Prop where
 ok:∀ c,cx.ok (unown own ns) c->ok' c
theorem To.fits{ns:List Nat}(hto:To cx w own ns ok'){t:Ty}{v:t.den}{cs:List Value}(h:Fits w.heap (cx.ok (unown own ns)) t v cs):Fits w.heap ok' t v cs:=h.mono fun c hc _=>⟨hto.ok c hc,rfl⟩
theorem To.fits0{ns:List Nat}(hto:To cx w own ns ok'){t:Ty}{v:t.den}{cs:List Value}(h:Fits w.heap (cx.ok own) t v cs):Fits w.heap ok' t v cs:=h.mono fun c hc _=>⟨hto.ok c (zdw hc),rfl⟩
theorem zxG{h:Array Obj}{ok:Nat->Prop}{env:Nm}{t:Ty}{v:t.den}{x:Value}(hf:Fits h ok t v [x]):LfR h ok env ((Sl.val t).mkL nx v) x:=by
 have:=zcZ (env:=env) hf
 simp only [Sl.mkL];split
 . rename_i y hy;rw [hy]at this;exact this.1
 . exact hf.one x (by simp)
theorem zzw(hB:RB cx fs w env own){s:Sl}{x:Lf}{v:s.den}{ws:Ws}{val:Value}(h:(unL m s x).evs fs=some (v,ws))(hx:LfR w.heap (cx.ok own) env x val):
 Frz fs ws/\∀ ns,(∀ p∈ws,p.1∈ns)->To cx w own ns ok'->LfR w.heap ok' (envM nx m env) (s.mkL nx v) val:=by
 unfold unL at h;split at h
 . obtain ⟨⟨v1,rest,w1⟩,h1,h2⟩:=zaa.1 h;obtain ⟨_,h3,h4⟩:=zaa.1 h2;simp at h4
   obtain ⟨rfl,rfl⟩:=h4;have:=zcw h3
   subst this;obtain ⟨f1,f2⟩:=zh5 hB h1 (cs:=[val]) ⟨hx,trivial⟩
   exact ⟨f1,fun ns hns hto=>zxG (hto.fits (f2 ns hns))⟩
 . obtain ⟨_,h1,h2⟩:=zaa.1 h;simp at h2
   obtain ⟨_,rfl⟩:=h2;have h1:=zah.1 h1;simp only [qae]at h1;refine ⟨Frz.nil,fun ns _ _=>⟨?_,hx.2⟩⟩
   rw [zlD (by simpa using h1.1) (zlV h1.2)];exact hx.1
 . obtain ⟨_,h1,h2⟩:=zaa.1 h;simp at h2
   obtain ⟨_,rfl⟩:=h2;have h1:=zah.1 h1;simp only [qae]at h1;simp only [LfR]at hx;subst hx
   refine ⟨Frz.nil,fun ns _ _=>⟨?_,_,_,_,rfl⟩⟩
   rw [zvg (by simpa using h1.1) (zw6 h1.2)]
 . obtain ⟨_,h1,h2⟩:=zaa.1 h;simp at h2
   obtain ⟨_,rfl⟩:=h2;have h1:=zah.1 h1;simp only [qae]at h1;obtain ⟨g,q1,q2⟩:=hx;refine ⟨Frz.nil,fun ns _ _=>⟨g,?_,?_⟩⟩
   . rw [zlD (by simpa using h1.1.1) (zlV h1.1.2)];exact q1
   . rw [qan h1.2];exact q2
 . obtain ⟨_,h1,h2⟩:=zaa.1 h;simp at h2
   obtain ⟨rfl,rfl⟩:=h2;have h1:=zah.1 h1;simp only [qae]at h1;obtain ⟨g,n,c,q1,q2,q3⟩:=hx;refine ⟨Frz.nil,fun ns _ _=>⟨g,n,c,?_,q2,?_⟩⟩
   . rw [zlD (by simpa using h1.1.1.1) (zlV h1.1.1.2)];exact q1
   . rw [qan h1.2,qan h1.1.2];exact q3
 . simp [T.evs]at h
theorem zwW(hB:RB cx fs w env own):∀ {cs:List Sl} {xs:List Lf} {v:Sden cs} {ws:Ws} {vals:List Value},(unLs m cs xs).evs fs=some (v,ws)->All2 (LfR w.heap (cx.ok own) env) xs vals ->
 Frz fs ws/\∀ ns,(∀ p∈ws,p.1∈ns)->To cx w own ns ok'->All2 (LfR w.heap ok' (envM nx m env)) (mkLs nx cs v) vals
 | [],[],v,ws,vals,h,hx=>by
  simp [unLs,T.evs]at h
  subst h;cases vals with
  | nil=>exact ⟨Frz.nil,fun _ _ _=>trivial⟩
  | cons _ _=>exact hx.elim
 | s::cs,x::xs,v,ws,vals,h,hx=>by
  simp only [unLs]at h;obtain ⟨⟨v1,w1⟩,h1,h2⟩:=zaa.1 h;obtain ⟨⟨v2,w2⟩,h3,h4⟩:=zaa.1 h2;simp at h4
  obtain ⟨rfl,rfl⟩:=h4;cases vals with
  | nil=>exact hx.elim
  | cons u vals=>
   obtain ⟨f1,f2⟩:=zzw (nx:=nx) (ok':=ok') hB h1 hx.1
   obtain ⟨f3,f4⟩:=zwW hB h3 hx.2;exact ⟨f1.append f3,fun ns hns hto=>⟨f2 ns (fun p hp=>hns p (by simp [hp])) hto,f4 ns (fun p hp=>hns p (by simp [hp])) hto⟩⟩
 | [],_::_,_,_,_,h,_=>by simp [unLs,T.evs]at h
 | _::_,[],_,_,_,h,_=>by simp [unLs,T.evs]at h
theorem zpS{h:Array Obj}{ok:Nat->Prop}{env:Nm}{t:Ty}{v:t.den}{cs:List Value}(hf:Fits h ok t v cs):A1R h ok env ((Sl.val t).mk1 nx v) (zaW t cs):=by
 simp only [Sl.mk1,zaW];cases ha:t.isAgg with
 | true=>exact ⟨_,rfl,zcZ hf⟩
 | false=>
  have hs:t.size=1:=by cases t <;> simp_all [Ty.isAgg,Ty.size]
  have:=hf.len
  rw [hs]at this;match cs,this with
  | [c],_=>exact zxG hf
theorem zzv(hB:RB cx fs w env own){tm:Array Value}(hS:RS cx fs tm w env own):∀ {ss:List Nat} {sl:List Sl} {v:Sden sl} {ws:Ws},(unS m ss sl).evs fs=some (v,ws) ->
 Frz fs ws/\∀ ns,(∀ p∈ws,p.1∈ns)->To cx w own ns ok'->∀ (rest:List Wr),(∀ n,zbQ w.heap ok' (envM nx m env) (look rest (.s n)) (tm.getD n undef))->∀ n,zbQ w.heap ok' (envM nx m env) (look (mkS nx ss sl v++rest) (.s n)) (tm.getD n undef)
 | [],[],v,ws,h=>by
  simp [unS,T.evs]at h
  subst h;exact ⟨Frz.nil,fun _ _ _ rest hr=>hr⟩
 | k::ss,s::sl,v,ws,h=>by
  simp only [unS]at h;obtain ⟨a,h1,h2⟩:=zaa.1 h;obtain ⟨⟨v1,w1⟩,h3,h4⟩:=zaa.1 h2;obtain ⟨⟨v2,w2⟩,h5,h6⟩:=zaa.1 h4;simp at h6
  obtain ⟨rfl,rfl⟩:=h6;have ha:=zuI hS h1;obtain ⟨f3,f4⟩:=zzv hB hS h5;have key:Frz fs w1/\∀ ns,(∀ p∈w1,p.1∈ns)->To cx w own ns ok'->A1R w.heap ok' (envM nx m env) (s.mk1 nx v1) (tm.getD k undef):=by
   have other:∀ {x:Lf},(one a).evs fs=some x->(unL m s x).evs fs=some (v1,w1)->(∀ t,s≠.val t)->Frz fs w1/\∀ ns,(∀ p∈w1,p.1∈ns)->To cx w own ns ok'->A1R w.heap ok' (envM nx m env) (s.mk1 nx v1) (tm.getD k undef):=by
    intro x hx hu hne;rw [zou hx]at ha;obtain ⟨f1,f2⟩:=zzw (nx:=nx) (ok':=ok') hB hu ha
    refine ⟨f1,fun ns hns hto=>?_⟩
    have:=f2 ns hns hto
    cases s with
    | val t=>exact absurd rfl (hne t)
    | own _=>exact this
    | bptr _ _=>exact this
    | eptr _ _ _=>exact this
   split at h3
   . rename_i t v1'
     obtain ⟨ys,h7,h8⟩:=zaa.1 h3;obtain ⟨⟨u,rest,w1'⟩,h9,h10⟩:=zaa.1 h8;obtain ⟨_,h11,h12⟩:=zaa.1 h10;simp at h12
     obtain ⟨rfl,rfl⟩:=h12;have:=zcw h11
     subst this;obtain ⟨k1,k2⟩:=zb1 h7 ha (.inr trivial);obtain ⟨f1,f2⟩:=zh5 hB h9 k1;refine ⟨f1,fun ns hns hto=>?_⟩
     rw [k2 _ rfl];exact zpS (hto.fits (f2 ns hns))
   . rename_i hne;obtain ⟨x,h7,h8⟩:=zaa.1 h3;exact other h7 h8 (fun t he=>by subst he;exact hne t rfl)
  refine ⟨key.1.append f3,fun ns hns hto rest hr n=>?_⟩
  simp only [mkS,qaM,look];by_cases hkn:k=n
  . subst hkn;simp only [Loc.eqb,Nat.beq_refl,qah];exact key.2 ns (fun p hp=>hns p (by simp [hp])) hto
  . rw [zbh (show Loc.s k≠Loc.s n from fun e=>by cases e;exact hkn rfl),qaf]
    exact f4 ns (fun p hp=>hns p (by simp [hp])) hto rest hr n
 | [],_::_,_,_,h=>by simp [unS,T.evs]at h
 | _::_,[],_,_,h=>by simp [unS,T.evs]at h
end
end Go.VI
namespace Go.VI
open Go Go.RowKit
def CpN(p:Nat->Prop):Cp->Prop
 | .ptr b _=>p b
 | .imm _ _=>True
def LfN(p:Nat->Prop):Lf->Prop
 | .own b=>p b
 | .sub b _ _ _=>p b
 | .bptr b _=>p b
 | .eptr b _ _ _=>p b
 | .nam b=>p b
 | .clo _ fi ca=>(∀ c∈fi,CpN p c)/\∀ c∈ca,CpN p c
 | _=>True
def A1N(p:Nat->Prop):A1->Prop
 | .one x=>LfN p x
 | .agg xs=>∀ x∈xs,LfN p x
def AvN(p:Nat->Prop):AV->Prop
 | .v a=>A1N p a
 | .tup as=>∀ a∈as,A1N p a
section
variable {h:Array Obj} {ok:Nat->Prop} {env env':Nm} {p:Nat->Prop}
theorem All2.all{α β:Type}{R:α->β->Prop}{S:α->Prop}:∀ {as:List α} {bs:List β},All2 R as bs->(∀ a b,R a b->S a)->∀ a∈as,S a
 | [],[],_,_=>by simp
 | _::_,_::_,h,hS=>fun a ha=>by
  rcases qas.1 ha with rfl | ha
  . exact hS _ _ h.1
  . exact All2.all h.2 hS a ha
 | [],_::_,h,_=>h.elim
 | _::_,[],h,_=>h.elim
theorem CpR.named(hp:∀ b,env b≠none->p b){x:Cp}{v:Value}(hf:CpR h ok env x v):CpN p x:=by
 cases x with
 | ptr b o=>obtain ⟨g,h1,_⟩:=hf;exact hp _ (by simp [h1])
 | imm t v=>trivial
theorem LfR.named(hp:∀ b,env b≠none->p b){x:Lf}{v:Value}(hf:LfR h ok env x v):LfN p x:=by
 cases x <;> first | trivial | skip
 . exact hp _ (by simp [hf.1])
 . obtain ⟨q,len,c,h1,_⟩:=hf;exact hp _ (by simp [h1])
 . obtain ⟨g,h1,_⟩:=hf;exact hp _ (by simp [h1])
 . obtain ⟨g,n,c,h1,_⟩:=hf;exact hp _ (by simp [h1])
 . exact hp _ (by simp [hf.1])
 . obtain ⟨vs,us,_,h1,h2⟩:=hf;exact ⟨h1.all fun _ _=>CpR.named hp,h2.all fun _ _=>CpR.named hp⟩
theorem A1R.named(hp:∀ b,env b≠none->p b){x:A1}{v:Value}(hf:A1R h ok env x v):A1N p x:=by
 cases x with
 | one x=>exact LfR.named hp hf
 | agg xs=>obtain ⟨cs,_,h2⟩:=hf;exact h2.all fun a b=>LfR.named hp
theorem AvR.named(hp:∀ b,env b≠none->p b){x:AV}{v:Value}(hf:AvR h ok env x v):AvN p x:=by
 cases x with
 | v x=>exact A1R.named hp hf
 | tup xs=>obtain ⟨cs,_,h2⟩:=hf;exact h2.all fun a b=>A1R.named hp
theorem CpR.rename(he:∀ b,p b->env' b=env b){x:Cp}{v:Value}(hn:CpN p x)(hf:CpR h ok env x v):CpR h ok env' x v:=by
 cases x with
 | ptr b o=>obtain ⟨g,h1,h2⟩:=hf;exact ⟨g,by rw [he _ hn];exact h1,h2⟩
 | imm t v=>exact hf
theorem LfR.rename(he:∀ b,p b->env' b=env b){x:Lf}{v:Value}(hn:LfN p x)(hf:LfR h ok env x v):LfR h ok env' x v:=by
 cases x <;> first | exact hf | skip
 . exact ⟨by rw [he _ hn];exact hf.1,hf.2⟩
 . obtain ⟨q,len,c,h1,h2⟩:=hf;exact ⟨q,len,c,by rw [he _ hn];exact h1,h2⟩
 . obtain ⟨g,h1,h2⟩:=hf;exact ⟨g,by rw [he _ hn];exact h1,h2⟩
 . obtain ⟨g,n,c,h1,h2⟩:=hf;exact ⟨g,n,c,by rw [he _ hn];exact h1,h2⟩
 . exact ⟨by rw [he _ hn];exact hf.1,hf.2⟩
 . obtain ⟨vs,us,h1,h2,h3⟩:=hf;exact ⟨vs,us,h1,All2.of_mem (fun a ha b=>CpR.rename he (hn.1 a ha)) h2,All2.of_mem (fun a ha b=>CpR.rename he (hn.2 a ha)) h3⟩
theorem A1R.rename(he:∀ b,p b->env' b=env b){x:A1}{v:Value}(hn:A1N p x)(hf:A1R h ok env x v):A1R h ok env' x v:=by
 cases x with
 | one x=>exact LfR.rename he hn hf
 | agg xs=>obtain ⟨cs,h1,h2⟩:=hf;exact ⟨cs,h1,All2.of_mem (fun a ha b=>LfR.rename he (hn a ha)) h2⟩
theorem AvR.rename(he:∀ b,p b->env' b=env b){x:AV}{v:Value}(hn:AvN p x)(hf:AvR h ok env x v):AvR h ok env' x v:=by
 cases x with
 | v x=>exact A1R.rename he hn hf
 | tup xs=>obtain ⟨cs,h1,h2⟩:=hf;exact ⟨cs,h1,All2.of_mem (fun a ha b=>A1R.rename he (hn a ha)) h2⟩
end
def zyl(nx:Nat):Loc->Cell->Prop
 | .s _,.av a=>AvN (· < nx) a
 | .b b,.arr _ _ _ _=>b<nx
 | .b b,.ln _=>b<nx
 | .b b,.box _ xs=>b<nx/\∀ x∈xs,LfN (· < nx) x
 | .b b,.rb _ xs=>b<nx/\∀ x∈xs,LfN (· < nx) x
 | _,_=>True
def zsM(nx:Nat)(keep:List Loc)(base:FS):Prop:=∀ l∈keep,zyl nx l (base l)
theorem St.keepOk{cx:Cx}{nt nx:Nat}{fs:FS}{a:Act}{w:World}(h:St cx nt fs a w (· < nx))(keep:List Loc):zsM nx keep fs:=by
 obtain ⟨env,own,h1,h2,h3,-⟩:=h.ex;intro l _;cases l with
 | s n=>
  have:=h3 n
  cases hc:fs (.s n) with
  | av x=>rw [hc]at this;exact AvR.named h1.names this
  | _=>trivial
 | b n=>
  have:=h2 n
  cases hc:fs (.b n) with
  | arr m T e l=>
   rw [hc]at this;obtain ⟨v,hv,_⟩:=this;exact h1.names n (by simp [hv])
  | ln m=>
   rw [hc]at this;obtain ⟨p,c,hv⟩:=this;exact h1.names n (by simp [hv])
  | box T xs=>
   rw [hc]at this;obtain ⟨g,cs,e1,e2,e3,e4⟩:=this;exact ⟨h1.names n (by simp [e1]),e3.all fun a b=>LfR.named h1.names⟩
  | rb T xs=>
   rw [hc]at this;obtain ⟨g,cs,e1,e2,e3,e4⟩:=this;exact ⟨h1.names n (by simp [e1]),e3.all fun a b=>LfR.named h1.names⟩
  | _=>trivial
def invM(m:Mp)(b:Nat):Nat->Option Nat
 | 0=>none
 | n+1=>match invM m b n with
  | some j=>some j
  | none=>if m.find n=some (some b) then some n else none
theorem zrL{m:Mp}{b:Nat}:∀ {n:Nat},(∀ i,i<n->m.find i≠some (some b))->invM m b n=none
 | 0,_=>rfl
 | n+1,h=>by simp only [invM,zrL (n:=n) fun i hi=>h i (by omega)];rw [if_neg (h n (by omega))]
theorem zxT{m:Mp}{b j:Nat}(hj:m.find j=some (some b))(hlt:∀ i,i<j->m.find i≠some (some b)):∀ {n:Nat},j<n->invM m b n=some j
 | n+1,h=>by
  simp only [invM];by_cases hjn:j=n
  . subst hjn;rw [zrL hlt];simp [hj]
  . rw [zxT hj hlt (n:=n) (by omega)]
def ownM(nx:Nat)(m:Mp)(keep:List Loc)(n:Nat)(own:Ow):Ow:=fun g=>match own g with
 | some b=>if Loc.b b∈keep then some b else (invM m b n).map (nx + ·)
 | none=>none
theorem zgg{m:Mp}{keep:List Loc}{ws:Ws}:∀ {bl:List Bl} {j:Nat} {seen:List Nat},zjH m keep ws j bl seen=true ->
 (∀ b∈seen,∀ p∈ws,p.1≠b)/\∀ k,k<bl.length->m.find (j+k)≠none/\∀ b,m.find (j+k)=some (some b)->b ∉ seen/\Loc.b b ∉ keep/\(∀ p∈ws,p.1≠b)/\∀ i,i<k->m.find (j+i)≠some (some b)
 | [],j,seen,h=>by
  simp only [zjH,qaN]at h;refine ⟨fun b hb p hp he=>?_,fun k hk=>by simp at hk⟩
  have:=h p hp
  simp only [qar,qbr]at this;exact this b hb (by rw [he];exact Nat.beq_refl b)
 | x::bl,j,seen,h=>by
  simp only [zjH]at h;split at h
  . rename_i b hb;simp only [qae,qar,qbr]at h;obtain ⟨⟨h1,h2⟩,h3⟩:=h;obtain ⟨k1,k2⟩:=zgg h3;refine ⟨fun b' hb'=>k1 b' (by simp [hb']),fun k hk=>?_⟩
    cases k with
    | zero=>
     refine ⟨by simp [hb],fun b' hb'=>?_⟩
     rw [qa9,hb]at hb'
     cases hb'
     refine ⟨fun hm=>h1 b hm (Nat.beq_refl b),fun hm=>h2 _ hm (zaO _),k1 b (by simp),fun i hi=>by omega⟩
    | succ k=>
     have:=k2 k (by simpa using hk)
     rw [show j+1+k=j+(k+1) by omega]at this
     refine ⟨this.1,fun b' hb'=>?_⟩
     obtain ⟨q1,q2,q3,q4⟩:=this.2 b' hb';simp only [qas,not_or]at q1;refine ⟨q1.2,q2,q3,fun i hi=>?_⟩
     cases i with
     | zero=>rw [qa9,hb];intro he;cases he;exact q1.1 rfl
     | succ i=>have:=q4 i (by omega);rwa [show j+1+i=j+(i+1) by omega]at this
  . rename_i hb;obtain ⟨k1,k2⟩:=zgg h;refine ⟨k1,fun k hk=>?_⟩
    cases k with
    | zero=>exact ⟨by simp [hb],fun b' hb'=>by rw [qa9,hb]at hb';cases hb'⟩
    | succ k=>
     have:=k2 k (by simpa using hk)
     rw [show j+1+k=j+(k+1) by omega]at this
     refine ⟨this.1,fun b' hb'=>?_⟩
     obtain ⟨q1,q2,q3,q4⟩:=this.2 b' hb';refine ⟨q1,q2,q3,fun i hi=>?_⟩
     cases i with
     | zero=>rw [qa9,hb];simp
     | succ i=>have:=q4 i (by omega);rwa [show j+1+i=j+(i+1) by omega]at this
  . cases h
theorem zoz{nx:Nat}:∀ {ss:List Nat} {sl:List Sl} {v:Sden sl} {rest:List Wr} {b:Nat},look (mkS nx ss sl v++rest) (.b b)=look rest (.b b)
 | [],[],_,_,_=>rfl
 | n::ss,s::sl,v,rest,b=>by simp only [mkS,qaM,look,Loc.eqb,qaf];exact zoz
 | [],_::_,_,_,_=>rfl
 | _::_,[],_,_,_=>rfl
theorem zoA{nx:Nat}:∀ {j:Nat} {bl:List Bl} {v:Bden bl} {rest:List Wr} {n:Nat},look (mkB nx j bl v++rest) (.s n)=look rest (.s n)
 | j,[],_,_,_=>rfl
 | j,b::bl,v,rest,n=>by simp only [mkB,qaM,look,Loc.eqb,qaf];exact zoA
theorem zoB{nx:Nat}:∀ {ns:List Nat} {bl:List Bl} {v:Bden bl} {rest:List Wr} {n:Nat},look (mkA nx ns bl v++rest) (.s n)=look rest (.s n)
 | [],[],_,_,_=>rfl
 | k::ns,b::bl,v,rest,n=>by simp only [mkA,qaM,look,Loc.eqb,qaf];exact zoB
 | [],_::_,_,_,_=>rfl
 | _::_,[],_,_,_=>rfl
theorem zgh{base:FS}:∀ {keep:List Loc} {l:Loc},look (keep.map fun l=>Wr.w l (base l)) l=if l∈keep then base l else .no
 | [],l=>by simp [look]
 | k::keep,l=>by
  simp only [qaX,look];by_cases hkl:k=l
  . subst hkl;simp [zaO]
  . rw [zbh hkl,qaf,zgh];simp [Ne.symm hkl]
section
variable {cx:Cx} {fs:FS} {w:World} {env:Nm} {own:Ow} {nx:Nat} {m:Mp} {ok':Nat->Prop} {own':Ow}
theorem zzx(hB:RB cx fs w env own){b nm:Nat}{s:Bl}{v:s.den}{ws:Ws}(h:(unC m b s).evs fs=some (v,ws)):Frz fs ws/\∀ ns,(∀ p∈ws,p.1∈ns)->To cx w own ns ok'->(∀ g,own g=some b->own' g=some nm)->envM nx m env nm=env b ->
 za9 cx.low w.heap ok' (envM nx m env) own' nm (s.mk nx v):=by
 cases s with
 | arr tt e=>
  simp only [unC]at h;obtain ⟨c,h5,h6⟩:=zaa.1 h;simp only [zaS,Option.some.injEq]at h5;subst h5;split at h6
  . rename_i T' e' l' hfs
    obtain ⟨_,h7,h8⟩:=zaa.1 h6;obtain ⟨l,h10,h9⟩:=zaa.1 h8;simp at h9
    obtain ⟨rfl,rfl⟩:=h9;have hT:=qan (zah.1 h7);subst hT;simp only [zcm,zbb]at h10;have he:e'=e:=by
     unfold Ty.cast at h10;split at h10
     . rename_i he;have:=Ty.eqb_eq he;injection this
     . cases h10
    subst he;have hl':l'=l:=by
     unfold Ty.cast at h10;split at h10
     . simpa using h10
     . cases h10
    subst hl'
    have hbb:=hB b;rw [hfs]at hbb;obtain ⟨v',e1,e2⟩:=hbb;refine ⟨Frz.nil,fun ns _ hto how hen=>⟨v',by rw [hen];exact e1,e2.imp id ?_⟩⟩
    rintro ⟨g,cap,cur,rfl,hg,q1,q2,q3,q4,q5,_⟩;exact ⟨g,cap,cur,rfl,hg,q1,q2,q3,fun i hi=>hto.fits0 (q4 i hi),fun _=>⟨how g (q5 rfl).1,(q5 rfl).2⟩,fun h=>by cases h⟩
  . simp [T.evs]at h6
 | box tt cs=>
  simp only [unC]at h;obtain ⟨c,h5,h6⟩:=zaa.1 h;simp only [zaS,Option.some.injEq]at h5;subst h5;split at h6
  . rename_i T' xs hfs
    obtain ⟨_,h7,h8⟩:=zaa.1 h6;have hT:=qan (zah.1 h7);subst hT;have hbb:=hB b;rw [hfs]at hbb;obtain ⟨g,cc,e1,e2,e3,e4⟩:=hbb;obtain ⟨f3,f4⟩:=zwW (nx:=nx) (ok':=ok') hB h8 e3
    exact ⟨f3,fun ns hns hto how hen=>⟨g,cc,by rw [hen];exact e1,e2,f4 ns hns hto,how g e4⟩⟩
  . simp [T.evs]at h6
theorem zzy(hB:RB cx fs w env own):∀ {bl:List Bl} {j:Nat} {v:Bden bl} {ws:Ws},(unB m j bl).evs fs=some (v,ws)->j+bl.length<=64 ->
 Frz fs ws/\∀ ns,(∀ p∈ws,p.1∈ns)->To cx w own ns ok'->(∀ k,k<bl.length->∀ b g,m.find (j+k)=some (some b)->own g=some b->own' g=some (nx+(j+k))) ->
  ∀ (rest:List Wr),(∀ b,za9 cx.low w.heap ok' (envM nx m env) own' b (look rest (.b b)))->∀ b,za9 cx.low w.heap ok' (envM nx m env) own' b (look (mkB nx j bl v++rest) (.b b))
 | [],j,v,ws,h,_=>by
  simp [unB,T.evs]at h
  subst h;exact ⟨Frz.nil,fun _ _ _ _ rest hr=>hr⟩
 | s::bl,j,v,ws,h,hl=>by
  simp only [qaJ]at hl;simp only [unB]at h;obtain ⟨⟨v1,w1⟩,h1,h2⟩:=zaa.1 h;obtain ⟨⟨v2,w2⟩,h3,h4⟩:=zaa.1 h2;simp at h4
  obtain ⟨rfl,rfl⟩:=h4;obtain ⟨f1,f2⟩:=zzy hB h3 (by omega)
  have key:Frz fs w1/\∀ ns,(∀ p∈w1,p.1∈ns)->To cx w own ns ok'->(∀ b g,m.find j=some (some b)->own g=some b->own' g=some (nx+j))->za9 cx.low w.heap ok' (envM nx m env) own' (nx+j) (s.mk nx v1):=by
   split at h1
   . rename_i b' hm
     obtain ⟨q1,q2⟩:=zzx (nx:=nx) (nm:=nx+j) (ok':=ok') (own':=own') hB h1
     exact ⟨q1,fun ns hns hto how=>q2 ns hns hto (fun g hg=>how b' g hm hg) (zlD (by omega) hm)⟩
   . rename_i hm;cases s with
     | arr tt e=>
      simp [unN,T.evs]at h1
      obtain ⟨rfl,rfl⟩:=h1;exact ⟨Frz.nil,fun _ _ _ _=>⟨_,zvg (by omega) hm,.inl ⟨rfl,rfl⟩⟩⟩
     | box tt cs=>simp [unN,T.evs]at h1
   . simp [T.evs]at h1
  refine ⟨key.1.append f1,fun ns hns hto how rest hr b=>?_⟩
  have ih:=f2 ns (fun p hp=>hns p (by simp [hp])) hto (fun k hk b g hm hg=>by have:=how (k+1) (by simp;omega) b g (by rw [show j+(k+1)=j+1+k by omega];exact hm) hg;rwa [show j+(k+1)=j+1+k by omega]at this) rest hr
  simp only [mkB,qaM,look];by_cases hb:nx+j=b
  . subst hb;rw [zaO,qah];exact key.2 ns (fun p hp=>hns p (by simp [hp])) hto fun b' g hm hg=>how 0 (by simp) b' g hm hg
  . rw [zbh (show Loc.b (nx+j)≠Loc.b b from fun e=>by cases e;exact hb rfl),qaf]
    exact ih b
theorem zzz(hB:RB cx fs w env own):∀ {as:List Nat} {bl:List Bl} {v:Bden bl} {ws:Ws},(unA m as bl).evs fs=some (v,ws) ->
 Frz fs ws/\∀ ns,(∀ p∈ws,p.1∈ns)->To cx w own ns ok'->(∀ b∈as,b<nx/\∀ g,own g=some b->own' g=some b) ->
  ∀ (rest:List Wr),(∀ b,za9 cx.low w.heap ok' (envM nx m env) own' b (look rest (.b b)))->∀ b,za9 cx.low w.heap ok' (envM nx m env) own' b (look (mkA nx as bl v++rest) (.b b))
 | [],[],v,ws,h=>by
  simp [unA,T.evs]at h
  subst h;exact ⟨Frz.nil,fun _ _ _ _ rest hr=>hr⟩
 | a::as,s::bl,v,ws,h=>by
  simp only [unA]at h;obtain ⟨⟨v1,w1⟩,h1,h2⟩:=zaa.1 h;obtain ⟨⟨v2,w2⟩,h3,h4⟩:=zaa.1 h2;simp at h4
  obtain ⟨rfl,rfl⟩:=h4;obtain ⟨f1,f2⟩:=zzz hB h3;obtain ⟨q1,q2⟩:=zzx (nx:=nx) (nm:=a) (ok':=ok') (own':=own') hB h1
  refine ⟨q1.append f1,fun ns hns hto how rest hr b=>?_⟩
  have ih:=f2 ns (fun p hp=>hns p (by simp [hp])) hto (fun b hb=>how b (by simp [hb])) rest hr
  simp only [mkA,qaM,look];by_cases hb:a=b
  . subst hb;rw [zaO,qah];have:=how a (by simp)
    exact q2 ns (fun p hp=>hns p (by simp [hp])) hto this.2 (zfk this.1)
  . rw [zbh (show Loc.b a≠Loc.b b from fun e=>by cases e;exact hb rfl),qaf]
    exact ih b
 | [],_::_,_,_,h=>by simp [unA,T.evs]at h
 | _::_,[],_,_,h=>by simp [unA,T.evs]at h
end
end Go.VI
namespace Go.VI
open Go Go.RowKit
section
variable {P:Program} {te:TE} {tbl:Tbl} {cx:Cx} {nt nx:Nat} {fs base:FS} {w:World} {act:Act} {N:Nat->Prop}
theorem zh1{s:Shape}{keep:List Loc}{x:s.den}{env:Nm}{own:Ow}{tm:Array Value}(h:(shT s keep).evs fs=some x)(hw:RW cx w env own N)(hB:RB cx fs w env own)(hR:RS cx fs tm w env own)(hk:∀ l∈keep,fs l=base l)(hb:zsM nx keep base)(hab:∀ n∈s.ab,n<nx)(hfix:∀ b v,cx.fix b=some v->b<nx):
 ∃ env' own',RW cx w env' own' (· < nx+64)/\RB cx (look (s.mk' nx x++keep.map fun l=>Wr.w l (base l))) w env' own'/\RS cx (look (s.mk' nx x++keep.map fun l=>Wr.w l (base l))) tm w env' own' /\
  (∀ c,own c=none->own' c=none)/\(∀ c b,own' c=some b->∃ b0,own c=some b0/\(Loc.b b0∈keep->b=b0)):=by
 simp only [shT]at h;obtain ⟨_,h0,h1⟩:=zaa.1 h;obtain ⟨m1,_,h3⟩:=zaa.1 h1;obtain ⟨m2,_,h5⟩:=zaa.1 h3;obtain ⟨m3,_,h5'⟩:=zaa.1 h5;obtain ⟨⟨v,w1⟩,h6,h7⟩:=zaa.1 h5';obtain ⟨⟨u,w2⟩,h8,h9⟩:=zaa.1 h7;obtain ⟨⟨z,w3⟩,h8',h9'⟩:=zaa.1 h9;obtain ⟨_,h10,h11⟩:=zaa.1 h9';obtain ⟨_,h12,h13⟩:=zaa.1 h11;simp at h13;subst h13
 have hlen:0+s.bl.length<=64:=by have:=qa5 (zah.1 h0);omega
 generalize m1++(m2++m3)=m at *
 obtain ⟨n1,n2⟩:=zgg (zah.1 h10);have hkeep:∀ p∈w1++(w2++w3),Loc.b p.1 ∉ keep++s.ab.map Loc.b:=fun p hp hm=>by
  have:=(qaN.1 (zah.1 h12)) p hp
  simp only [qar,qbr]at this;exact this _ hm (zaO _)
 let ns:=nms (w1++(w2++w3))
 let own':=ownM nx m (keep++s.ab.map Loc.b) s.bl.length (unown own ns)
 have hnone:∀ g,unown own ns g=none->own' g=none:=fun g hg=>by simp only [own',ownM,hg]
 have hto:To cx w own ns (cx.ok own'):=⟨fun c hc=>⟨hnone c hc.1,hc.2⟩⟩
 obtain ⟨f1,s1⟩:=zzv (nx:=nx) (ok':=cx.ok own') hB hR h6
 obtain ⟨f2,s2⟩:=zzy (nx:=nx) (ok':=cx.ok own') (own':=own') hB h8 hlen
 obtain ⟨f3,s3⟩:=zzz (nx:=nx) (ok':=cx.ok own') (own':=own') hB h8'
 have hw1:=hw.unown ns;have hB1:=hB.freeze (f1.append (f2.append f3));have hext:Ext cx w env own w env (unown own ns):=zcc;have kb:∀ b,za9 cx.low w.heap (cx.ok own') (envM nx m env) own' b (look (keep.map fun l=>Wr.w l (base l)) (.b b)):=fun b=>by
  rw [zgh];split
  . rename_i hm;have h1:=hB1 b;rw [zlL fun p hp he=>hkeep p hp (by rw [he];exact qaG _ hm),hk _ hm]at h1
    have h2:=hb _ hm;have hown:∀ g,unown own ns g=some b->own' g=some b:=fun g hg=>by simp only [own',ownM,hg];rw [if_pos (qaG _ hm)]
    cases hc:base (.b b) with
    | no=>trivial
    | av _=>trivial
    | ln m=>
     rw [hc]at h1 h2;obtain ⟨p,c,e1⟩:=h1;exact ⟨p,c,by rw [zfk h2];exact e1⟩
    | arr mm T e l=>
     rw [hc]at h1 h2;obtain ⟨v',e1,e2⟩:=h1;refine ⟨v',by rw [zfk h2];exact e1,e2.imp id ?_⟩
     rintro ⟨g,cap,cur,rfl,hg,q1,q2,q3,q4,q5,q6⟩;exact ⟨g,cap,cur,rfl,hg,q1,q2,q3,fun i hi=>hto.fits (q4 i hi),fun h=>⟨hown g (q5 h).1,(q5 h).2⟩,fun h=>hto.ok g (q6 h)⟩
    | box T xs=>
     rw [hc]at h1 h2;obtain ⟨g,cs,e1,e2,e3,e4⟩:=h1;exact ⟨g,cs,by rw [zfk h2.1];exact e1,e2,All2.of_mem (fun a ha b hab=>LfR.rename (p:=(· < nx)) (fun b hb=>zfk hb) (h2.2 a ha) (hab.mono (fun c hc _=>⟨hto.ok c hc,rfl⟩) fun _ _ h=>h)) e3,hown g e4⟩
    | rb T xs=>
     rw [hc]at h1 h2;obtain ⟨g,cs,e1,e2,e3,e4⟩:=h1;exact ⟨g,cs,by rw [zfk h2.1];exact e1,e2,All2.of_mem (fun a ha b hab=>LfR.rename (p:=(· < nx)) (fun b hb=>zfk hb) (h2.2 a ha) (hab.mono (fun c hc _=>⟨hto.ok c hc,rfl⟩) fun _ _ h=>h)) e3,hto.ok g e4⟩
  . trivial
 have ks:∀ n,zbQ w.heap (cx.ok own') (envM nx m env) (look (keep.map fun l=>Wr.w l (base l)) (.s n)) (tm.getD n undef):=fun n=>by
  rw [zgh];split
  . rename_i hm;have h1:=hR n;rw [hk _ hm]at h1;have h2:=hb _ hm;cases hc:base (.s n) with
    | av a=>
     rw [hc]at h1 h2;exact AvR.rename (p:=(· < nx)) (fun b hb=>zfk hb) h2 (AvR.mono (fun c hc _=>⟨hto.ok c (zdw hc),rfl⟩) (fun _ _ h=>h) h1)
    | _=>trivial
  . trivial
 refine ⟨envM nx m env,own',⟨hw.os,hw.tape,hw.output,hw.size,fun c q1 q2=>⟨hnone c (hw1.old c q1 q2).1,(hw.old c q1 q2).2⟩,fun c hc=>hnone c (hw1.new c hc),fun b hbn=>?_,fun b v hb=>by rw [zfk (hfix b v hb)];exact hw.fix b v hb⟩,fun b=>?_,fun n=>?_,fun c hc=>hnone c (zaK hc),fun c b hc=>?_⟩
 . simp only [envM]at hbn;split at hbn
   . rename_i hh;exact hh.2
   . split at hbn
     . rename_i hh;show b<nx+64;omega
     . exact absurd rfl hbn
 . rw [Shape.mk',qaR,zoz,qaR];refine s2 ns (fun p hp=>qav.2 ⟨p,by simp [hp],rfl⟩) hto (fun k hk' b' g hm hg=>?_) _ (s3 ns (fun p hp=>qav.2 ⟨p,by simp [hp],rfl⟩) hto (fun b hb'=>⟨hab b hb',fun g hg=>?_⟩) _ kb) b
   . obtain ⟨_,n4⟩:=n2 k hk';obtain ⟨q1,q2,q3,q4⟩:=n4 b' hm;have hg1:unown own ns g=some b':=zbu hg fun hm'=>by
      obtain ⟨p,hp,he⟩:=qav.1 hm';exact q3 p hp he
     simp only [own',ownM,hg1];rw [if_neg q2,zxT (j:=0+k) hm (fun i hi=>by have:=q4 i (by omega);rwa [qaH]at this) (by omega)]
     rfl
   . have hmem:Loc.b b∈keep++s.ab.map Loc.b:=qay _ (qav.2 ⟨b,hb',rfl⟩);have hg1:unown own ns g=some b:=zbu hg fun hm'=>by
      obtain ⟨p,hp,he⟩:=qav.1 hm';exact hkeep p hp (by rw [he];exact hmem)
     simp only [own',ownM,hg1];rw [if_pos hmem]
 . rw [Shape.mk',qaR];refine s1 ns (fun p hp=>qav.2 ⟨p,by simp [hp],rfl⟩) hto _ (fun n=>?_) n
   rw [qaR,zoA,zoB];exact ks n
 . simp only [own',ownM]at hc;cases hq:unown own ns c with
   | none=>rw [hq]at hc;cases hc
   | some b0=>
    have h0:own c=some b0:=by
     unfold unown at hq;cases ho:own c with
     | none=>rw [ho]at hq;cases hq
     | some b1=>
      rw [ho]at hq;simp only at hq
      cases hcn:ns.contains b1 with
      | true=>rw [hcn]at hq;cases hq
      | false=>rw [hcn]at hq;simpa using hq
    refine ⟨b0,h0,fun hm=>?_⟩
    rw [hq]at hc;simp only at hc
    rw [if_pos (qaG _ hm)]at hc;exact (Option.some.inj hc).symm
theorem zzD{s:Shape}{keep:List Loc}{x:s.den}(h:(shT s keep).evs fs=some x)(hS:St cx nt fs act w N)(hk:∀ l∈keep,fs l=base l)(hb:zsM nx keep base)(hab:∀ n∈s.ab,n<nx)(hfix:∀ b v,cx.fix b=some v->b<nx):
 St cx nt (look (s.mk' nx x++keep.map fun l=>Wr.w l (base l))) act w (· < nx+64):=by
 obtain ⟨env,own,hw,hB,hR,hmk⟩:=hS.ex;obtain ⟨env',own',h1,h2,h3,h4,h5⟩:=zh1 h hw hB hR hk hb hab hfix;exact ⟨hS.size,env',own',h1,h2,h3,hmk.mono fun c hc _=>⟨⟨h4 c hc.1,hc.2⟩,rfl⟩⟩
theorem zmw{X Y:Type}{f:X->Option (X⊕Y)}:∀ {n k:Nat} {x:X} {y z:Y},iter f n x=some y->iter f k x=some z->y=z
 | 0,_,_,_,_,h,_=>by simp [iter]at h
 | _,0,_,_,_,_,h=>by simp [iter]at h
 | n+1,k+1,x,y,z,h1,h2=>by
  simp only [iter]at h1 h2;cases hf:f x with
  | none=>simp [hf]at h1
  | some r=>
   cases r with
   | inl x'=>simp only [hf]at h1 h2;exact zmw h1 h2
   | inr y'=>simp only [hf,Option.some.injEq]at h1 h2;rw [<-h1,<-h2]
theorem zqW{X Y:Type}{f:X->Option (X⊕Y)}{x:X}{y:Y}(h:runLoop f x=some y):∃ n,iter f n x=some y:=by
 unfold runLoop at h;split at h
 . rename_i hex;simp only [Option.some.injEq]at h;have:=Classical.choose_spec hex
   rw [h]at this;exact this
 . cases h
theorem zoh{X Y:Type}{f:X->Option (X⊕Y)}{x:X}{y:Y}{n:Nat}(h:iter f n x=some y):runLoop f x=some y:=by
 have hex:∃ y n,iter f n x=some y:=⟨y,n,h⟩
 unfold runLoop;rw [dif_pos hex];obtain ⟨k,hk⟩:=Classical.choose_spec hex;rw [zmw h hk]
def exOf:Ex->Exit
 | .normal=>.normal
 | .exit id=>.exit id
 | .ret=>.ret
theorem Ex.eqb_eq{a b:Ex}(h:Ex.eqb a b=true):a=b:=by
 cases a <;> cases b <;> simp_all [Ex.eqb]
theorem zdG{α β:Type}{t:T α}{f:α×List Loc->Tree β}{b:β}(h:((T.run fs t []).bind f).ev=some b):∃ a rs,t.evs fs=some a/\(f (a,rs)).ev=some b:=by
 rw [Tree.ev_bind]at h;cases hr:(T.run fs t []).ev with
 | none=>simp [hr]at h
 | some r=>
  obtain ⟨a,rs⟩:=r;simp only [hr,qaa]at h;exact ⟨a,rs,T.run_evs hr,h⟩
theorem zis:∀ {st:List Wr} {l:Loc},l ∉ st.filterMap Wr.loc->look st l = .no
 | [],_,_=>rfl
 | .cut::_,_,_=>rfl
 | .w k c::st,l,h=>by
  simp only [List.filterMap_cons,Wr.loc,qas,not_or]at h;simp only [look];rw [zbh (Ne.symm h.1),qaf];exact zis h.2
theorem zoC:∀ {ks:List Loc} {st:List Wr} {l:Loc},look (ks.map (fun l=>Wr.w l .no)++st) l=if l∈ks then .no else look st l
 | [],st,l=>by simp
 | k::ks,st,l=>by
  simp only [qaX,qaM,look];by_cases h:k=l
  . subst h;simp [zaO]
  . rw [zbh h,qaf,zoC];simp [Ne.symm h]
theorem zcb{A:LoopAnn}{st a:List Wr}:look (a++(A.gone++st))=look (a++kept (A.keep st) st):=by
 have base:look (A.gone++st)=look (kept (A.keep st) st):=by
  funext l
  unfold LoopAnn.gone kept;rw [zoC,zgh];by_cases h:l∈A.kills
  . rw [if_pos h,if_neg];intro hm;have:=(qbR.1 hm).2
    simp only [qar,qbr]at this;exact this l h (zaO _)
  . rw [if_neg h];by_cases hm:l∈st.filterMap Wr.loc
    . rw [if_pos];refine qbR.2 ⟨hm,?_⟩;simp only [qar,qbr];intro k hk he;have:l=k:=Classical.byContradiction fun hne=>by rw [zbh hne]at he;cases he
      exact h (this ▸ hk)
    . rw [zis hm,if_neg];exact fun hq=>hm (qbR.1 hq).1
 rw [zaH a (A.gone++st),zaH a (kept (A.keep st) st),base]
theorem zmJ{A:LoopAnn}{st:List Wr}{e:Ex}{env:Nm}{own:Ow}{tm:Array Value}(hw:RW cx w env own N)(hB:RB cx fs w env own)(hR:RS cx fs tm w env own)(hk:∀ l∈(A.keep st),fs l=look st l)(hb:zsM nx (A.keep st) (look st))(hfix:∀ b v,cx.fix b=some v->b<nx):∀ {es:List (Ex×Shape)} {y:Eden es} {o:Out},(∀ p∈es,∀ n∈p.2.ab,n<nx)->(ziE fs (A.keep st) e es).ev=some y->(loopT.outE A nx st es y).ev=some o ->
 o.1=e/\o.2.1=nx+64/\∃ env' own',RW cx w env' own' (· < nx+64)/\RB cx (look (o.2.2++st)) w env' own'/\RS cx (look (o.2.2++st)) tm w env' own'/\(∀ c,own c=none->own' c=none)
 | [],y,_,_,h,_=>by simp [ziE,Tree.ev]at h
 | [p],y,o,hab,h,h2=>by
  simp only [ziE]at h;cases he:Ex.eqb p.1 e with
  | false=>simp [he,Tree.ev]at h
  | true=>
   simp only [he,qah]at h;obtain ⟨x,rs,h3,h4⟩:=zdG h;simp [Tree.ev]at h4;subst h4
   simp only [loopT.outE,Tree.ev,Option.some.injEq]at h2;subst h2;refine ⟨Ex.eqb_eq he,rfl,?_⟩;obtain ⟨env',own',k1,k2,k3,k4,_⟩:=zh1 h3 hw hB hR hk hb (hab p (by simp)) hfix
   refine ⟨env',own',k1,?_,?_,k4⟩ <;> simp only [qaR] <;> rw [zcb] <;> assumption
 | p::q::r,y,o,hab,h,h2=>by
  simp only [ziE]at h;cases he:Ex.eqb p.1 e with
  | false=>
   simp only [he,qaf,Tree.ev_bind]at h;cases hq:(ziE fs (A.keep st) e (q::r)).ev with
   | none=>simp [hq]at h
   | some y'=>
    simp [hq,Tree.ev]at h;subst h
    simp only [loopT.outE,Tree.ev]at h2;exact zmJ hw hB hR hk hb hfix (fun p hp=>hab p (qaF _ hp)) hq h2
  | true=>
   simp only [he,qah]at h;obtain ⟨x,rs,h3,h4⟩:=zdG h;simp [Tree.ev]at h4;subst h4
   simp only [loopT.outE,Tree.ev,Option.some.injEq]at h2;subst h2;refine ⟨Ex.eqb_eq he,rfl,?_⟩;obtain ⟨env',own',k1,k2,k3,k4,_⟩:=zh1 h3 hw hB hR hk hb (hab p (by simp)) hfix
   refine ⟨env',own',k1,?_,?_,k4⟩ <;> simp only [qaR] <;> rw [zcb] <;> assumption
theorem exit_ok{A:LoopAnn}{st:List Wr}{e:Ex}(hS:St cx nt fs act w N)(hk:∀ l∈(A.keep st),fs l=look st l)(hb:zsM nx (A.keep st) (look st))(hfix:∀ b v,cx.fix b=some v->b<nx){es:List (Ex×Shape)}{y:Eden es}{o:Out}(hab:∀ p∈es,∀ n∈p.2.ab,n<nx)(h:(ziE fs (A.keep st) e es).ev=some y)(h2:(loopT.outE A nx st es y).ev=some o):
 o.1=e/\o.2.1=nx+64/\St cx nt (look (o.2.2++st)) act w (· < nx+64):=by
 obtain ⟨env,own,hw,hB,hR,hmk⟩:=hS.ex;obtain ⟨q1,q2,env',own',h1,h2,h3,h4⟩:=zmJ hw hB hR hk hb hfix hab h h2;exact ⟨q1,q2,hS.size,env',own',h1,h2,h3,hmk.mono fun c hc _=>⟨⟨h4 c hc.1,hc.2⟩,rfl⟩⟩
theorem zkk{keep:List Loc}{ws:List Wr}(h:zct keep ws=true){fs:FS}:∀ l∈keep,ovr fs ws l=fs l:=by
 intro l hl;refine zff (fun hm=>?_) (fun hm=>?_)
 . obtain ⟨y,hy,he⟩:=qbO.1 hm;have:=(qaN.1 h) y hy
   cases y with
   | w l' c=>
    simp only [Wr.loc,Option.some.injEq]at he;subst he;simp only [qar,qbr]at this;exact this _ hl (zaO _)
   | cut=>simp [Wr.loc]at he
 . have:=(qaN.1 h) _ hm
   simp at this
theorem zrQ{s:Shape}{nx:Nat}{x:s.den}{keep:List Loc}{st:List Wr}(hs:∀ n∈s.ss,Loc.s n ∉ keep)(hb:∀ j,j<s.bl.length->Loc.b (nx+j) ∉ keep)(ha:∀ n∈s.ab,Loc.b n ∉ keep):∀ l∈keep,look (s.mk' nx x++kept keep st) l=look st l:=by
 intro l hl;have h1:∀ {ss:List Nat} {sl:List Sl} {v:Sden sl} {rest:List Wr},(∀ n∈ss,Loc.s n ∉ keep)->look (mkS nx ss sl v++rest) l=look rest l:=by
  intro ss;induction ss with
  | nil=>intro sl v rest _;cases sl <;> rfl
  | cons n ss ih=>
   intro sl v rest h;cases sl with
   | nil=>rfl
   | cons s sl=>
    simp only [mkS,qaM,look];rw [zbh (fun he=>h n (by simp) (by rw [he];exact hl)),qaf]
    exact ih fun n hn=>h n (by simp [hn])
 have h2:∀ {bl:List Bl} {j:Nat} {v:Bden bl} {rest:List Wr},(∀ k,k<bl.length->Loc.b (nx+(j+k)) ∉ keep)->look (mkB nx j bl v++rest) l=look rest l:=by
  intro bl;induction bl with
  | nil=>intro j v rest _;rfl
  | cons b bl ih=>
   intro j v rest h;simp only [mkB,qaM,look];rw [zbh (fun he=>h 0 (by simp) (by rw [qa9,he];exact hl)),qaf]
   exact ih fun k hk=>by have:=h (k+1) (by simp;omega);rwa [show j+(k+1)=j+1+k by omega]at this
 have h3:∀ {as:List Nat} {bl:List Bl} {v:Bden bl} {rest:List Wr},(∀ n∈as,Loc.b n ∉ keep)->look (mkA nx as bl v++rest) l=look rest l:=by
  intro as;induction as with
  | nil=>intro bl v rest _;cases bl <;> rfl
  | cons n as ih=>
   intro bl v rest h;cases bl with
   | nil=>rfl
   | cons s bl=>
    simp only [mkA,qaM,look];rw [zbh (fun he=>h n (by simp) (by rw [he];exact hl)),qaf]
    exact ih fun n hn=>h n (by simp [hn])
 rw [Shape.mk',qaR,h1 hs,qaR,h2 (j:=0) (fun k hk=>by rw [qaH];exact hb k hk),h3 ha]
 show look (keep.map fun l=>Wr.w l (look st l)) l=_
 rw [zgh,if_pos hl]
end
end Go.VI
namespace Go.VI
open Go Go.RowKit
section
variable {h h':Array Obj} {ok:Nat->Prop} {env:Nm}
def Stay(h h':Array Obj):Prop:=∀ (c:Nat) (cur:Array Value) (T:TypeId) (fz:Nat×Nat),h[c]?=some (.cells cur T fz)->h'[c]?=some (.cells cur T fz)
theorem RowAt.stay{α:Type}{F F':α->List Value->Prop}{size:Nat}{x:Addr}{l:List α}(hr:RowAt h ok F size x l)(hs:Stay h h')(hF:∀ v cs,F v cs->F' v cs):RowAt h' ok F' size x l:=by
 obtain ⟨cur,T,fz,hg,hsz,hf⟩:=hr.row;exact ⟨hr.spot,hr.ok,cur,T,fz,hs _ _ _ _ hg,hsz,fun i hi=>hF _ _ (hf i hi)⟩
theorem Fits.stay(hs:Stay h h'):∀ {t:Ty} {v:t.den} {cs:List Value},Fits h ok t v cs->Fits h' ok t v cs
 | .bool,_,_,hf=>hf
 | .int _,_,_,hf=>hf
 | .unit,_,_,hf=>hf
 | .raw _,_,_,hf=>hf
 | .ifo _ _,_,_,hf=>hf.imp id fun ⟨d,c,h1,h2,h3⟩=>⟨d,c,h1,h2,Fits.stay hs h3⟩
 | .prod a b,v,cs,hf=>by
  obtain ⟨c1,c2,rfl,h1,h2⟩:=hf;exact ⟨c1,c2,rfl,Fits.stay hs h1,Fits.stay hs h2⟩
 | .slice e,l,cs,hf=>by
  obtain ⟨p,c,rfl,hp,hr,hc⟩:=hf;exact ⟨p,c,rfl,hp,fun x hx hne=>(hr x hx hne).stay hs fun _ _=>Fits.stay hs,hc⟩
theorem CpR.stay(hs:Stay h h'):∀ {x:Cp} {v:Value},CpR h ok env x v->CpR h' ok env x v
 | .ptr _ _,_,hf=>hf
 | .imm _ _,_,hf=>Fits.stay hs hf
theorem LfR.stay(hs:Stay h h'):∀ {x:Lf} {v:Value},LfR h ok env x v->LfR h' ok env x v
 | .undef,_,hf=>hf
 | .kb _,_,hf=>hf
 | .imm _ _,_,hf=>Fits.stay hs hf
 | .nil,_,hf=>hf
 | .own _,_,hf=>hf
 | .sub _ _ _ _,_,hf=>hf
 | .bptr _ _,_,hf=>hf
 | .eptr _ _ _ _,_,hf=>hf
 | .iptr _ _ _ _,_,⟨y,h1,h2,h3⟩=>⟨y,h1,h2,h3.stay hs fun _ _=>Fits.stay hs⟩
 | .fn _,_,hf=>hf
 | .nam _,_,hf=>hf
 | .clo _ _ _,_,⟨vs,us,h1,h2,h3⟩=>⟨vs,us,h1,h2.mono fun _ _=>CpR.stay hs,h3.mono fun _ _=>CpR.stay hs⟩
theorem A1R.stay(hs:Stay h h'):∀ {x:A1} {v:Value},A1R h ok env x v->A1R h' ok env x v
 | .one _,_,hf=>LfR.stay hs hf
 | .agg _,_,⟨cs,h1,h2⟩=>⟨cs,h1,h2.mono fun _ _=>LfR.stay hs⟩
theorem AvR.stay(hs:Stay h h'):∀ {x:AV} {v:Value},AvR h ok env x v->AvR h' ok env x v
 | .v _,_,hf=>A1R.stay hs hf
 | .tup _,_,⟨vs,h1,h2⟩=>⟨vs,h1,h2.mono fun _ _=>A1R.stay hs⟩
theorem zbQ.stay(hs:Stay h h'){c:Cell}{v:Value}(hf:zbQ h ok env c v):zbQ h' ok env c v:=by
 cases c with
 | av a=>exact AvR.stay hs hf
 | _=>trivial
theorem za9.stay{B:Nat->Prop}{own:Ow}(hs:Stay h h'){b:Nat}:∀ {c:Cell},za9 B h ok env own b c->za9 B h' ok env own b c
 | .no,_=>trivial
 | .av _,_=>trivial
 | .ln _,hf=>hf
 | .arr m T e l,⟨v,hv,hr⟩=>by
  refine ⟨v,hv,hr.imp id ?_⟩;rintro ⟨g,cap,cur,h1,hg,h2,h3,h4,h5,h6,h7⟩;exact ⟨g,cap,cur,h1,hs _ _ _ _ hg,h2,h3,h4,fun i hi=>Fits.stay hs (h5 i hi),h6,h7⟩
 | .box T xs,⟨g,cs,h1,h2,h3,h4⟩=>⟨g,cs,h1,hs _ _ _ _ h2,h3.mono fun _ _=>LfR.stay hs,h4⟩
 | .rb T xs,⟨g,cs,h1,h2,h3,h4⟩=>⟨g,cs,h1,hs _ _ _ _ h2,h3.mono fun _ _=>LfR.stay hs,h4⟩
end
theorem St.turn{cx:Cx}{nt:Nat}{fs:FS}{tm:Array Value}{d:Deferred}{ds:List Deferred}{w:World}{N:Nat->Prop}(h:St cx nt fs ⟨tm,d::ds⟩ w N):
 ∃ D,d.target = .collected D/\w.heap[D]?=some (.deferred (some []))/\St cx nt fs ⟨tm,ds⟩ (w.putObj D (.deferred none)) N:=by
 obtain ⟨env,own,hw,hb,hs,Ds,e1,e2,e3⟩:=h.ex;cases Ds with
 | nil=>simp at e1
 | cons D Ds=>
  simp only [qaX,List.cons.injEq]at e1;obtain ⟨rfl,e1⟩:=e1;obtain ⟨n1,n2⟩:=qbD.1 e2;obtain ⟨hD,hok,hge⟩:=e3 D (qbg ..);have hsz:(w.putObj D (.deferred none)).heap.size=w.heap.size:=by simp [World.putObj]
  have hother:∀ c,c≠D->(w.putObj D (.deferred none)).heap[c]?=w.heap[c]?:=fun c hc=>World.putObj_heap_other hc
  have hst:Stay w.heap (w.putObj D (.deferred none)).heap:=by
   intro c cur T fz hc;rw [hother c (fun e=>by subst e;rw [hD]at hc;cases hc)];exact hc
  refine ⟨D,rfl,hD,h.size,env,own,⟨hw.os,hw.tape,hw.output,by rw [hsz];exact hw.size,fun c h1 h2=>?_,fun c hc=>hw.new c (by rw [hsz]at hc;exact hc),hw.names,hw.fix⟩,fun b=>za9.stay hst (hb b),fun n=>zbQ.stay hst (hs n),Ds,e1,n2,fun D' hD'=>?_⟩
  . obtain ⟨q1,q2⟩:=hw.old c h1 h2;refine ⟨q1,?_⟩;rw [hother c (by rintro rfl;rcases hge with h | h;exact absurd h1 (by omega);exact h2 h.1)];exact q2
  . obtain ⟨q1,q2,q3⟩:=e3 D' (qaF _ hD');exact ⟨by rw [hother D' (fun e=>n1 (e ▸ hD'))];exact q1,q2,q3⟩
theorem zdh{F:Fence}{n:Nat}{P:Program}{fn:Func}{R:Ending->World->Prop}{cx:Cx}{nt:Nat}{fs:FS}{tm:Array Value}{N:Nat->Prop}:∀ (ds:List Deferred) (w:World),St cx nt fs ⟨tm,ds⟩ w N ->
 (∀ w',St cx nt fs ⟨tm,[]⟩ w' N->∃ v,(results fn tm).run P w' = .ok v w'/\R (.returned v) w')->LeavesInM F n P fn tm R ds .returning w
 | [],w,h,k=>k w h
 | d::ds,w,h,k=>by
  obtain ⟨D,h1,h2,h3⟩:=h.turn;exact ⟨by simp,.inl ⟨D,_,h1,run_takeDeferred h2,zdh ds _ h3 k⟩⟩
end Go.VI
namespace Go.VI
open Go Go.RowKit
def encV:(t:Ty)->t.den->List Value
 | .bool,b=>[.bool b]
 | .int k,n=>[.int k n]
 | .prod a b,v=>encV a v.1++encV b v.2
 | _,_=>[]
theorem zmM{h:Array Obj}{ok:Nat->Prop}:∀ {t:Ty} (v:t.den),t.plain=true->Fits h ok t v (encV t v)
 | .bool,_,_=>rfl
 | .int _,_,_=>rfl
 | .unit,_,_=>rfl
 | .prod a b,v,hp=>by
  simp only [Ty.plain,qae]at hp;exact ⟨_,_,rfl,zmM v.1 hp.1,zmM v.2 hp.2⟩
 | .slice _,_,hp=>by simp [Ty.plain]at hp
 | .raw _,_,hp=>by simp [Ty.plain]at hp
 | .ifo _ _,_,hp=>by simp [Ty.plain]at hp
theorem zmL{h:Array Obj}{ok:Nat->Prop}:∀ {t:Ty} {v:t.den} {cs:List Value},t.plain=true->Fits h ok t v cs->cs=encV t v
 | .bool,_,_,_,hf=>hf
 | .int _,_,_,_,hf=>hf
 | .unit,_,_,_,hf=>hf
 | .prod a b,v,cs,hp,hf=>by
  simp only [Ty.plain,qae]at hp;obtain ⟨c1,c2,rfl,h1,h2⟩:=hf;rw [zmL hp.1 h1,zmL hp.2 h2];rfl
 | .slice _,_,_,hp,_=>by simp [Ty.plain]at hp
 | .raw _,_,_,hp,_=>by simp [Ty.plain]at hp
 | .ifo _ _,_,_,hp,_=>by simp [Ty.plain]at hp
def encL:(ts:List Ty)->Tden ts->List Value
 | [],_=>[]
 | t::ts,v=>zaW t (encV t v.1)::encL ts v.2
def encs(ts:List Ty)(v:Tden ts):Array Value:=(encL ts v).toArray
theorem zp6:∀ (ts:List Ty) (v:Tden ts),(encL ts v).length=ts.length
 | [],_=>rfl
 | _::ts,v=>by rw [encL,qaJ,qaJ,zp6 ts v.2]
structure Went (B:Nat) (W W':World):Prop where
 os:W'.os=W.os
 tape:W'.tape=W.tape
 output:W'.output=W.output
 size:W.heap.size<=W'.heap.size
 old:∀ (c:Nat) (o:Obj),W.heap[c]?=some o->(o.isCells=true\/c<B)->W'.heap[c]?=some o
theorem Went.refl{B:Nat}(W:World):Went B W W:=⟨rfl,rfl,rfl,qao _,fun _ _ h _=>h⟩
theorem Went.trans{B:Nat}{W W1 W2:World}(h:Went B W W1)(k:Went B W1 W2):Went B W W2 :=
 ⟨k.os.trans h.os,k.tape.trans h.tape,k.output.trans h.output,qaA h.size k.size,fun c o q r=>k.old c o (h.old c o q r) r⟩
theorem Went.mono{B B':Nat}{W W':World}(h:Went B W W')(hB:B'<=B):Went B' W W':=⟨h.os,h.tape,h.output,h.size,fun c o q r=>h.old c o q (r.imp id fun r=>qbq r hB)⟩
theorem Went.alloc{B:Nat}(W:World)(o:Obj):Went B W (W.alloc o) :=
 ⟨rfl,rfl,rfl,by simp,fun c o' h _=>(Below.heap_alloc W o c (qaL.1 h).1).trans h⟩
theorem Went.put{B:Nat}{W:World}{l:Nat}{o:Obj}(o':Obj)(hB:B<=l)(h:W.heap[l]?=some o)(hc:o.isCells=false):Went B W (W.putObj l o') :=
 ⟨rfl,rfl,rfl,by simp,fun c o2 h2 q=>by
  by_cases e:c=l
  . subst e;rw [h]at h2;cases h2
    rcases q with q | q
    . rw [hc]at q;cases q
    . omega
  . exact (World.putObj_heap_other e).trans h2⟩
def Free{α:Type}(B:Nat)(J:(Nat->Prop)->List α->World->Prop):Prop :=
 ∀ (X X':Nat->Prop) (s:List α) (W W':World),J X s W->Went B W W'->(∀ c,X' c->(X c\/W.heap.size<=c)/\c<W'.heap.size)->J X' s W'
structure Kept (X:Nat->Prop) (W W':World):Prop where
 size:W.heap.size<=W'.heap.size
 old:∀ c,X c->W'.heap[c]?=W.heap[c]?
theorem Kept.refl(X:Nat->Prop)(W:World):Kept X W W:=⟨qao _,fun _ _=>rfl⟩
theorem Kept.trans{X:Nat->Prop}{W W1 W2:World}(h:Kept X W W1)(k:Kept X W1 W2):Kept X W W2:=⟨qaA h.size k.size,fun c q=>(k.old c q).trans (h.old c q)⟩
theorem Kept.put{X:Nat->Prop}{W:World}{l:Nat}(o:Obj)(hl:¬X l):Kept X W (W.putObj l o):=⟨by simp,fun c q=>World.putObj_heap_other (fun e=>hl (e ▸ q))⟩
def zo1{α:Type}(P:Program)(g:FuncId)(lb:Array Value)(encs:α->Array Value)(X0:Nat->Prop)(L:List α)(w:World):Prop :=
 ∀ (l:Nat) (J Jx:(Nat->Prop)->List α->World->Prop) (W:World),w.heap.size<=W.heap.size->(∀ c,X0 c->W.heap[c]?=w.heap[c]?)->Free W.heap.size J->Free W.heap.size Jx ->
  (∀ X pre x W1,J X pre W1->(∀ c,X0 c->X c)->(pre++[x]) <+: L->YieldAt Fence.wide 0 P l (encs x) W1 fun e W'=>
   (e = .returned (.bool true)/\J X (pre++[x]) W'/\Kept X W1 W')\/(e = .returned (.bool false)/\Jx X (pre++[x]) W'/\Kept X W1 W')) ->
  J X0 [] W->Calls P g (#[.func (.yield l) #[] #[]]++lb) W fun e W'=>(∃ v,e = .returned v)/\∃ X,J X L W'\/∃ pre,pre <+: L/\Jx X pre W'
def Gen.Sound(P:Program)(G:Gen):Prop :=
 G.ts.all Ty.plain=true/\∀ (w:World) (ok:Nat->Prop) (d:Pden G.ps) (lb:List Value) (gs:List Nat) (L:List (Tden G.ts)),zdp w.heap ok G.ps d lb gs->(∀ c,ok c->c<w.heap.size)->G.F d=some L ->
  zo1 P G.f lb.toArray (encs G.ts) (fun c=>ok c\/c∈gs) L w
def Ann.Sound(P:Program)(ann:Ann):Prop:=∀ A∈ann,∀ G,A.gen=some G->zbZ P G.f/\G.Sound P
theorem Ann.find_ok{P:Program}{ann:Ann}(h:ann.Sound P){k:Nat}{A:LoopAnn}{G:Gen}(hf:ann.find k=some A)(hG:A.gen=some G):zbZ P G.f/\G.Sound P:=by
 induction ann with
 | nil=>simp [Ann.find]at hf
 | cons r te ih=>
  simp only [Ann.find]at hf;cases hc:Nat.beq r.id k with
  | true=>simp [hc]at hf;subst hf;exact h r (by simp) G hG
  | false=>simp [hc]at hf;exact ih (fun E hE=>h E (by simp [hE])) hf
def Ann.bare:Ann->Bool
 | []=>true
 | A::r=>A.gen.isNone&&Ann.bare r
theorem Ann.Sound.of_bare{P:Program}:∀ {ann:Ann},ann.bare=true->ann.Sound P
 | [],_=>fun _ h=>nomatch h
 | A::r,h=>by
  simp only [Ann.bare,qae]at h;intro B hB G hG;rcases qas.1 hB with rfl | hB
  . rw [hG]at h;simp at h
  . exact Ann.Sound.of_bare h.2 B hB G hG
theorem Ann.Sound.nil{P:Program}:Ann.Sound P []:=fun _ h=>nomatch h
theorem Ann.Sound.consG{P:Program}{r:Ann}{id:Nat}{k:List Loc}{h:Shape}{e:List (Ex×Shape)}{G0:Gen}(h0:zbZ P G0.f/\G0.Sound P)(hr:Ann.Sound P r):Ann.Sound P (⟨id,k,h,e,some G0⟩::r):=fun B hB G hG=>by
 rcases qas.1 hB with rfl | hB
 . cases hG;exact h0
 . exact hr B hB G hG
section
variable {α:Type} {P:Program}
def zyE(l D:Nat)(rec:Obj)(X:Nat->Prop)(I:(Nat->Prop)->List α->World->Prop)(Ix:Code->(Nat->Prop)->List α->World->Prop)(s:List α)(W:World):Exit->Act->World->Prop:=fun e _ W'=>
 W'.heap[l]?=some rec/\W'.heap[D]?=some (.deferred (some []))/\match e with
 | .normal=>Kept X W W'/\I X s W'
 | .ret=>Kept X W W'/\Ix .ret X s W'
 | .exit id=>Kept X W W'/\Ix (.exit id) X s W'
 | _=>False
set_option maxHeartbeats 1000000 in
theorem zkj{g:Operand}{ps:Array Tmp}{assign body:Code}{Q:Exit->Act->World->Prop}{a:Act}{w:World}{gf:FuncId}{lb:Array Value}{m0:Nat}(hg:a.eval g = .func (.func gf) #[] lb)(eg:zbZ P gf)
 {encs:α->Array Value} {X0:Nat->Prop} {L:List α} (hseq:zo1 P gf lb encs X0 L w) (hX0:∀ c,X0 c->c<w.heap.size) (hps:∀ x,(encs x).size=ps.size)
 (I:(Nat->Prop)->List α->World->Prop) (Ix:Code->(Nat->Prop)->List α->World->Prop) (hI:Free w.heap.size I) (hIx:∀ c,Free w.heap.size (Ix c)) (h0:I X0 [] w)
 (hround:∀ (l:Nat) (X:Nat->Prop) (pre:List α) (x:α) (W:World) (o:Obj),o.isCells=false->l=w.heap.size+1->¬X l->¬X w.heap.size->(∀ c,X c->c<W.heap.size)->W.heap[l]?=some o->W.heap[w.heap.size]?=some (.deferred (some []))->I X pre W->(∀ c,X0 c->X c)->(pre++[x]) <+: L ->
  assign.wpIn (Fw (some l)) 0 P (Exit.then (fun a₁ W1=>W1.heap[l]?=some o/\∀ o',o'.isCells=false ->
   body.wpIn (Fw (some l)) 0 P (zyE l w.heap.size o' X I Ix (pre++[x]) W) a₁ (W1.putObj l o')) (fun _ _ _=>False))
   { tmps:=(ps.zip (encs x)).foldl (fun t (p,v)=>t.setIfInBounds p v) a.tmps,defers:=[] } W)
 (hdone:∀ (X:Nat->Prop) (W:World),I X L W->w.heap.size<W.heap.size->¬X w.heap.size->W.heap[w.heap.size]?=some (.deferred (some []))->Q .normal { a with defers:={ target:=.collected w.heap.size,args:=#[] }::a.defers } W)
 (hstop:∀ (X:Nat->Prop) (c:Code) (pre:List α) (W:World),Ix c X pre W->w.heap.size<W.heap.size->¬X w.heap.size->W.heap[w.heap.size]?=some (.deferred (some []))->c.wpIn Fence.wide m0 P Q { a with defers:={ target:=.collected w.heap.size,args:=#[] }::a.defers } W) :
 (Code.rangeFunc g ps assign body).wpIn Fence.wide m0 P Q a w:=by
 refine wpIn_rangeFunc ?_;intro fn _;obtain ⟨rec,hrec⟩:∃ rec:LoopState->Option Code->Loop,rec=fun st pe=>{ state:=st,pending:=pe,fn,tmps:=a.tmps,params:=ps,assign,body,defers:=w.heap.size }:=⟨_,rfl⟩
 obtain ⟨W1,hW1⟩:∃ W1,(w.alloc (.deferred (some []))).alloc (.loop (rec .ready none))=W1:=⟨_,rfl⟩
 have s1:W1.heap.size=w.heap.size+2:=by rw [<-hW1];simp
 have g1:Went w.heap.size w W1:=by rw [<-hW1];exact (Went.alloc _ _).trans (Went.alloc _ _)
 have l1:W1.heap[w.heap.size+1]?=some (.loop (rec .ready none)):=by
  rw [<-hW1];have:=World.alloc_heap_new (w.alloc (.deferred (some []))) (.loop (rec .ready none));rwa [World.size_alloc]at this
 have d1:W1.heap[w.heap.size]?=some (.deferred (some [])):=by
  rw [<-hW1];exact (Below.heap_alloc _ _ _ (by simp)).trans (World.alloc_heap_new w _)
 obtain ⟨out,hout⟩:∃ out:(Nat->Prop)->World->Prop,out=fun X W=>(¬X (w.heap.size+1)/\¬X w.heap.size)/\(∀ c,X c->c<W.heap.size)/\W.heap[w.heap.size]?=some (.deferred (some [])):=⟨_,rfl⟩
 obtain ⟨J,hJ⟩:∃ J:(Nat->Prop)->List α->World->Prop,J=fun X s W=>I X s W/\out X W/\W.heap[w.heap.size+1]?=some (.loop (rec .ready none)):=⟨_,rfl⟩
 obtain ⟨Jx,hJx⟩:∃ Jx:(Nat->Prop)->List α->World->Prop,Jx=fun X s W=>∃ c,Ix c X s W/\out X W/\W.heap[w.heap.size+1]?=some (.loop (rec .done (some c))):=⟨_,rfl⟩
 have fout:∀ {X X':Nat->Prop} {W W':World},w.heap.size+1<W.heap.size->Went W1.heap.size W W'->(∀ c,X' c->(X c\/W.heap.size<=c)/\c<W'.heap.size)->out X W->out X' W':=fun hs hw h n=>by
  rw [hout]at n ⊢
  exact ⟨⟨fun q=>(h _ q).1.elim n.1.1 (by omega),fun q=>(h _ q).1.elim n.1.2 (by omega)⟩,fun c q=>(h c q).2,hw.old _ _ n.2.2 (.inr (by omega))⟩
 have fJ:Free W1.heap.size J:=by
  rw [hJ];rintro X X' s W W' ⟨q1,q2,q3⟩ hw hX;have:=(qaL.1 q3).1
  exact ⟨hI _ _ _ _ _ q1 (hw.mono (by omega)) hX,fout this hw hX q2,hw.old _ _ q3 (.inr (by omega))⟩
 have fJx:Free W1.heap.size Jx:=by
  rw [hJx];rintro X X' s W W' ⟨c,q1,q2,q3⟩ hw hX;have:=(qaL.1 q3).1
  exact ⟨c,hIx _ _ _ _ _ _ q1 (hw.mono (by omega)) hX,fout this hw hX q2,hw.old _ _ q3 (.inr (by omega))⟩
 have rnd:∀ (X:Nat->Prop) (pre:List α) (x:α) (W:World),J X pre W->(∀ c,X0 c->X c)->(pre++[x]) <+: L->YieldAt Fence.wide 0 P (w.heap.size+1) (encs x) W fun e W'=>
  (e = .returned (.bool true)/\J X (pre++[x]) W'/\Kept X W W')\/(e = .returned (.bool false)/\Jx X (pre++[x]) W'/\Kept X W W'):=by
  rw [hJ,hJx];rintro X pre x W ⟨hi,ho,hl⟩ hsub hpre;have ho':=ho;rw [hout]at ho'
  obtain ⟨⟨n1,n2⟩,hXs,hd⟩:=ho';have hlt:w.heap.size+1<W.heap.size:=(qaL.1 hl).1;have hy:=run_yield (P:=P) (args:=encs x) hl (by rw [hrec];exact hps x)
  rw [hrec]at hy;refine ⟨fn,_,assign,body,hy,roundIn_of_wpIn (F:=Fence.wide) trivial ?_⟩
  refine wpIn_mono (hround (w.heap.size+1) X pre x W _ rfl rfl n1 n2 hXs hl hd hi hsub hpre) ?_;intro e a1 Wa hp;cases e with
  | normal=>
   obtain ⟨l2,hb⟩:=hp;refine ⟨_,run_beginRound l2 (by rw [hrec]),?_⟩
   refine wpIn_mono (hb _ rfl) ?_;intro e a3 W3 hq;obtain ⟨l3,d3,hq⟩:=hq;have hlt3:=(qaL.1 l3).1;have fin:∀ (jump:Option Code),∃ o',(Instr.endRound (w.heap.size+1) jump).run P W3 = .ok (.bool jump.isNone) (W3.putObj (w.heap.size+1) o')/\o' = .loop (rec (if jump.isNone then .ready else .done) jump):=fun jump=>by
    have:=run_endRound (P:=P) jump l3
    exact ⟨_,this,by rw [hrec]⟩
   have hwt:∀ o',Went w.heap.size W3 (W3.putObj (w.heap.size+1) o'):=fun o'=>Went.put o' (by omega) l3 rfl
   have hXX:(∀ c,X c->c<W3.heap.size)->∀ o' c,X c->(X c\/W3.heap.size<=c)/\c<(W3.putObj (w.heap.size+1) o').heap.size:=fun h o' c q=>⟨.inl q,by simpa using h c q⟩
   have hX3:W.heap.size<=W3.heap.size->∀ c,X c->c<W3.heap.size:=fun h c q=>qbq (hXs c q) h
   have hfo:W.heap.size<=W3.heap.size->∀ o',out X (W3.putObj (w.heap.size+1) o'):=fun h o'=>by
    rw [hout];exact ⟨⟨n1,n2⟩,fun c q=>by simpa using hX3 h c q,(World.putObj_heap_other (by omega)).trans d3⟩
   cases e with
   | normal=>
    obtain ⟨k3,i3⟩:=hq;obtain ⟨o',r1,r2⟩:=fin none;have hs:W.heap.size<=W3.heap.size:=k3.size
    refine ⟨_,_,r1,.inl ⟨rfl,⟨hI _ _ _ _ _ i3 (hwt _) (hXX (hX3 hs) _),hfo hs _,by rw [r2];exact World.putObj_heap_same hlt3⟩,k3.trans (Kept.put _ n1)⟩⟩
   | ret=>
    obtain ⟨k3,i3⟩:=hq;have hs:=k3.size;obtain ⟨o',r1,r2⟩:=fin (some .ret);exact ⟨_,_,r1,.inr ⟨rfl,⟨.ret,hIx _ _ _ _ _ _ i3 (hwt _) (hXX (hX3 hs) _),hfo hs _,by rw [r2];exact World.putObj_heap_same hlt3⟩,k3.trans (Kept.put _ n1)⟩⟩
   | exit id=>
    obtain ⟨k3,i3⟩:=hq;have hs:=k3.size;obtain ⟨o',r1,r2⟩:=fin (some (.exit id));exact ⟨_,_,r1,.inr ⟨rfl,⟨.exit id,hIx _ _ _ _ _ _ i3 (hwt _) (hXX (hX3 hs) _),hfo hs _,by rw [r2];exact World.putObj_heap_same hlt3⟩,k3.trans (Kept.put _ n1)⟩⟩
   | _=>exact hq.elim
  | _=>exact hp.elim
 have st:J X0 [] W1:=by
  rw [hJ,hout];exact ⟨hI _ _ _ _ _ h0 g1 fun c hc=>⟨.inl hc,by have:=hX0 c hc;omega⟩,⟨⟨fun q=>by have:=hX0 _ q;omega,fun q=>by have:=hX0 _ q;omega⟩,fun c hc=>by have:=hX0 c hc;omega,d1⟩,l1⟩
 have same:∀ c,X0 c->W1.heap[c]?=w.heap[c]?:=fun c hc=>by
  have hlt:=hX0 c hc;have:w.heap[c]?=some w.heap[c]:=by simp [hlt]
  rw [this];exact g1.old c _ this (.inr hlt)
 have main:=hseq (w.heap.size+1) J Jx W1 (by omega) same fJ fJx rnd st
 have eg':∀ args w,(callFunc gf args).run P w = .ok (.enter gf args) w:=eg
 refine ⟨w.heap.size+1,[{ target:=.collected w.heap.size,args:=#[] }],W1,{ target:=.fn (.func gf) lb,args:=#[.func (.yield (w.heap.size+1)) #[] #[]] },W1,gf,
  #[.func (.yield (w.heap.size+1)) #[] #[]]++lb,W1,?_,?_,?_,?_,?_,?_⟩
 . rw [<-hW1,hrec];exact run_enterLoop_outer _ _ _ _ _
 . simp only [resolve,hg];simp [go_sem]
 . exact fun _ _=>trivial
 . simp [invoke,go_sem,eg']
 . exact fun h=>absurd h (by simp [Fence.wide])
 refine callsIn_wide.2 (Calls.mono main ?_)
 . rw [hJ,hJx,hout];rintro e W2 ⟨⟨v,rfl⟩,X,(⟨i2,⟨⟨n1,n2⟩,hXs,d2⟩,l2⟩ | ⟨pre,_,c,i2,⟨⟨n1,n2⟩,hXs,d2⟩,l2⟩)⟩
   . have hlt:=(qaL.1 l2).1;exact ⟨none,_,by have:=run_endLoop (P:=P) l2 (by rw [hrec];simp);rw [hrec]at this;exact this,hdone X _ (hI _ _ _ _ _ i2 (Went.put _ (by omega) l2 rfl) fun c q=>⟨.inl q,by simpa using hXs c q⟩) (by simp;omega) n2 ((World.putObj_heap_other (by omega)).trans d2)⟩
   . have hlt:=(qaL.1 l2).1;exact ⟨some c,_,by have:=run_endLoop (P:=P) l2 (by rw [hrec];simp);rw [hrec]at this;exact this,hstop X c pre _ (hIx _ _ _ _ _ _ i2 (Went.put _ (by omega) l2 rfl) fun c q=>⟨.inl q,by simpa using hXs c q⟩) (by simp;omega) n2 ((World.putObj_heap_other (by omega)).trans d2)⟩
end
end Go.VI
namespace Go.VI
open Go Go.RowKit
theorem Went.stay{B:Nat}{w w':World}(g:Went B w w'):Stay w.heap w'.heap:=fun c cur T fz h=>g.old c _ h (.inl rfl)
def Cx.round(cx:Cx)(W:World)(env:Nm)(own:Ow)(bs:List Nat):Cx:=⟨W,fun c=>c<W.heap.size/\cx.ok own c,fun c=>unown own bs c≠none,env,cx.low⟩
section
variable {cx:Cx} {nt B:Nat} {fs fs' fs2:FS} {W W':World} {env:Nm} {own:Ow} {N N':Nat->Prop} {tm tmr:Array Value} {bs:List Nat} {act:Act}
theorem RW.went(hw:RW cx W env own N)(hB:cx.w0.heap.size<=B)(g:Went B W W'):RW cx W' env own N :=
 ⟨g.os.trans hw.os,g.tape.trans hw.tape,g.output.trans hw.output,qaA hw.size g.size,fun c h1 h2=>by
  obtain ⟨q1,q2⟩:=hw.old c h1 h2;have hlt:c<W.heap.size:=qbq h1 hw.size;have he:W.heap[c]?=some W.heap[c]:=by simp [hlt]
  exact ⟨q1,(g.old c _ he (.inr (by omega))).trans (he.symm.trans q2)⟩,fun c hc=>hw.new c (qaA g.size hc),hw.names,hw.fix⟩
theorem RB.stay(hb:RB cx fs W env own)(h:Stay W.heap W'.heap):RB cx fs W' env own:=fun b=>za9.stay h (hb b)
theorem RS.stay(hs:RS cx fs tm W env own)(h:Stay W.heap W'.heap):RS cx fs tm W' env own:=fun n=>zbQ.stay h (hs n)
theorem zyD(hw:RW cx W env own N)(hb:RB cx fs W env own)(hr:∀ b,fs' (.b b) = .no\/(b ∉ bs/\fs' (.b b)=fs (.b b)))(hs:RS cx fs' tmr W env own)(hnt:tmr.size=nt):St (cx.round W env own bs) nt fs' ⟨tmr,[]⟩ W N:=by
 have hok:∀ c,cx.ok own c->c<W.heap.size->(cx.round W env own bs).ok (unown own bs) c/\W.heap[c]?=W.heap[c]?:=fun c h hl=>⟨⟨zaK h.1,.inl ⟨hl,h⟩⟩,rfl⟩
 refine ⟨hnt,env,unown own bs,⟨rfl,rfl,rfl,qao _,fun c _ h=>⟨Classical.not_not.1 h,rfl⟩,fun c hc=>zaK (hw.new c hc),hw.names,fun _ _ h=>h⟩,fun b=>?_,fun n=>?_,.nil⟩
 . rcases hr b with h | ⟨hnb,h⟩
   . rw [h];trivial
   . rw [h];exact (hb b).conv (fun g hg h=>.inr ⟨by show unown own bs g≠none;rw [zbu hg hnb];simp,h⟩) hok (fun _ _ h=>h) fun g hg=>⟨zbu hg hnb,rfl⟩
 . have:=hs n
   cases hc:fs' (.s n) with
   | av a=>rw [hc]at this;exact AvR.mono hok (fun _ _ h=>h) this
   | _=>trivial
theorem St.putl{l:Nat}{o:Obj}(o':Obj)(h:St cx nt fs act W N)(hl:cx.w0.heap[l]?=some o)(ho:o.isCells=false)(hn:¬cx.outer l):W.heap[l]?=some o/\St { cx with w0:=cx.w0.putObj l o' } nt fs act (W.putObj l o') N:=by
 obtain ⟨env,own,hw,hb,hs,Ds,e1,e2,e3⟩:=h.ex;have hlt:=(qaL.1 hl).1;obtain ⟨q1,q2⟩:=hw.old l hlt hn;have hWl:W.heap[l]?=some o:=q2.trans hl
 have hsz:(cx.w0.putObj l o').heap.size=cx.w0.heap.size:=by simp
 have hlow:({ cx with w0:=cx.w0.putObj l o' }:Cx).low=cx.low:=by unfold Cx.low;simp only [hsz]
 have hok:({ cx with w0:=cx.w0.putObj l o' }:Cx).ok=cx.ok:=by funext o c;simp only [Cx.ok,hlow]
 have hst:Stay W.heap (W.putObj l o').heap:=(Went.put (B:=0) o' (qbe _) hWl ho).stay
 refine ⟨hWl,h.size,env,own,⟨hw.os,hw.tape,hw.output,by simpa using hw.size,fun c h1 h2=>?_,fun c hc=>hw.new c (by simpa using hc),hw.names,hw.fix⟩,?_,?_,Ds,e1,e2,?_⟩
 . by_cases hc:c=l
   . subst hc;exact ⟨q1,by rw [World.putObj_heap_same (qaL.1 hWl).1];exact (World.putObj_heap_same hlt).symm⟩
   . obtain ⟨r1,r2⟩:=hw.old c (by simpa using h1) h2
     exact ⟨r1,by rw [World.putObj_heap_other hc,World.putObj_heap_other hc];exact r2⟩
 . intro b;rw [hlow,hok];exact za9.stay hst (hb b)
 . intro n;rw [hok];exact zbQ.stay hst (hs n)
 . intro D hD;obtain ⟨r1,r2,r3⟩:=e3 D hD;refine ⟨?_,by rw [hok];exact r2,by rw [hlow];exact r3⟩
   rw [World.putObj_heap_other (by rintro rfl;rcases r3 with h | h;exact absurd hlt (by omega);exact hn h.1)];exact r1
theorem zvE(hw:RW cx W env own N)(hb:RB cx fs W env own)(hs:RS cx fs tm W env own)(h':St (cx.round W env own bs) nt fs' act W' N')
 (hf:∀ b,fs2 (.b b)=if b∈bs then fs (.b b) else fs' (.b b)) (hf2:∀ n,fs2 (.s n)=fs (.s n)) :
 ∃ env' own',RW cx W' env' own' N'/\RB cx fs2 W' env' own'/\RS cx fs2 tm W' env' own'/\W.heap.size<=W'.heap.size/\(∀ c,c<W.heap.size->unown own bs c=none->own' c=own c/\W'.heap[c]?=W.heap[c]?):=by
 obtain ⟨env',own1,hw',hb',hs',-⟩:=h'.ex;have k5:∀ c,c<W.heap.size->unown own bs c=none->own1 c=none/\W'.heap[c]?=W.heap[c]?:=fun c hc h=>hw'.old c hc (fun q=>q h)
 have k6:∀ b x,env b=some x->env' b=some x:=fun b x h=>hw'.fix b x h
 have ks:W.heap.size<=W'.heap.size:=hw'.size
 let own':Ow:=fun g=>match own1 g with
  | some x=>some x
  | none=>if unown own bs g=none then own g else none
 have o1:∀ c,c<W.heap.size->unown own bs c=none->own' c=own c:=fun c hc h=>by simp only [own',(k5 c hc h).1,h,if_true]
 have onone:∀ c,own c=none->own1 c=none->own' c=none:=fun c h1 h2=>by simp only [own',h2,h1,ite_self]
 have oge:∀ c,W.heap.size<=c->own1 c=none->own' c=none:=fun c hc h=>onone c (hw.new c hc) h
 have osome:∀ c b,own1 c=some b->own' c=some b:=fun c b h=>by simp only [own',h]
 have hokW:∀ c,cx.ok own c->c<W.heap.size->cx.ok own' c/\W'.heap[c]?=W.heap[c]?:=fun c hc hl=>by
  obtain ⟨q1,q2⟩:=k5 c hl (zaK hc.1);exact ⟨⟨onone c hc.1 q1,hc.2⟩,q2⟩
 have hok1:∀ c,(cx.round W env own bs).ok own1 c->c<W'.heap.size->cx.ok own' c/\W'.heap[c]?=W'.heap[c]?:=fun c hc _=>by
  refine ⟨?_,rfl⟩;rcases hc.2 with ⟨hl,h⟩ | h | ⟨h,hlow⟩
  . exact (hokW c h hl).1
  . exact ⟨oge c h hc.1,.inr (.inl (qaA hw.size h))⟩
  . refine ⟨?_,.inr hlow⟩;have h:unown own bs c≠none:=h;simp only [own',hc.1,if_neg h]
 refine ⟨env',own',⟨hw'.os.trans hw.os,hw'.tape.trans hw.tape,hw'.output.trans hw.output,qaA hw.size ks,fun c h1 h2=>?_,fun c hc=>oge c (qaA ks hc) (hw'.new c hc),hw'.names,fun b v h=>k6 b v (hw.fix b v h)⟩,fun b=>?_,fun n=>?_,ks,fun c hc h=>⟨o1 c hc h,(k5 c hc h).2⟩⟩
 . obtain ⟨q1,q2⟩:=hw.old c h1 h2;have hlt:c<W.heap.size:=qbq h1 hw.size;obtain ⟨q3,q4⟩:=k5 c hlt (zaK q1);exact ⟨onone c q1 q3,q4.trans q2⟩
 . rw [hf b];split
   . rename_i hm;refine (hb b).conv (fun g hg h=>h) hokW k6 fun g hg=>?_
     have hu:=zdt hg hm;have hlt:=hw.lt hg;exact ⟨(o1 g hlt hu).trans hg,(k5 g hlt hu).2⟩
   . exact (hb' b).conv (fun g hg h=>h.elim (fun h=>.inl (qaA hw.size h)) fun h=>h.2) hok1 (fun _ _ h=>h) fun g hg=>⟨osome g b hg,rfl⟩
 . rw [hf2 n];have:=hs n
   cases hc:fs (.s n) with
   | av a=>rw [hc]at this;exact AvR.mono hokW k6 this
   | _=>trivial
end
structure StX (cx:Cx) (nt:Nat) (fs:FS) (tm:Array Value) (ds:List Deferred) (w:World) (N:Nat->Prop) (X:Nat->Prop) (bs:List Nat) (B:Nat):Prop where
 size:tm.size=nt
 lo:cx.w0.heap.size<=B
 ex:∃ env own,RW cx w env own N/\RB cx fs w env own/\RS cx fs tm w env own/\znx cx.low w.heap (fun D=>cx.ok own D/\D<B) ds/\(own B=none/\own (B+1)=none)/\∀ c b,X c->own c=some b->b∈bs
section
variable {cx:Cx} {nt B:Nat} {fs fs' fs2:FS} {W W':World} {N N':Nat->Prop} {tm tmr:Array Value} {bs:List Nat} {ds:List Deferred} {X X':Nat->Prop}
theorem znx.went{ok:Nat->Prop}{A:Nat->Prop}(h:znx A W.heap (fun D=>ok D/\D<B) ds)(g:Went B W W'):znx A W'.heap (fun D=>ok D/\D<B) ds:=by
 obtain ⟨Ds,e1,e2,e3⟩:=h;exact ⟨Ds,e1,e2,fun D hD=>by obtain ⟨q1,q2,q3⟩:=e3 D hD;exact ⟨g.old _ _ q1 (.inr q2.2),q2,q3⟩⟩
theorem StX.went(h:StX cx nt fs tm ds W N X bs B)(g:Went B W W')(hX:∀ c,X' c->X c\/W.heap.size<=c):StX cx nt fs tm ds W' N X' bs B:=by
 obtain ⟨env,own,hw,hb,hs,hm,h1,h2⟩:=h.ex;refine ⟨h.size,h.lo,env,own,hw.went h.lo g,hb.stay g.stay,hs.stay g.stay,hm.went g,h1,fun c b hc ho=>?_⟩
 rcases hX c hc with hc | hc
 . exact h2 c b hc ho
 . rw [hw.new c hc]at ho;cases ho
theorem StX.done(h:StX cx nt fs tm ds W N X bs B)(hD:W.heap[B]?=some (.deferred (some []))):St cx nt fs ⟨tm,{ target:=.collected B,args:=#[] }::ds⟩ W N:=by
 obtain ⟨env,own,hw,hb,hs,⟨Ds,e1,e2,e3⟩,h1,h2⟩:=h.ex;refine ⟨h.size,env,own,hw,hb,hs,B::Ds,by rw [e1];rfl,qbD.2 ⟨fun hm=>?_,e2⟩,fun D hm=>?_⟩
 . have:=(e3 B hm).2.1.2;omega
 . rcases qas.1 hm with rfl | hm
   . exact ⟨hD,⟨h1.1,.inr (.inl h.lo)⟩,.inl h.lo⟩
   . obtain ⟨q1,q2,q3⟩:=e3 D hm;exact ⟨q1,q2.1,q3⟩
end
end Go.VI
namespace Go.VI
open Go Go.RowKit
section
variable {P:Program} {cx:Cx} {nt:Nat}
def zvu(fr:Option Nat)(m0:Nat)(P:Program)(cx:Cx)(nt:Nat)(c:Code)(nx:Nat)(body:List Wr->Tree Out):Prop :=
 ∀ (st:List Wr) (o:Out) (act:Act) (w:World) (Q:Exit->Act->World->Prop),(body st).ev=some o->St cx nt (look st) act w (· < nx)->(∀ act' w',St cx nt (look (o.2.2++st)) act' w' (· < o.2.1)->Q (exOf o.1) act' w')->c.wpIn (Fw fr) m0 P Q act w
theorem zdp.lt{h:Array Obj}{ok:Nat->Prop}:∀ {ps:List PTy} {d:Pden ps} {args:List Value} {gs:List Nat},zdp h ok ps d args gs->(∀ g∈gs,g<h.size/\¬ok g)/\args.length=ps.length
 | [],_,[],[],_=>by simp
 | .val _::ps,d,x::xs,gs,ha=>by
  have:=zdp.lt (ps:=ps) ha.2
  exact ⟨this.1,by simp [this.2]⟩
 | .ptr _ _::ps,d,x::xs,g::gs,ha=>by
  obtain ⟨_,⟨cs,hg,_⟩,hok,_,ha⟩:=ha;have:=zdp.lt (ps:=ps) ha
  refine ⟨fun g' hg'=>?_,by simp [this.2]⟩
  rcases qas.1 hg' with rfl | hg'
  . exact ⟨(qaL.1 hg).1,hok⟩
  . exact this.1 g' hg'
 | [],_,_::_,_,ha=>by simp [zdp]at ha
 | [],_,[],_::_,ha=>ha.elim
 | .val _::_,_,[],_,ha=>ha.elim
 | .ptr _ _::_,_,[],_,ha=>ha.elim
 | .ptr _ _::_,_,_::_,[],ha=>ha.elim
theorem zln{r:List Wr}{b:Nat}:∀ {ps:List Tmp} {ts:List Ty} {v:Tden ts},look (zfz ps ts v++r) (.b b)=look r (.b b)
 | [],ts,v=>by cases ts <;> rfl
 | p::ps,[],v=>rfl
 | p::ps,t::ts,v=>by
  simp only [zfz,qaM,look];rw [zbh (show Loc.s p≠Loc.b b by simp),qaf]
  exact zln
theorem zxU{r:List Wr}{n:Nat}:∀ {bs:List Nat},look (ztI bs++r) (.s n)=look r (.s n)
 | []=>rfl
 | b::bs=>by
  show look (Wr.w (.b b) .no::(ztI bs++r)) (.s n)=_
  simp only [look];rw [zbh (show Loc.b b≠Loc.s n by simp),qaf]
  exact zxU
theorem ztH{r:List Wr}{b:Nat}:∀ {bs:List Nat},look (ztI bs++r) (.b b)=if b∈bs then .no else look r (.b b)
 | []=>by simp [ztI]
 | c::bs=>by
  show look (Wr.w (.b c) .no::(ztI bs++r)) (.b b)=_
  simp only [look];by_cases h:c=b
  . subst h;rw [zaO,qah];simp
  . rw [zbh (show Loc.b c≠Loc.b b from fun e=>by cases e;exact h rfl),qaf,ztH]
    simp [Ne.symm h]
theorem zov:∀ {l:List Nat},zuV l=true->l.Nodup
 | [],_=>qcq
 | n::r,h=>by
  simp only [zuV,qae,qar,qbr]at h;exact qbD.2 ⟨fun hm=>by have:=h.1 n hm;simp at this,zov h.2⟩
theorem zmB:∀ {l:List (Tmp×Value)} {t:Array Value},(l.foldl (fun (t:Array Value) (p:Tmp×Value)=>t.setIfInBounds p.1 p.2) t).size=t.size
 | [],t=>rfl
 | p::l,t=>by rw [qb8,zmB];simp
theorem zoJ{n:Nat}:∀ {l:List (Tmp×Value)} {t:Array Value},(∀ p∈l,p.1≠n)->(l.foldl (fun (t:Array Value) (p:Tmp×Value)=>t.setIfInBounds p.1 p.2) t).getD n undef=t.getD n undef
 | [],t,_=>rfl
 | p::l,t,h=>by
  rw [qb8,zoJ fun q hq=>h q (by simp [hq])]
  simp only [qbh];rw [Array.getElem?_setIfInBounds_ne (h p (by simp))]
theorem zhh{h:Array Obj}{ok:Nat->Prop}{env:Nm}{r:List Wr}{n:Nat}:∀ {ps:List Tmp} {ts:List Ty} {v:Tden ts} {tm:Array Value},(∀ t∈ts,t.plain=true)->ps.length=ts.length->ps.Nodup->(∀ p∈ps,p<tm.size)->zbQ h ok env (look r (.s n)) (tm.getD n undef) ->
 zbQ h ok env (look (zfz ps ts v++r) (.s n)) (((ps.zip (encL ts v)).foldl (fun (t:Array Value) (p:Tmp×Value)=>t.setIfInBounds p.1 p.2) tm).getD n undef)
 | [],ts,v,tm,_,_,_,_,hr=>by cases ts <;> exact hr
 | p::ps,[],v,tm,_,hl,_,_,_=>by simp at hl
 | p::ps,t::ts,v,tm,hp,hl,hn,hs,hr=>by
  obtain ⟨n1,n2⟩:=qbD.1 hn;simp only [zfz,qaM,look,encL,List.zip_cons_cons,qb8];by_cases e:p=n
  . subst e;rw [zaO,qah,zoJ fun q hq=>by
     intro e;have:=(List.of_mem_zip (a:=q.1) (b:=q.2) hq).1
     rw [e]at this;exact n1 this]
    rw [qbh];have:=hs p (by simp)
    simp only [Array.getElem?_setIfInBounds_self_of_lt this,qb7];exact zpS (zmM v.1 (hp t (by simp)))
  . rw [zbh (show Loc.s p≠Loc.s n from fun h=>by cases h;exact e rfl),qaf]
    refine zhh (fun t ht=>hp t (by simp [ht])) (by simpa using hl) n2 (fun q hq=>by simpa using hs q (by simp [hq])) ?_
    rw [qbh,Array.getElem?_setIfInBounds_ne e,<-qbh];exact hr
theorem zo9{keep:List Loc}{ws:List Wr}(h:zji keep ws=true){fs:FS}:∀ b,Loc.b b∈keep->ovr fs ws (.b b)=fs (.b b):=by
 intro b hl;refine zff (fun hm=>?_) (fun hm=>?_)
 . obtain ⟨y,hy,he⟩:=qbO.1 hm;have:=(qaN.1 h) y hy
   cases y with
   | w l' c=>
    simp only [Wr.loc,Option.some.injEq]at he;subst he;simp only [qar,qbr]at this;exact this _ hl (zaO _)
   | cut=>simp [Wr.loc]at he
 . have:=(qaN.1 h) _ hm
   simp at this
def zx8:Ex->Code
 | .normal=>.skip
 | .exit id=>.exit id
 | .ret=>.ret
theorem zw8{W:World}{env:Nm}{own:Ow}{bs:List Nat}{l:Nat}{o:Obj}:({ cx.round W env own bs with w0:=(cx.round W env own bs).w0.putObj l o }:Cx)=cx.round (W.putObj l o) env own bs:=by
 have:(W.putObj l o).heap.size=W.heap.size:=by simp
 unfold Cx.round;simp only [this]
set_option maxHeartbeats 1000000 in
theorem gen_wp{m0 nx ca:Nat}{flat:Bool}{g:Operand}{ps:Array Tmp}{assign body:Code}{assignT bodyT:Nat->List Wr->Tree Out}{A:LoopAnn}{G:Gen}(hG:zbZ P G.f/\G.Sound P)
 (ha:flat=true->∀ (l:Nat) (cx:Cx) (n:Nat),zvu (some l) 0 P cx nt assign n (assignT n)) (hbo:flat=true->∀ (l:Nat) (cx:Cx) (n:Nat),zvu (some l) 0 P cx nt body n (bodyT n))
 {st:List Wr} {o:Out} {act:Act} {w:World} {Q:Exit->Act->World->Prop} (h:(genT A G g ps.toList nt ca flat assignT bodyT nx st).ev=some o)
 (hS:St cx nt (look st) act w (· < nx)) (hQ:∀ act' w',St cx nt (look (o.2.2++st)) act' w' (· < o.2.1)->Q (exOf o.1) act' w'):(Code.rangeFunc g ps assign body).wpIn (Fw none) m0 P Q act w:=by
 unfold genT at h;obtain ⟨⟨d,bs,x0⟩,rs,h1,h2⟩:=zdG h;obtain ⟨lf,h3,h4⟩:=zaa.1 h1;have hkeep:=hS.keepOk (A.keep st);have hfix:∀ b v,cx.fix b=some v->b<nx:=fun b v hb=>by
  obtain ⟨env,own,h1,_⟩:=hS.ex;exact h1.names b (by simp [h1.fix b v hb])
 obtain ⟨env,own,hw,hB,hR,hm⟩:=hS.ex;have hlf:=zbc hR h3;split at h4
 . rename_i f cs;obtain ⟨_,h5,h6⟩:=zaa.1 h4;obtain ⟨⟨d',lent,bs'⟩,h7,h8⟩:=zaa.1 h6;obtain ⟨_,h9,h10⟩:=zaa.1 h8;obtain ⟨x',h11,h12⟩:=zaa.1 h10;simp at h12
   obtain ⟨rfl,rfl,rfl⟩:=h12;have hf:=qan (zah.1 h5);subst hf;have hgd:=zah.1 h9;simp only [qae,gHead]at hgd;obtain ⟨hlent,⟨⟨⟨⟨⟨⟨hflat,hok⟩,hss⟩,hkl⟩,hpl⟩,hpn⟩,hpd⟩,hbk⟩:=hgd;have hlent:lent=[]:=by simpa using hlent
   subst hlent;simp only [zrR,qae,qaN,qar,qbr]at hok;obtain ⟨⟨⟨⟨k4,k5⟩,k1⟩,k2⟩,k3⟩:=hok;have hbk:∀ b∈bs',Loc.b b∈A.keep st:=fun b hb=>by
    have:=(qaN.1 hbk) b hb
    obtain ⟨l,hl,he⟩:=qcb.1 this;rw [Loc.eqb_iff.1 he];exact hl
   have hab:∀ n∈A.head.ab,n<nx:=fun n hn=>by have:=(k4 n hn).1;simpa using this
   have habx:∀ p∈A.exits,∀ n∈p.2.ab,n<nx:=fun p hp n hn=>by have:=k5 p hp n hn;simpa using this
   have hpd:=zov hpd;have hpl:=qan hpl;have hhead:∀ x,∀ l∈(A.keep st),look (A.head.mk' nx x++(A.gone++st)) l=look st l:=fun x l hl=>by
    rw [zcb];exact zrQ (fun n hn hm=>k1 n hn _ hm (zaO _)) (fun j _ hm=>by
     have:=k2 (.b (nx+j)) hm
     simp only [Nat.blt_eq]at this;omega) (fun n hn hm=>(k4 n hn).2 _ hm (zaO _)) l hl
   simp only [Tree.ev]at h2;obtain ⟨y,h13,h14⟩:=qbt.1 h2;obtain ⟨L,hL,hy⟩:=qbt.1 h13;clear h2 h13;obtain ⟨vs,us,hge,hvs,hus⟩:=hlf;have hvs:vs=#[]:=by
    cases hq:vs.toList with
    | nil=>exact Array.toList_eq_nil_iff.1 hq
    | cons a b=>rw [hq]at hvs;exact hvs.elim
   subst hvs;have hav:All2 (AvR w.heap (cx.ok own) env) (cs.map fun c=>AV.v (.one c.lf)) us.toList:=by
    have:∀ {cs:List Cp} {us:List Value},All2 (CpR w.heap (cx.ok own) env) cs us->All2 (AvR w.heap (cx.ok own) env) (cs.map fun c=>AV.v (.one c.lf)) us:=by
     intro cs;induction cs with
     | nil=>intro us h;cases us <;> first | trivial | exact h.elim
     | cons c cs ih=>intro us h;cases us with
      | nil=>exact h.elim
      | cons u us=>exact ⟨CpR.lf.1 h.1,ih h.2⟩
    exact this hus
   obtain ⟨-,hbs,gs,hpair,harg⟩:=zqk hB h7 hav;have harg:=harg [] (by simp) (by simp)
   have hun:unown own []=own:=by
    funext g;unfold unown;cases own g <;> simp
   rw [hun]at harg;have hgl:=harg.lt.1;have hX0g:∀ c∈gs,∃ b∈bs',own c=some b:=fun c hc=>hpair.mem c hc
   obtain ⟨hplain,hseq⟩:=hG.2;have hseq:=hseq w (okIn cx own w) d' us.toList gs L harg (fun c hc=>hc.2) hL
   have hB0:cx.w0.heap.size<=w.heap.size:=hw.size
   have hnew:own w.heap.size=none/\own (w.heap.size+1)=none:=⟨hw.new _ (qao _),hw.new _ (Nat.le_succ _)⟩
   have outE:∀ {e:Ex} {y':Eden A.exits} {env2:Nm} {own2:Ow} {W2:World} {fs2:FS} {N2:Nat->Prop} {tm2:Array Value},y = .inr y'->RW cx W2 env2 own2 N2->RB cx fs2 W2 env2 own2->RS cx fs2 tm2 W2 env2 own2->(∀ l∈A.keep st,fs2 l=look st l)->(ziE fs2 (A.keep st) e A.exits).ev=some y' ->
    o.1=e/\o.2.1=nx+64/\∃ env' own',RW cx W2 env' own' (· < nx+64)/\RB cx (look (o.2.2++st)) W2 env' own'/\RS cx (look (o.2.2++st)) tm2 W2 env' own'/\(∀ c,own2 c=none->own' c=none):=by
    intro e y' env2 own2 W2 fs2 N2 tm2 hye q1 q2 q3 q4 q5
    subst hye;exact zmJ q1 q2 q3 q4 hkeep hfix habx q5 h14
   refine zkj (m0:=m0) (L:=L) (encs:=encs G.ts) (X0:=fun c=>okIn cx own w c\/c∈gs) hge hG.1 hseq (fun c hc=>hc.elim (fun h=>h.2) fun h=>(hgl c h).1) (fun x=>by simp [encs,zp6,<-hpl])
    (fun X pre W=>∃ x rest,L=pre++rest/\ziB (fun v x=>(roundT A G ps.toList ca nx assignT bodyT bs' st v x).ev) rest x=some y/\StX cx nt (look (A.head.mk' nx x++(A.gone++st))) act.tmps act.defers W (· < nx+64) X bs' w.heap.size)
    (fun c X pre W=>∃ e,e≠.normal/\c=zx8 e/\o.1=e/\o.2.1=nx+64/\StX cx nt (look (o.2.2++st)) act.tmps act.defers W (· < nx+64) (fun _=>False) [] w.heap.size)
    (fun X X' s W W' hJ hW hX=>by
     obtain ⟨x,rest,e1,e2,e3⟩:=hJ;exact ⟨x,rest,e1,e2,e3.went hW fun c hc=>(hX c hc).1⟩)
    (fun c X X' s W W' hJ hW hX=>by
     obtain ⟨e,e0,e1,e2,e3,e4⟩:=hJ;exact ⟨e,e0,e1,e2,e3,e4.went hW fun c hc=>hc.elim⟩)
    ?start ?round ?done ?stop
   case start=>
    obtain ⟨env1,own1,q1,q2,q3,q4,q5⟩:=zh1 (nx:=nx) (base:=look st) h11 hw hB hR (fun _ _=>rfl) hkeep hab hfix
    refine ⟨x',L,rfl,hy,hS.size,hB0,env1,own1,q1,?_,?_,?_,⟨q4 _ hnew.1,q4 _ hnew.2⟩,fun c b hc ho=>?_⟩
    . rw [zcb];exact q2
    . rw [zcb];exact q3
    . obtain ⟨Ds,m1,m2,m3⟩:=hm;refine ⟨Ds,m1,m2,fun D hD=>?_⟩
      obtain ⟨r1,r2,r3⟩:=m3 D hD;exact ⟨r1,⟨⟨q4 D r2.1,r2.2⟩,(qaL.1 r1).1⟩,r3⟩
    . obtain ⟨b0,p1,p2⟩:=q5 c b ho;rcases hc with hc | hc
      . have:=hc.1.1;rw [this]at p1;cases p1
      . obtain ⟨b1,p3,p4⟩:=hX0g c hc;rw [p1]at p4;cases p4
        rw [p2 (hbk b0 p3)];exact p3
   case done=>
    rintro X W ⟨x,rest,e1,e2,e3⟩ hlt hnX hD;have hr:rest=[]:=by simpa using e1
    subst hr;simp only [ziB,Option.some.injEq]at e2;subst e2;simp only [Tree.ev,Option.some.injEq]at h14;subst h14;have:=hQ _ W (by
     have:=e3.done hD
     simp only [qaR];exact this)
    exact this
   case stop=>
    rintro X c pre W ⟨e,e0,rfl,e2,e3,e4⟩ hlt hnX hD;have:=hQ _ W (by rw [e3];exact e4.done hD)
    rw [e2]at this;cases e with
    | normal=>exact absurd rfl e0
    | exit id=>exact wpIn_exit this
    | ret=>exact wpIn_ret this
   case round=>
    rintro l X pre x W ob hob rfl nXl nXB hXs hol hD ⟨xx,rest,e1,e2,hSX⟩ hsub hpre;obtain ⟨rest',rfl⟩:∃ rest',rest=x::rest':=by
     obtain ⟨t,ht⟩:=hpre;rw [e1,qaR]at ht;exact ⟨t,(List.append_cancel_left ht).symm⟩
    simp only [ziB]at e2;cases hstep:(roundT A G ps.toList ca nx assignT bodyT bs' st x xx).ev with
    | none=>rw [hstep]at e2;cases e2
    | some r=>
    rw [hstep]at e2;obtain ⟨env,own,hw,hB,hR,hm,hown,hX⟩:=hSX.ex;obtain ⟨s0,hs0⟩:∃ s0,s0=A.head.mk' nx xx++(A.gone++st):=⟨_,rfl⟩
    rw [<-hs0]at hB hR;obtain ⟨s1,hs1⟩:∃ s1,s1=zfz ps.toList G.ts x++(ztI bs'++s0):=⟨_,rfl⟩
    have hunX:∀ c,X c->unown own bs' c=none:=fun c hc=>by
     cases ho:own c with
     | none=>exact zaK ho
     | some b=>exact zdt ho (hX c b hc ho)
    have hlW:=(qaL.1 hol).1;have hBW:=(qaL.1 hD).1;have htm:(ps.zip (encs G.ts x)).foldl (fun t (p,v)=>t.setIfInBounds p v) act.tmps=(ps.toList.zip (encL G.ts x)).foldl (fun (t:Array Value) (p:Tmp×Value)=>t.setIfInBounds p.1 p.2) act.tmps:=by
     rw [<-Array.foldl_toList,Array.toList_zip]
     rfl
    rw [htm];generalize htr:(ps.toList.zip (encL G.ts x)).foldl (fun (t:Array Value) (p:Tmp×Value)=>t.setIfInBounds p.1 p.2) act.tmps=tmr
    have hrs:RS cx (look s1) tmr W env own:=fun n=>by
     rw [hs1,<-htr];refine zhh (fun t ht=>(qaN.1 hplain) t ht) hpl hpd (fun p hp=>?_) ?_
     . have:=(qaN.1 hpn) p hp
       rw [hSX.size];simpa using this
     . rw [zxU];exact hR n
    have hin:=zyD (nt:=nt) (bs:=bs') (fs':=look s1) (tmr:=tmr) hw hB (fun b=>by
     rw [hs1,zln,ztH];by_cases hb:b∈bs'
     . rw [if_pos hb];exact .inl rfl
     . rw [if_neg hb];exact .inr ⟨hb,rfl⟩) hrs (by rw [<-htr,zmB];exact hSX.size)
    simp only [roundT,<-hs0,<-hs1,Tree.ev_bind]at hstep;cases ho1:(assignT (nx+64) s1).ev with
    | none=>rw [ho1]at hstep;cases hstep
    | some o1=>
    obtain ⟨ex1,n1,W1⟩:=o1;rw [ho1]at hstep;simp only [qaa]at hstep;refine ha hflat (w.heap.size+1) _ (nx+64) s1 _ ⟨tmr,[]⟩ W _ ho1 hin fun act1 Wa hSa=>?_
    cases ex1 with
    | exit id=>simp [Tree.ev]at hstep
    | ret=>simp [Tree.ev]at hstep
    | normal=>
    simp only at hstep
    cases hn1:Nat.ble n1 (nx+64+ca) with
    | false=>rw [hn1]at hstep;simp [Tree.ev]at hstep
    | true=>
    rw [hn1]at hstep;simp only [qah,Tree.ev_bind]at hstep;cases ho2:(bodyT (nx+64+ca) (W1++s1)).ev with
    | none=>rw [ho2]at hstep;cases hstep
    | some o2=>
    obtain ⟨ex2,n2,W2⟩:=o2;rw [ho2]at hstep;simp only [qaa]at hstep;cases hut:zji (A.keep st) (W2++W1) with
    | false=>rw [hut]at hstep;simp [Tree.ev]at hstep
    | true=>
    rw [hut]at hstep;simp only [qah]at hstep;have hul:unown own bs' (w.heap.size+1)=none:=zaK hown.2
    obtain ⟨envA,ownA,hwA,-⟩:=hSa.ex;have kA:∀ c,c<W.heap.size->unown own bs' c=none->Wa.heap[c]?=W.heap[c]?:=fun c hc hu=>(hwA.old c hc (fun q=>q hu)).2
    have sA:W.heap.size<=Wa.heap.size:=hwA.size
    refine ⟨(kA _ hlW hul).trans hol,fun o' ho'=>?_⟩
    have hput:=(St.putl (l:=w.heap.size+1) o' hSa hol hob (fun q=>q hul)).2
    rw [zw8]at hput;generalize hWp:W.putObj (w.heap.size+1) o'=Wp at hput
    have sP:Wp.heap.size=W.heap.size:=by rw [<-hWp];simp
    have gP:Went w.heap.size W Wp:=by rw [<-hWp];exact Went.put o' (Nat.le_succ _) hol hob
    have otherP:∀ c,c≠w.heap.size+1->Wp.heap[c]?=W.heap[c]?:=fun c hc=>by rw [<-hWp];exact World.putObj_heap_other hc
    have lP:Wp.heap[w.heap.size+1]?=some o':=by rw [<-hWp];exact World.putObj_heap_same hlW
    have eWa:(Wa.putObj (w.heap.size+1) o')=(Wa.putObj (w.heap.size+1) o'):=rfl
    refine hbo hflat (w.heap.size+1) _ (nx+64+ca) (W1++s1) _ act1 _ _ ho2 (hput.mono fun b hb=>qbq hb (qa5 hn1)) fun act2 W3 hS3=>?_
    obtain ⟨fs2,hfs2⟩:∃ fs2,fs2=zvp bs' s0 (look (W2++(W1++s1))):=⟨_,rfl⟩
    rw [<-hfs2]at hstep;obtain ⟨env3,own3,r1,r2,r3,r4,r5⟩:=zvE (fs2:=fs2) (hw.went hSX.lo gP) (hB.stay gP.stay) (hR.stay gP.stay) hS3 (fun b=>by
     rw [hfs2];simp only [zvp];by_cases hb:b∈bs'
     . rw [if_pos hb,show (bs'.any (Nat.beq b))=true from qcb.2 ⟨b,hb,by simp⟩,qah]
     . rw [if_neg hb,show (bs'.any (Nat.beq b))=false from by
        rw [qbr];intro c hc he;exact hb (qan he ▸ hc),qaf]) (fun n=>by rw [hfs2];rfl)
    have hk:∀ l∈A.keep st,fs2 l=look st l:=fun l hl=>by
     rw [hfs2,<-hhead xx l hl,<-hs0];cases l with
     | s n=>rfl
     | b b=>
      simp only [zvp];cases hb:(bs'.any (Nat.beq b)) with
      | true=>rfl
      | false=>
       rw [qaf,<-qaR,zaH,zo9 hut b hl,hs1,zln,ztH,if_neg];intro hm;rw [qbr]at hb;exact hb b hm (by simp)
    have none3:∀ c,c<W.heap.size->own c=none->own3 c=none:=fun c hc hu=>((r5 c (by rw [sP];exact hc) (zaK hu)).1).trans hu
    have hm3:∀ {own4:Ow},(∀ c,own3 c=none->own4 c=none)->znx cx.low W3.heap (fun D=>cx.ok own4 D/\D<w.heap.size) act.defers:=fun h4=>by
     obtain ⟨Ds,m1,m2,m3⟩:=hm;refine ⟨Ds,m1,m2,fun D hD=>?_⟩
     obtain ⟨p1,p2,p3⟩:=m3 D hD;have hlt:=(qaL.1 p1).1;refine ⟨?_,⟨⟨h4 D (none3 D hlt p2.1.1),p2.1.2⟩,p2.2⟩,p3⟩;rw [(r5 D (by rw [sP];exact hlt) (zaK p2.1.1)).2,otherP D (by omega)];exact p1
    have hX3:∀ c,X c->W3.heap[c]?=W.heap[c]?:=fun c hc=>(r5 c (by rw [sP];exact hXs c hc) (hunX c hc)).2.trans (otherP c fun e=>nXl (e ▸ hc))
    rw [sP]at r4;refine ⟨(r5 _ (by rw [sP];exact hlW) hul).2.trans lP,((r5 _ (by rw [sP];exact hBW) (zaK hown.1)).2.trans (otherP _ (by omega))).trans hD,?_⟩
    have leave:∀ (e:Ex),e≠.normal->((ziE fs2 (A.keep st) e A.exits).bind fun y=>Tree.leaf (Sum.inr y:A.head.den⊕Eden A.exits)).ev=some r->Kept X W W3/\∃ e',e'≠.normal/\zx8 e=zx8 e'/\o.1=e'/\o.2.1=nx+64/\StX cx nt (look (o.2.2++st)) act.tmps act.defers W3 (· < nx+64) (fun _=>False) [] w.heap.size:=by
     intro e he hq;rw [Tree.ev_bind]at hq;cases hy':(ziE fs2 (A.keep st) e A.exits).ev with
     | none=>rw [hy']at hq;cases hq
     | some y'=>
     rw [hy']at hq;simp only [qaa,Tree.ev,Option.some.injEq]at hq;subst hq;simp only [Option.some.injEq]at e2;obtain ⟨p1,p2,env4,own4,p3,p4,p5,p6⟩:=outE e2.symm r1 r2 r3 hk hy';exact ⟨⟨r4,hX3⟩,e,he,rfl,p1,p2,hSX.size,hSX.lo,env4,own4,p3,p4,p5,hm3 p6,⟨p6 _ (none3 _ hBW hown.1),p6 _ (none3 _ hlW hown.2)⟩,fun _ _ hc=>hc.elim⟩
    cases ex2 with
    | normal=>
     simp only [Tree.ev_bind]at hstep;cases hsh:((shT A.head (A.keep st)).run fs2 []).ev with
     | none=>rw [hsh]at hstep;cases hstep
     | some r'=>
     obtain ⟨x2,rs2⟩:=r';rw [hsh]at hstep;simp only [qaa,Tree.ev,Option.some.injEq]at hstep;subst hstep;simp only at e2
     obtain ⟨env4,own4,q1,q2,q3,q4,q5⟩:=zh1 (nx:=nx) (base:=look st) (T.run_evs hsh) r1 r2 r3 hk hkeep hab hfix
     refine ⟨⟨r4,hX3⟩,x2,rest',by rw [e1];simp,e2,hSX.size,hSX.lo,env4,own4,q1,?_,?_,hm3 q4,⟨q4 _ (none3 _ hBW hown.1),q4 _ (none3 _ hlW hown.2)⟩,fun c b hc ho=>?_⟩
     . rw [zcb];exact q2
     . rw [zcb];exact q3
     . obtain ⟨b0,p1,p2⟩:=q5 c b ho;rw [(r5 c (by rw [sP];exact hXs c hc) (hunX c hc)).1]at p1
       have:=hX c b0 hc p1
       rw [p2 (hbk b0 this)];exact this
    | exit id=>exact leave (.exit id) (by simp) hstep
    | ret=>exact leave .ret (by simp) hstep
 . simp [T.evs]at h4
end
end Go.VI
namespace Go.VI
open Go Go.RowKit
section
variable {fr:Option Nat} {m0:Nat} {P:Program} {te:TE} {tbl:Tbl} {ann:Ann} {cx:Cx} {nt:Nat}
theorem loop_wp{c:Code}{nx:Nat}{body:List Wr->Tree Out}(hbody:zvu fr m0 P cx nt c (nx+64) body){A:LoopAnn}{st:List Wr}{o:Out}{act:Act}{w:World}{Q:Exit->Act->World->Prop}(h:(loopT A body nx st).ev=some o)
 (hS:St cx nt (look st) act w (· < nx)) (hQ:∀ act' w',St cx nt (look (o.2.2++st)) act' w' (· < o.2.1)->Q (exOf o.1) act' w'):(Code.loop c).wpIn (Fw fr) m0 P Q act w:=by
 unfold loopT at h;obtain ⟨x0,rs,h1,h2⟩:=zdG h;obtain ⟨_,h3,h4⟩:=zaa.1 (show T.evs (look st) (zao (zrR A (A.keep st) nx) >>= fun _=>shT A.head (A.keep st))=some x0 from h1)
 have hok:=zah.1 h3;simp only [zrR,qae,qaN,qar,qbr]at hok;obtain ⟨⟨⟨⟨k4,k5⟩,k1⟩,k2⟩,k3⟩:=hok;have hfix:∀ b v,cx.fix b=some v->b<nx:=fun b v hb=>by
  obtain ⟨env,own,h1,_⟩:=hS.ex;exact h1.names b (by simp [h1.fix b v hb])
 have hab:∀ n∈A.head.ab,n<nx:=fun n hn=>by have:=(k4 n hn).1;simpa using this
 have habx:∀ p∈A.exits,∀ n∈p.2.ab,n<nx:=fun p hp n hn=>by have:=k5 p hp n hn;simpa using this
 simp only [Tree.ev]at h2;obtain ⟨y,h5,h6⟩:=qbt.1 h2;obtain ⟨n,hn⟩:=zqW h5;have hkeep:=hS.keepOk (A.keep st);have hhead:∀ x,∀ l∈(A.keep st),look (A.head.mk' nx x++(A.gone++st)) l=look st l:=fun x l hl=>by
  rw [zcb];exact zrQ (fun n hn hm=>k1 n hn _ hm (zaO _)) (fun j _ hm=>by
   have:=k2 (.b (nx+j)) hm
   simp only [Nat.blt_eq]at this;omega) (fun n hn hm=>(k4 n hn).2 _ hm (zaO _)) l hl
 refine wpIn_loop_ghost (fun n a w=>∃ x,iter _ n x=some y/\St cx nt (look (A.head.mk' nx x++(A.gone++st))) a w (· < nx+64)) n ⟨x0,hn,by rw [zcb];exact zzD h4 hS (fun _ _=>rfl) hkeep hab hfix⟩ ?_
 rintro n a w ⟨x,hx,hSx⟩;cases n with
 | zero=>simp [iter]at hx
 | succ n=>
  simp only [iter]at hx;cases hs:(stepT A body nx st x).ev with
  | none=>simp [hs]at hx
  | some r=>
   simp only [hs]at hx;simp only [stepT,Tree.ev_bind]at hs;cases hb:(body (A.head.mk' nx x++(A.gone++st))).ev with
   | none=>simp [hb]at hs
   | some ob=>
    obtain ⟨e,nx',W⟩:=ob;simp only [hb,qaa]at hs;refine hbody _ _ a w _ hb hSx fun a' w' hS'=>?_
    cases hu:zct (A.keep st) W with
    | false=>simp [hu,Tree.ev]at hs
    | true=>
     simp only [hu,qah]at hs;have hk:∀ l∈(A.keep st),look (W++(A.head.mk' nx x++(A.gone++st))) l=look st l:=fun l hl=>by
      rw [zaH,zkk hu l hl,hhead x l hl]
     have leaves:∀ (e:Ex),((ziE (look (W++(A.head.mk' nx x++(A.gone++st)))) (A.keep st) e A.exits).bind fun y=>Tree.leaf (Sum.inr y:A.head.den⊕Eden A.exits)).ev=some r->Q (exOf e) a' w':=by
      intro e hy;rw [Tree.ev_bind]at hy;cases hy':(ziE (look (W++(A.head.mk' nx x++(A.gone++st)))) (A.keep st) e A.exits).ev with
      | none=>simp [hy']at hy
      | some y'=>
       simp [hy',Tree.ev]at hy;subst hy
       simp only [Option.some.injEq]at hx;subst hx
       obtain ⟨q1,q2,q3⟩:=exit_ok hS' hk hkeep hfix habx hy' h6;have:=hQ a' w' (by rw [q2];exact q3)
       rw [q1]at this;exact this
     cases e with
     | normal=>
      simp only at hs
      rw [Tree.ev_bind]at hs;cases hr:((shT A.head (A.keep st)).run (look (W++(A.head.mk' nx x++(A.gone++st)))) []).ev with
      | none=>simp [hr]at hs
      | some r'=>
       obtain ⟨x',rs'⟩:=r';simp [hr,Tree.ev]at hs;subst hs
       exact ⟨n,by omega,x',hx,by rw [zcb];exact zzD (T.run_evs hr) hS' hk hkeep hab hfix⟩
     | exit id=>exact leaves (.exit id) hs
     | ret=>exact leaves .ret hs
def zo4(st:List Wr)(m:Nat)(x:Option Out)(o:Out):Prop:=x=some o\/∃ n w' w,x=some (.normal,n,w')/\n<=m/\o=(.normal,m,w)/\FsLe (ovr (look st) w') (ovr (look st) w)
theorem zza{c:Bool}{m n:Nat}{st a:List Wr}(hn:n<=m):∀ {e:Tree Out} {o:Out},(zxQ c m st a (.leaf (.normal,n,a)) e).ev=some o->(c=true/\zo4 st m (some (.normal,n,a)) o)\/(c=false/\zo4 st m e.ev o):=by
 intro e;have hbr:∀ {e:Tree Out} {o:Out},(Tree.br c (.leaf (.normal,n,a)) e).ev=some o->(c=true/\zo4 st m (some (.normal,n,a)) o)\/(c=false/\zo4 st m e.ev o):=by
  intro e o h;cases c with
  | true=>simp [Tree.ev]at h;exact .inl ⟨rfl,.inl (by rw [h])⟩
  | false=>simp [Tree.ev]at h;exact .inr ⟨rfl,.inl h⟩
 induction e with
 | leaf b=>
  intro o h;obtain ⟨e,k,b⟩:=b;cases e with
  | normal=>
   simp only [zxQ]at h;cases hm:zow c st a b with
   | none=>rw [hm]at h;exact hbr h
   | some w=>
    rw [hm]at h;simp only at h
    cases hk:(Nat.ble k m && !lossy st a b w) with
    | false=>rw [hk]at h;exact hbr h
    | true=>
     rw [hk]at h;simp [Tree.ev]at h;subst h
     have:=zrC hm
     simp only [qae]at hk;cases c with
     | true=>exact .inl ⟨rfl,.inr ⟨n,a,w,rfl,hn,rfl,this⟩⟩
     | false=>exact .inr ⟨rfl,.inr ⟨k,b,w,rfl,qa5 hk.1,rfl,this⟩⟩
  | exit id=>exact hbr h
  | ret=>exact hbr h
 | need p e ih=>
  intro o h;simp only [zxQ,Tree.ev]at h;cases c with
  | true=>exact .inl ⟨rfl,(ih h).elim (·.2) fun h=>by cases h.1⟩
  | false=>
   cases p with
   | true=>simpa [Tree.ev] using ih (by simpa using h)
   | false=>simp at h
 | bad=>intro w h;exact hbr h
 | br _ _ _ _ _=>intro w h;exact hbr h
 | bnd _ _ _=>intro w h;exact hbr h
 | sum _ _ _ _ _=>intro w h;exact hbr h
theorem join_ok{c:Bool}{m:Nat}{st:List Wr}{e:Tree Out}:∀ {t:Tree Out} {o:Out},(join c m st e t).ev=some o->zo4 st m (cond c t e).ev o:=by
 intro t;have hbr:∀ {t:Tree Out} {o:Out},(Tree.br c t e).ev=some o->zo4 st m (cond c t e).ev o:=by
  intro t o h;cases c <;> exact .inl (by simpa [Tree.ev] using h)
 induction t with
 | leaf a=>
  intro o h;obtain ⟨x,n,a⟩:=a;cases x with
  | normal=>
   simp only [join]at h;cases hn:Nat.ble n m with
   | false=>rw [hn]at h;exact hbr h
   | true=>
    rw [hn]at h;rcases zza (qa5 hn) h with ⟨rfl,hl⟩ | ⟨rfl,h1⟩
    . exact hl
    . exact h1
  | exit id=>exact hbr h
  | ret=>exact hbr h
 | need p t ih=>
  intro w h;simp only [join,Tree.ev]at h;cases c with
  | true=>
   cases p with
   | true=>simpa [Tree.ev] using ih (by simpa using h)
   | false=>simp at h
  | false=>exact ih h
 | bad=>intro w h;exact hbr h
 | br _ _ _ _ _=>intro w h;exact hbr h
 | bnd _ _ _=>intro w h;exact hbr h
 | sum _ _ _ _ _=>intro w h;exact hbr h
theorem zsN{fr:Option Nat}{c:Code}{Q:Exit->Act->World->Prop}{act:Act}{w:World}(e:fr=none)(h:c.wpIn (Fw fr) m0 P (Exit.noGoto Q) act w):(Code.scope c).wpIn (Fw fr) m0 P Q act w:=by
 subst e;exact (wpIn_wide (n:=m0)).2 (wp_scope_straight ((wpIn_wide (n:=m0)).1 h))
theorem zbp(ht:TEok P te)(hT:tbl.Sound P)(hA:ann.Sound P)(hmix:P.follows .mixedOrders=true):∀ (c:Code) (fr:Option Nat) (m0:Nat) (cx:Cx) (bid nx:Nat),(fr=none\/znX c=true)->zvu fr m0 P cx nt c nx (runCode te tbl ann nt c bid nx)
 | .skip,fr,m0,cx,bid,nx,hf=>fun st o act w Q h hS hQ=>by
  simp only [runCode,Tree.ev,Option.some.injEq]at h;subst h
  exact wpIn_skip (hQ act w hS)
 | .region id ops draw,fr,m0,cx,bid,nx,hf=>fun st o act w Q h hS hQ=>by
  simp only [runCode,Tree.ev_bind]at h;cases hr:(zpi te tbl nt nx ops draw st).ev with
  | none=>simp [hr]at h
  | some ws=>
   simp [hr,Tree.ev]at h;subst h
   exact zw9 ht hT hmix hr hS (fun _ h=>h) hQ
 | .seq a b,fr,m0,cx,bid,nx,hf=>fun st o act w Q h hS hQ=>by
  simp only [runCode,Tree.ev_bind]at h;cases ha:(runCode te tbl ann nt a bid nx st).ev with
  | none=>simp [ha]at h
  | some oa=>
   obtain ⟨e,nx',W⟩:=oa;simp only [ha,qaa]at h;refine wpIn_seq (zbp ht hT hA hmix a fr m0 cx bid nx (hf.imp id fun h=>(qbp.1 h).1) st _ act w _ ha hS fun a' w' hS'=>?_)
   cases e with
   | normal=>
    simp only [Tree.ev_bind]at h;cases hle:Nat.ble nx' (nx+cnt a) with
    | false=>simp [hle,Tree.ev]at h
    | true=>
     simp only [hle,qah,Tree.ev_bind]at h;have hle:=qa5 hle;cases hb:(runCode te tbl ann nt b bid (nx+cnt a) (W++st)).ev with
     | none=>simp [hb]at h
     | some ob=>
      obtain ⟨e2,nx2,W2⟩:=ob;simp [hb,Tree.ev]at h;subst h
      refine zbp ht hT hA hmix b fr m0 cx bid (nx+cnt a) (hf.imp id fun h=>(qbp.1 h).2) _ _ a' w' Q hb (hS'.mono fun k hk=>qbq hk hle) fun a2 w2 hS2=>hQ a2 w2 ?_
      simpa using hS2
   | exit id=>simp [Tree.ev]at h;subst h;exact hQ a' w' hS'
   | ret=>simp [Tree.ev]at h;subst h;exact hQ a' w' hS'
 | .cond c a b,fr,m0,cx,bid,nx,hf=>fun st o act w Q h hS hQ=>by
  obtain ⟨env,own,h1,h2,h3,-⟩:=hS.ex;simp only [runCode]at h;split at h
  . rename_i d;have hd:=h3 d;split at h
    . rename_i hc;rw [hc]at hd;exact wpIn_cond_true hd (zbp ht hT hA hmix a fr m0 cx bid nx (hf.imp id fun h=>(qbp.1 h).1) st o act w Q h hS hQ)
    . rename_i hc;rw [hc]at hd;exact wpIn_cond_false hd (zbp ht hT hA hmix b fr m0 cx bid nx (hf.imp id fun h=>(qbp.1 h).2) st o act w Q h hS hQ)
    . rename_i t hc;rw [hc]at hd;simp only [zbQ,AvR,A1R,LfR,Fits,List.cons.injEq,qbn]at hd;have hj:=join_ok h;refine wpIn_cond_split (t:=t) hd (fun he=>?_) fun he=>?_
      . subst he;rcases hj with hj | ⟨n,w',w2,hj,hn,rfl,hle⟩
        . exact zbp ht hT hA hmix a fr m0 cx bid nx (hf.imp id fun h=>(qbp.1 h).1) st o act w Q hj hS hQ
        . refine zbp ht hT hA hmix a fr m0 cx bid nx (hf.imp id fun h=>(qbp.1 h).1) st _ act w Q hj hS fun a' w' hS'=>hQ a' w' ?_
          refine (St.le hS' ?_).mono fun k hk=>qbq hk hn
          intro l;rw [zaH,zaH];exact hle l
      . subst he;rcases hj with hj | ⟨n,w',w2,hj,hn,rfl,hle⟩
        . exact zbp ht hT hA hmix b fr m0 cx bid nx (hf.imp id fun h=>(qbp.1 h).2) st o act w Q hj hS hQ
        . refine zbp ht hT hA hmix b fr m0 cx bid nx (hf.imp id fun h=>(qbp.1 h).2) st _ act w Q hj hS fun a' w' hS'=>hQ a' w' ?_
          refine (St.le hS' ?_).mono fun k hk=>qbq hk hn
          intro l;rw [zaH,zaH];exact hle l
    . simp [Tree.ev]at h
  . exact wpIn_cond_true rfl (zbp ht hT hA hmix a fr m0 cx bid nx (hf.imp id fun h=>(qbp.1 h).1) st o act w Q h hS hQ)
  . exact wpIn_cond_false rfl (zbp ht hT hA hmix b fr m0 cx bid nx (hf.imp id fun h=>(qbp.1 h).2) st o act w Q h hS hQ)
  . simp [Tree.ev]at h
 | .block id c,fr,m0,cx,bid,nx,hf=>fun st o act w Q h hS hQ=>by
  simp only [runCode,Tree.ev_bind]at h;cases ha:(runCode te tbl ann nt c id nx st).ev with
  | none=>simp [ha]at h
  | some oa=>
   obtain ⟨e,nx',W⟩:=oa;simp only [ha,qaa]at h;refine wpIn_block (zbp ht hT hA hmix c fr m0 cx id nx hf st _ act w _ ha hS fun a' w' hS'=>?_)
   cases e with
   | normal=>simp [Tree.ev]at h;subst h;exact hQ a' w' hS'
   | exit id'=>
    simp only at h
    show Exit.inBlock id Q (.exit id') a' w'
    simp only [Exit.inBlock];cases hid:Nat.beq id' id with
    | true=>
     simp [hid,Tree.ev]at h;subst h
     rw [if_pos (qan hid)];exact hQ a' w' hS'
    | false=>
     simp [hid,Tree.ev]at h;subst h
     rw [if_neg (Nat.ne_of_beq_eq_false hid)];exact hQ a' w' hS'
   | ret=>simp [Tree.ev]at h;subst h;exact hQ a' w' hS'
 | .loop c,fr,m0,cx,bid,nx,hf=>fun st o act w Q h hS hQ=>by
  simp only [runCode]at h;split at h
  . exact loop_wp (zbp ht hT hA hmix c fr m0 cx bid (nx+64) (hf.imp id fun h=>h)) h hS hQ
  . simp [Tree.ev]at h
 | .exit id,fr,m0,cx,bid,nx,hf=>fun st o act w Q h hS hQ=>by
  simp only [runCode,Tree.ev,Option.some.injEq]at h;subst h
  exact wpIn_exit (hQ act w hS)
 | .ret,fr,m0,cx,bid,nx,hf=>fun st o act w Q h hS hQ=>by
  simp only [runCode,Tree.ev,Option.some.injEq]at h;subst h
  exact wpIn_ret (hQ act w hS)
 | .rangeFunc g ps assign body,fr,m0,cx,bid,nx,hf=>fun st o act w Q h hS hQ=>by
  have hf:fr=none:=hf.resolve_right (by simp [znX])
  subst hf;simp only [runCode]at h;split at h
  . rename_i A hA1;split at h
    . rename_i G hG;exact gen_wp (Ann.find_ok hA hA1 hG) (fun hfl l cx n=>zbp ht hT hA hmix assign (some l) 0 cx bid n (.inr (qbp.1 hfl).1)) (fun hfl l cx n=>zbp ht hT hA hmix body (some l) 0 cx bid n (.inr (qbp.1 hfl).2)) h hS hQ
    . simp [Tree.ev]at h
  . simp [Tree.ev]at h
 | .scope c,fr,m0,cx,bid,nx,hf=>fun st o act w Q h hS hQ=>by
  simp only [runCode]at h;refine zsN (hf.resolve_right (by simp [znX])) (zbp ht hT hA hmix c fr m0 cx bid nx (.inl (hf.resolve_right (by simp [znX]))) st o act w _ h hS fun a' w' hS'=>?_)
  obtain ⟨e,n,W⟩:=o;have:=hQ a' w' hS'
  cases e <;> exact this
 | .label _,fr,m0,cx,bid,nx,hf=>fun st o act w Q h hS hQ=>by
  simp only [runCode,Tree.ev,Option.some.injEq]at h;subst h
  exact wpIn_label (hQ act w hS)
 | .goto _,fr,m0,cx,bid,nx,hf=>fun st o act w Q h hS hQ=>by simp [runCode,Tree.ev]at h
 | .refuse _,fr,m0,cx,bid,nx,hf=>fun st o act w Q h hS hQ=>by simp [runCode,Tree.ev]at h
theorem zjR(ht:TEok P te)(hT:tbl.Sound P)(hA:ann.Sound P)(hmix:P.follows .mixedOrders=true)(c:Code)(bid nx:Nat)(st:List Wr)(o:Out)(act:Act)(w:World)(Q:Exit->Act->World->Prop)(h:(runCode te tbl ann nt c bid nx st).ev=some o)(hS:St cx nt (look st) act w (· < nx))(hQ:∀ act' w',St cx nt (look (o.2.2++st)) act' w' (· < o.2.1)->Q (exOf o.1) act' w'):c.wp P Q act w :=
 (wpIn_wide (n:=0)).1 (zbp ht hT hA hmix c none 0 cx bid nx (.inl rfl) st o act w Q h hS hQ)
end
end Go.VI
namespace Go.VI
open Go Go.RowKit
def Cell.frz:Cell->Cell
 | .box T xs=>.rb T xs
 | .arr _ T e l=>.arr false T e l
 | c=>c
def Wr.frz:Wr->Wr
 | .w l c=>.w l c.frz
 | .cut=>.cut
def frzW(st:List Wr):List Wr:=st.map Wr.frz
theorem zcy:∀ {st:List Wr} {l:Loc},look (frzW st) l=(look st l).frz
 | [],l=>rfl
 | .cut::_,l=>rfl
 | .w k c::st,l=>by
  show look (Wr.w k c.frz::frzW st) l=_
  simp only [look];cases Loc.eqb k l with
  | true=>rfl
  | false=>exact zcy
section
variable {h h':Array Obj} {ok ok':Nat->Prop} {env env':Nm} {own own':Ow} {B B':Nat->Prop}
theorem za9.frz{b:Nat}{c:Cell}(hc:za9 B h ok env own b c)(hok:∀ c,ok c->c<h.size->ok' c/\h'[c]?=h[c]?)(he:∀ b x,env b=some x->env' b=some x)(ho:∀ g,own g=some b->ok' g/\h'[g]?=h[g]?):za9 B' h' ok' env' own' b c.frz:=by
 cases c with
 | no=>trivial
 | av _=>trivial
 | ln n=>obtain ⟨p,c,hcc⟩:=hc;exact ⟨p,c,he _ _ hcc⟩
 | arr m T e l=>
  obtain ⟨v,hv,hr⟩:=hc;refine ⟨v,he _ _ hv,hr.imp id ?_⟩;rintro ⟨g,cap,cur,rfl,hg,h1,h2,h3,h4,h5,h6⟩;have hlt:=(qaL.1 hg).1;have hg':ok' g/\h'[g]?=h[g]?:=by
   cases m with
   | true=>exact ho g (h5 rfl).1
   | false=>exact hok g (h6 rfl) hlt
  exact ⟨g,cap,cur,rfl,hg'.2.trans hg,h1,h2,h3,fun i hi=>(h4 i hi).mono hok,fun hm=>by simp at hm,fun _=>hg'.1⟩
 | box T xs=>
  obtain ⟨g,cs,h1,h2,h3,h4⟩:=hc;exact ⟨g,cs,he _ _ h1,(ho g h4).2.trans h2,h3.mono fun _ _=>LfR.mono hok he,(ho g h4).1⟩
 | rb T xs=>
  obtain ⟨g,cs,h1,h2,h3,h4⟩:=hc;have q:=hok g h4 (qaL.1 h2).1;exact ⟨g,cs,he _ _ h1,q.2.trans h2,h3.mono fun _ _=>LfR.mono hok he,q.1⟩
theorem zbQ.frz{c:Cell}{v:Value}(hc:zbQ h ok env c v):zbQ h ok env c.frz v:=by cases c <;> first | exact hc | trivial
theorem zbQ.mono{c:Cell}{v:Value}(hok:∀ c,ok c->c<h.size->ok' c/\h'[c]?=h[c]?)(he:∀ b x,env b=some x->env' b=some x)(hc:zbQ h ok env c v):zbQ h' ok' env' c v:=by
 cases c with
 | av a=>exact AvR.mono hok he hc
 | _=>trivial
end
structure FZ (env:Nm) (fs:FS) (tm:Array Value) (X:Nat->Prop) (h:Array Obj):Prop where
 rb:∀ b,za9 (fun _=>False) h X env (fun _=>none) b (fs (.b b))
 rs:∀ n,zbQ h X env (fs (.s n)) (tm.getD n undef)
theorem FZ.mono{env env':Nm}{fs:FS}{tm:Array Value}{X X':Nat->Prop}{h h':Array Obj}(k:FZ env fs tm X h)(hok:∀ c,X c->c<h.size->X' c/\h'[c]?=h[c]?)(he:∀ b x,env b=some x->env' b=some x):FZ env' fs tm X' h' :=
 ⟨fun b=>(k.rb b).conv (fun _ h=>nomatch h) hok he (fun _ h=>nomatch h),fun n=>zbQ.mono hok he (k.rs n)⟩
theorem FZ.stay{env:Nm}{fs:FS}{tm:Array Value}{X:Nat->Prop}{h h':Array Obj}(k:FZ env fs tm X h)(hs:Stay h h'):FZ env fs tm X h' :=
 ⟨fun b=>za9.stay hs (k.rb b),fun n=>zbQ.stay hs (k.rs n)⟩
def zuZ(D:Nat):Deferred:={ target:=.collected D,args:=#[] }
structure PC where
 yv:Value
 X0:Nat->Prop
 Xr:Nat->Prop
 Wr:World
 B:Nat
structure PS {α:Type} (p:PC) (T:(Nat->Prop)->List α->World->Prop) (nt:Nat) (fs:FS) (a:Act) (W:World) (N:Nat->Prop) (pre:List α):Prop where
 size:a.tmps.size=nt
 lo:p.B<=W.heap.size
 wr:p.Wr.heap.size<=W.heap.size
 ex:∃ X env,FZ env fs a.tmps X W.heap/\(∀ b,env b≠none->N b)/\env 0=some p.yv/\((∀ c,p.X0 c->X c)/\∀ c,p.Xr c->X c/\W.heap[c]?=p.Wr.heap[c]?)/\(∀ c,X c->c<W.heap.size)/\T X pre W /\
  ∃ Ds:List Nat,a.defers=Ds.map zuZ/\Ds.Nodup/\∀ D∈Ds,W.heap[D]?=some (.deferred (some []))/\X D/\p.B<=D/\¬p.Xr D
section
variable {α:Type} {p:PC} {nt:Nat} {T J Jx:(Nat->Prop)->List α->World->Prop} {fs fs':FS} {a a':Act} {W W':World} {N N':Nat->Prop} {pre:List α}
theorem PS.mono(h:PS p T nt fs a W N pre)(hN:∀ b,N b->N' b):PS p T nt fs a W N' pre:=by
 obtain ⟨X,env,h1,h2,h3⟩:=h.ex;exact ⟨h.size,h.lo,h.wr,X,env,h1,fun b hb=>hN b (h2 b hb),h3⟩
theorem PS.le(h:PS p T nt fs a W N pre)(hl:FsLe fs fs'):PS p T nt fs' a W N pre:=by
 obtain ⟨X,env,h1,h2⟩:=h.ex;exact ⟨h.size,h.lo,h.wr,X,env,⟨fun b=>(hl _).cell (h1.rb b),fun n=>(hl _).slot (h1.rs n)⟩,h2⟩
theorem PS.setSlot(h:PS p T nt fs a W N pre){d:Nat}{v:Value}{c:Cell}(hd:d<nt)(hc:∀ h ok env,zbQ h ok env c v):PS p T nt (ovr fs [.w (.s d) c]) (a.put (some d) v) W N pre:=by
 obtain ⟨X,env,h1,h2,h3,h4,h5,h6,Ds,h7⟩:=h.ex;refine ⟨by rw [zpe];exact h.size,h.lo,h.wr,X,env,⟨fun b=>?_,fun n=>?_⟩,h2,h3,h4,h5,h6,Ds,by rw [zjQ];exact h7⟩
 . simp only [ovr];rw [zbh (show Loc.s d≠Loc.b b by simp),qaf];exact h1.rb b
 . rw [zpX _ _ _ _ (by simpa [zx5,h.size] using hd)]
   simp only [ovr];by_cases e:d=n
   . subst e;rw [if_pos rfl,zaO,qah];exact hc _ _ _
   . rw [if_neg (by simpa using e),zbh (show Loc.s d≠Loc.s n from fun h=>by cases h;exact e rfl),qaf];exact h1.rs n
theorem PS.into(hT:Free p.B T)(h:PS p T nt fs a W N pre):∃ cx,St cx nt fs a W N/\∀ (fs':FS) (a':Act) (W':World) (N':Nat->Prop),St cx nt fs' a' W' N'->PS p T nt (fun l=>(fs' l).frz) a' W' N' pre:=by
 obtain ⟨X,env,h1,h2,h3,h4,h5,h6,Ds,m1,m2,m3⟩:=h.ex;let cx:Cx:=⟨W,X,fun D=>D∈Ds,env,fun D=>D∈Ds⟩
 have hok:∀ c,X c->cx.ok (fun _=>none) c:=fun c hc=>⟨rfl,.inl hc⟩
 refine ⟨cx,⟨h.size,env,fun _=>none,⟨rfl,rfl,rfl,qao _,fun _ _ _=>⟨rfl,rfl⟩,fun _ _=>rfl,h2,fun _ _ h=>h⟩,fun b=>(h1.rb b).conv (fun _ h=>nomatch h) (fun c hc _=>⟨hok c hc,rfl⟩) (fun _ _ h=>h) (fun _ h=>nomatch h),fun n=>zbQ.mono (fun c hc _=>⟨hok c hc,rfl⟩) (fun _ _ h=>h) (h1.rs n),Ds,m1,m2,fun D hD=>⟨(m3 D hD).1,hok D (m3 D hD).2.1,.inr ⟨hD,hD⟩⟩⟩,fun fs' a' W' N' hS=>?_⟩
 obtain ⟨env',own',hw,hb,hs,Ds',n1,n2,n3⟩:=hS.ex;have hsz:W.heap.size<=W'.heap.size:=hw.size
 let X':Nat->Prop:=fun c=>c<W'.heap.size/\(X c\/W.heap.size<=c)
 have hlow:∀ c,cx.low c->X c\/W.heap.size<=c:=fun c hc=>hc.elim .inr fun q=>.inl (m3 c q.1).2.1
 have hoX:∀ c,cx.ok own' c->c<W'.heap.size->X' c/\W'.heap[c]?=W'.heap[c]?:=fun c hc hl=>⟨⟨hl,hc.2.elim .inl (hlow c)⟩,rfl⟩
 have hog:∀ g b,own' g=some b->X' g:=fun g b hg=>⟨hw.lt hg,(hw.ge hg).elim .inr fun q=>.inl (m3 g q).2.1⟩
 have hwent:Went p.B W W':=⟨hw.os,hw.tape,hw.output,hsz,fun c o ho hc=>by
  have hlt:=(qaL.1 ho).1;refine (hw.old c hlt fun hD=>?_).2.trans ho
  have:=m3 c hD
  rw [this.1]at ho;cases ho
  rcases hc with hc | hc
  . cases hc
  . have:=this.2.2.1;omega⟩
 have hsame:∀ c,X c->(∀ D∈Ds,D≠c)->W'.heap[c]?=W.heap[c]?:=fun c hc hD=>(hw.old c (h5 c hc) fun hm=>hD c hm rfl).2
 refine ⟨hS.size,qaA h.lo hsz,qaA h.wr hsz,X',env',⟨fun b=>(hb b).frz hoX (fun _ _ h=>h) fun g hg=>⟨hog g b hg,rfl⟩,fun n=>(zbQ.mono hoX (fun _ _ h=>h) (hs n)).frz⟩,hw.names,hw.fix 0 _ h3,⟨fun c hc=>⟨qbq (h5 c (h4.1 c hc)) hsz,.inl (h4.1 c hc)⟩,fun c hc=>⟨⟨qbq (h5 c (h4.2 c hc).1) hsz,.inl (h4.2 c hc).1⟩,(hsame c (h4.2 c hc).1 fun D hD e=>(m3 D hD).2.2.2 (e ▸ hc)).trans (h4.2 c hc).2⟩⟩,fun c hc=>hc.1,hT _ _ _ _ _ h6 hwent fun c hc=>⟨hc.2,hc.1⟩,Ds',n1,n2,fun D hD=>?_⟩
 obtain ⟨q1,q2,q3⟩:=n3 D hD;refine ⟨q1,(hoX D q2 (qaL.1 q1).1).1,?_⟩;rcases q3 with q3 | q3
 . refine ⟨qaA h.lo q3,fun hx=>?_⟩
   have:=h5 D (h4.2 D hx).1
   have q3:W.heap.size<=D:=q3
   omega
 . exact (m3 D q3.1).2.2
theorem PS.code{P:Program}{te:TE}{tbl:Tbl}{ann:Ann}(ht:TEok P te)(hTb:tbl.Sound P)(hA:ann.Sound P)(hmix:P.follows .mixedOrders=true)(hT:Free p.B T){c:Code}{fr:Option Nat}{m0 bid nx:Nat}{st:List Wr}{o:Out}{Q:Exit->Act->World->Prop}(hf:fr=none\/znX c=true)
 (h:PS p T nt (look st) a W (· < nx) pre) (hr:(runCode te tbl ann nt c bid nx st).ev=some o) (hQ:∀ a' W',PS p T nt (look (frzW (o.2.2++st))) a' W' (· < o.2.1) pre->Q (exOf o.1) a' W'):c.wpIn (Fw fr) m0 P Q a W:=by
 obtain ⟨cx,hS,hb⟩:=h.into hT;refine zbp ht hTb hA hmix c fr m0 cx bid nx hf st o a W Q hr hS fun a' W' hS'=>hQ a' W' ?_
 have:=hb _ _ _ _ hS'
 have e:(fun l=>(look (o.2.2++st) l).frz)=look (frzW (o.2.2++st)):=by funext l;exact zcy.symm
 rwa [e]at this
theorem PS.ops{P:Program}{te:TE}{tbl:Tbl}(ht:TEok P te)(hTb:tbl.Sound P)(hT:Free p.B T){ops:Array Oper}{fr:Option Nat}{m0 nx m k:Nat}{gs l rest:List Nat}{st w:List Wr}{Q:Exit->Act->World->Prop}
 (h:PS p T nt (look st) a W (· < nx+64*m) pre) (hr:(za4 te tbl ops nt nx gs none l st []).ev=some w) (hnd:l.Nodup) (hlo:∀ i∈l,m<=i) (hhi:∀ i∈l,i<k) (hmk:m<=k)
 (hQ:∀ a' W',PS p T nt (look (frzW (w++st))) a' W' (· < nx+64*k) pre->wpOpsIn (Fw fr) m0 P ops Q rest a' W'):wpOpsIn (Fw fr) m0 P ops Q (l++rest) a W:=by
 obtain ⟨cx,hS,hb⟩:=h.into hT;obtain ⟨tr,h1,h2,h3,_⟩:=zh2 hr;rw [<-h1];refine zpb ht hTb h2 hS (by rw [h1];exact hnd) (fun t ht b hb1 _ hb3=>?_) fun a' W' hS'=>hQ a' W' ?_
 . have:=hlo t.1 (by rw [<-h1];exact qav.2 ⟨t,ht,rfl⟩)
   omega
 . have hS2:St cx nt (look (w++st)) a' W' (· < nx+64*k):=by
    rw [zaH];refine (hS'.le h3).mono fun b hb=>?_
    rcases hb with hb | ⟨t,ht,hb⟩
    . omega
    . have:=hhi t.1 (by rw [<-h1];exact qav.2 ⟨t,ht,rfl⟩)
      omega
   have:=hb _ _ _ _ hS2
   have e:(fun l=>(look (w++st) l).frz)=look (frzW (w++st)):=by funext l;exact zcy.symm
   rwa [e]at this
theorem PS.yield{P:Program}{l:Nat}{encs:α->Array Value}{L:List α}{x:α}(h:PS p J nt fs a W N pre)
 (hY:∀ X pre x W1,J X pre W1->(∀ c,p.X0 c->X c)->(pre++[x]) <+: L->YieldAt Fence.wide 0 P l (encs x) W1 fun e W'=>
  (e = .returned (.bool true)/\J X (pre++[x]) W'/\Kept X W1 W')\/(e = .returned (.bool false)/\Jx X (pre++[x]) W'/\Kept X W1 W')) (hpre:(pre++[x]) <+: L) :
 YieldAt Fence.wide 0 P l (encs x) W fun e W'=>(e = .returned (.bool true)/\PS p J nt fs a W' N (pre++[x]))\/(e = .returned (.bool false)/\PS p Jx nt fs a W' N (pre++[x])):=by
 obtain ⟨X,env,h1,h2,h3,h4,h5,h6,Ds,m1,m2,m3⟩:=h.ex;obtain ⟨fn,tmps,assign,body,hy,hR⟩:=hY X pre x W h6 h4.1 hpre;refine ⟨fn,tmps,assign,body,hy,hR.mono fun e W' hp=>?_⟩
 have key:∀ {T:(Nat->Prop)->List α->World->Prop},T X (pre++[x]) W'->Kept X W W'->PS p T nt fs a W' N (pre++[x]):=fun hT hk=>
  ⟨h.size,qaA h.lo hk.size,qaA h.wr hk.size,X,env,h1.mono (fun c hc _=>⟨hc,hk.old c hc⟩) (fun _ _ h=>h),h2,h3,⟨h4.1,fun c hc=>⟨(h4.2 c hc).1,(hk.old c (h4.2 c hc).1).trans (h4.2 c hc).2⟩⟩,fun c hc=>qbq (h5 c hc) hk.size,hT,Ds,m1,m2,fun D hD=>⟨(hk.old D (m3 D hD).2.1).trans (m3 D hD).1,(m3 D hD).2⟩⟩
 rcases hp with ⟨h1,h2,h3⟩ | ⟨h1,h2,h3⟩
 . exact .inl ⟨h1,key h2 h3⟩
 . exact .inr ⟨h1,key h2 h3⟩
theorem zyp{P:Program}{ops:Array Oper}{fr:Option Nat}{m0 i l:Nat}{K:Act->World->Prop}{Q:Exit->Act->World->Prop}{o:Oper}{fo:Operand}{args:List Operand}{tys:Array TypeId}{vs:Array Value}{R:Ending->World->Prop}
 (ho:ops[i]?=some o) (hop:o.op = .call ⟨.value fo,⟨args⟩,tys⟩) (hgd:o.guard=none) (hf:a.eval fo = .func (.yield l) #[] #[]) (hvs:(⟨args⟩:Array Operand).map a.eval=vs) (hY:YieldAt Fence.wide 0 P l vs W R) (hR:∀ e W',R e W'->∃ v,e = .returned v/\K (a.put o.dst v) W'):wpOpIn (Fw fr) m0 P ops Q i K a W:=by
 unfold wpOpIn;rw [ho];simp only [Region.wanted,hgd,if_true];obtain ⟨fn,tmps,assign,body,hy,hRd⟩:=hY;obtain ⟨dst,op,ty,pos,after,guard⟩:=o;simp only at hop hgd
 subst hop hgd;have hx:(execOp a.eval ⟨dst,.call ⟨.value fo,⟨args⟩,tys⟩,ty,pos,after,none⟩).run P W = .ok (.round l fn tmps assign body) W:=by
  have e1:execOp a.eval ⟨dst,.call ⟨.value fo,⟨args⟩,tys⟩,ty,pos,after,none⟩=(do let d <-Deferred.ofValue (a.eval fo) ((⟨args⟩:Array Operand).map a.eval);invoke d.target d.args):=rfl
  rw [e1,hf,hvs];have e2:(do let d <-Deferred.ofValue (.func (.yield l) #[] #[]) vs;invoke d.target d.args:Sem Next)=Instr.yield l (#[]++vs ++ #[]):=rfl
  rw [e2];simpa using hy
 refine zuC hx (fun _ e=>by cases e) ⟨fun e=>by simp [Fw,Fence.wide]at e,⟨trivial,fun c cs _=>?_⟩⟩
 obtain ⟨e,w',r,s⟩:=hRd.2 c cs (room_wide _);obtain ⟨v,rfl,hK⟩:=hR e w' r;exact ⟨.returned v,w',hK,s⟩
end
end Go.VI
namespace Go.VI
open Go Go.RowKit
def lk{α:Type}:List (Nat×α)->Nat->Option α
 | [],_=>none
 | p::l,k=>if p.1=k then some p.2 else lk l k
theorem zk3{α:Type}:∀ {l:List (Nat×α)} {k:Nat} {v:α},(l.map (·.1)).Nodup->(k,v)∈l->lk l k=some v
 | p::l,k,v,hn,hm=>by
  simp only [qaX,qbD]at hn;simp only [lk];rcases qas.1 hm with rfl | hm
  . simp
  . rw [if_neg fun he=>hn.1 (qav.2 ⟨_,hm,he.symm⟩)]
    exact zk3 hn.2 hm
theorem zmt{α:Type}:∀ {l:List (Nat×α)} {k:Nat} {v:α},lk l k=some v->(k,v)∈l
 | p::l,k,v,h=>by
  simp only [lk]at h;split at h
  . rename_i he;cases h;subst he;simp
  . exact qaF _ (zmt h)
theorem zjI{α:Type}{l:List (Nat×α)}{k:Nat}(h:∀ v,(k,v) ∉ l):lk l k=none:=by
 cases hl:lk l k with
 | none=>rfl
 | some v=>exact absurd (zmt hl) (h v)
def fixL:List PTy->List Nat->Nat->List (Nat×Nat)
 | .val _::ps,gs,i=>fixL ps gs (i+1)
 | .ptr _ _::ps,g::gs,i=>(i,g)::fixL ps gs (i+1)
 | _,_,_=>[]
theorem zp2:∀ {ps:List PTy} {gs:List Nat} {i:Nat},∀ p∈fixL ps gs i,i<=p.1/\p.1<i+ps.length
 | [],_,_=>by simp [fixL]
 | .val _::ps,gs,i=>fun p hp=>by
  have:=zp2 (ps:=ps) p hp
  simp;omega
 | .ptr _ _::ps,[],i=>by simp [fixL]
 | .ptr _ _::ps,g::gs,i=>fun p hp=>by
  rcases qas.1 hp with rfl | hp
  . simp
  . have:=zp2 (ps:=ps) p hp
    simp;omega
theorem zlB:∀ {ps:List PTy} {gs:List Nat} {i:Nat},∀ p∈fixL ps gs i,p.2∈gs
 | [],_,_=>by simp [fixL]
 | .val _::ps,gs,i=>zlB (ps:=ps)
 | .ptr _ _::ps,[],i=>by simp [fixL]
 | .ptr _ _::ps,g::gs,i=>fun p hp=>by
  rcases qas.1 hp with rfl | hp
  . simp
  . exact qaF _ (zlB (ps:=ps) p hp)
theorem zfi:∀ {ps:List PTy} {gs:List Nat} {i:Nat},((fixL ps gs i).map (·.1)).Nodup
 | [],_,_=>by simp [fixL]
 | .val _::ps,gs,i=>zfi (ps:=ps)
 | .ptr _ _::ps,[],i=>by simp [fixL]
 | .ptr _ _::ps,g::gs,i=>by
  simp only [fixL,qaX,qbD];refine ⟨fun hm=>?_,zfi⟩
  obtain ⟨p,hp,he⟩:=qav.1 hm;have:=zp2 p hp
  omega
section
variable {h:Array Obj} {ok:Nat->Prop}
theorem zdp.nodup:∀ {ps:List PTy} {d:Pden ps} {args:List Value} {gs:List Nat} {i:Nat},zdp h ok ps d args gs->((fixL ps gs i).map (·.2)).Nodup
 | [],_,_,_,_,_=>by simp [fixL]
 | .val _::ps,d,x::xs,gs,i,ha=>zdp.nodup (ps:=ps) ha.2
 | .ptr _ _::ps,d,x::xs,g::gs,i,ha=>by
  obtain ⟨_,_,_,hg,ha⟩:=ha;simp only [fixL,qaX,qbD];refine ⟨fun hm=>?_,zdp.nodup (ps:=ps) ha⟩
  obtain ⟨p,hp,he⟩:=qav.1 hm;exact hg (he ▸ zlB p hp)
 | .val _::_,_,[],_,_,ha=>ha.elim
 | .ptr _ _::_,_,[],_,_,ha=>ha.elim
 | .ptr _ _::_,_,_::_,[],_,ha=>ha.elim
theorem zqe{ok':Nat->Prop}{env:Nm}(hok:∀ c,ok c->ok' c):∀ {ps:List PTy} {d:Pden ps} {args:List Value} {gs:List Nat} {i:Nat},zdp h ok ps d args gs ->
 (∀ p∈fixL ps gs i,env p.1=some (.pointer (some ⟨p.2,0,none⟩)))->All2 (AvR h ok' env) (ztW ps d i) args
 | [],_,[],[],_,_,_=>trivial
 | .val t::ps,d,x::xs,gs,i,ha,hf=>by
  obtain ⟨⟨cs,hx,hfit⟩,ha⟩:=ha;refine ⟨?_,zqe hok (ps:=ps) (i:=i+1) ha hf⟩
  rw [hx];exact zpS (hfit.mono fun c hc _=>⟨hok c hc,rfl⟩)
 | .ptr tt t::ps,d,x::xs,g::gs,i,ha,hf=>by
  obtain ⟨hx,_,_,_,ha⟩:=ha;refine ⟨?_,zqe hok (ps:=ps) (i:=i+1) ha fun p hp=>hf p (qaF _ hp)⟩
  rw [hx];exact ⟨g,hf (i,g) (by simp [fixL]),rfl⟩
 | .val _::_,_,[],_,_,ha,_=>ha.elim
 | .ptr _ _::_,_,[],_,_,ha,_=>ha.elim
 | .ptr _ _::_,_,_::_,[],_,ha,_=>ha.elim
 | [],_,_::_,_,_,ha,_=>by simp [zdp]at ha
 | [],_,[],_::_,_,ha,_=>ha.elim
theorem zgN:∀ {ps:List PTy} {d:Pden ps} {i n:Nat},look (zn1 ps d i) (.s n) = .no
 | [],_,_,_=>rfl
 | .val _::ps,d,i,n=>zgN (ps:=ps)
 | .ptr _ _::ps,d,i,n=>by
  simp only [zn1,look];rw [zbh (show Loc.b i≠Loc.s n by simp),qaf]
  exact zgN (ps:=ps)
theorem ztX{B:Nat->Prop}{ok':Nat->Prop}{env:Nm}{own:Ow}(hok:∀ c,ok c->ok' c):∀ {ps:List PTy} {d:Pden ps} {args:List Value} {gs:List Nat} {i:Nat},zdp h ok ps d args gs ->
 (∀ p∈fixL ps gs i,env p.1=some (.pointer (some ⟨p.2,0,none⟩))/\own p.2=some p.1)->∀ b,za9 B h ok' env own b (look (zn1 ps d i) (.b b))
 | [],_,_,_,_,_,_,_=>trivial
 | .val t::ps,d,x::xs,gs,i,ha,hf,b=>ztX hok (ps:=ps) (i:=i+1) ha.2 hf b
 | .ptr tt t::ps,d,x::xs,g::gs,i,ha,hf,b=>by
  obtain ⟨hx,⟨cs,hg,hfit⟩,_,_,ha⟩:=ha;have k1:=ztX (B:=B) hok (ps:=ps) (i:=i+1) ha (fun p hp=>hf p (qaF _ hp)) b
  have hf0:=hf (i,g) (by simp [fixL])
  simp only [zn1,look];by_cases hib:i=b
  . subst hib;rw [zaO,qah];exact ⟨g,cs,hf0.1,hg,zcZ (hfit.mono fun c hc _=>⟨hok c hc,rfl⟩),hf0.2⟩
  . rw [zbh (show Loc.b i≠Loc.b b from fun e=>by cases e;exact hib rfl),qaf]
    exact k1
 | .val _::_,_,[],_,_,ha,_,_=>ha.elim
 | .ptr _ _::_,_,[],_,_,ha,_,_=>ha.elim
 | .ptr _ _::_,_,_::_,[],_,ha,_,_=>ha.elim
theorem zeB{r:List Wr}:∀ {s:List AP} {as:List AV} {i b:Nat},look (zeC s as i++r) (.b b)=look r (.b b)
 | [],as,_,_=>by cases as <;> rfl
 | .p::s,[],_,_=>rfl
 | .p::s,a::as,i,b=>by
  simp only [zeC,qaM,look];rw [zbh (show Loc.s i≠Loc.b b by simp),qaf]
  exact zeB
 | .clo f n m::s,as,i,b=>by
  simp only [zeC,qaM,look];rw [zbh (show Loc.s i≠Loc.b b by simp),qaf]
  exact zeB
theorem zqj{ok':Nat->Prop}{env:Nm}:∀ {as:List AV} {cs:List Cp} {vs:List Value},zv8 as=some cs->All2 (AvR h ok' env) as vs->All2 (CpR h ok' env) cs vs
 | [],cs,[],hc,_=>by simp [zv8]at hc;subst hc;trivial
 | a::as,cs,v::vs,hc,hv=>by
  simp only [zv8]at hc;split at hc
  . rename_i c cs' h1 h2
    simp at hc;subst hc
    refine ⟨?_,zqj h2 hv.2⟩;unfold avCp at h1;split at h1
    . simp at h1;subst h1;exact hv.1
    . simp at h1;subst h1;exact hv.1
    . cases h1
  . cases hc
 | [],_,_::_,_,hv=>hv.elim
 | _::_,_,[],_,hv=>hv.elim
theorem zh0{ok':Nat->Prop}{env:Nm}{tm:Array Value}{r:List Wr}(hr:∀ n,look r (.s n) = .no):∀ {s:List AP} {as:List AV} {vals:List Value} {i:Nat},All2 (AvR h ok' env) as vals ->
 (∀ k v,(zbA s vals)[k]?=some v->tm.getD (i+k) undef=v)->∀ n,zbQ h ok' env (look (zeC s as i++r) (.s n)) (tm.getD n undef)
 | [],as,vals,i,_,_,n=>by
  have:zeC [] as i=[]:=by cases as <;> rfl
  rw [this,qaS,hr n];trivial
 | .p::s,[],vals,i,_,_,n=>by rw [show zeC (.p::s) [] i=[] from rfl,qaS,hr n];trivial
 | .p::s,a::as,v::vals,i,hv,ht,n=>by
  simp only [zeC,qaM,look];by_cases hin:i=n
  . subst hin;rw [zaO,qah];have:=ht 0 v rfl
    rw [qa9]at this;rw [this];exact hv.1
  . rw [zbh (show Loc.s i≠Loc.s n from fun e=>by cases e;exact hin rfl),qaf]
    exact zh0 hr (i:=i+1) hv.2 (fun k v hk=>by rw [show i+1+k=i+(k+1) by omega];exact ht (k+1) v (by simpa [zbA] using hk)) n
 | .clo f c m::s,as,vals,i,hv,ht,n=>by
  simp only [zeC,qaM,look];by_cases hin:i=n
  . subst hin;rw [zaO,qah];have:=ht 0 _ rfl
    rw [qa9]at this;rw [this];unfold cloC;split
    . rename_i fi ca h1 h2;exact ⟨_,_,rfl,zqj h1 (hv.take c),zqj h2 ((hv.drop c).take m)⟩
    . trivial
  . rw [zbh (show Loc.s i≠Loc.s n from fun e=>by cases e;exact hin rfl),qaf]
    exact zh0 hr (i:=i+1) (hv.drop (c+m)) (fun k v hk=>by rw [show i+1+k=i+(k+1) by omega];exact ht (k+1) v (by simpa [zbA] using hk)) n
 | .p::_,_::_,[],_,hv,_,_=>hv.elim
theorem zjL:∀ {s:List AP} {vs:List Value},(zbA s vs).length<=s.length
 | [],vs=>by cases vs <;> simp [zbA]
 | .p::s,[]=>by simp [zbA]
 | .p::s,v::vs=>by have:=zjL (s:=s) (vs:=vs);simp [zbA];omega
 | .clo f n m::s,vs=>by have:=zjL (s:=s) (vs:=vs.drop (n+m));simp [zbA];omega
end
def ptrV(g:Nat):Value:=.pointer (some ⟨g,0,none⟩)
theorem zyA{w:World}{ok:Nat->Prop}{ps:List PTy}{d:Pden ps}{args:List Value}{gs:List Nat}(ha:zdp w.heap ok ps d args gs){nt:Nat}{sh:List AP}(hnt:sh.length<=nt):
 St ⟨w,ok,(·∈gs),fun b=>(lk (fixL ps gs 0) b).map ptrV,fun _=>False⟩ nt (look (zbo sh ps d)) ⟨(zbA sh args).toArray++Array.replicate (nt-(zbA sh args).toArray.size) undef,[]⟩ w (· < ps.length):=by
 obtain ⟨hg,hl⟩:=ha.lt;have hgl:=zjL (s:=sh) (vs:=args)
 let own:Ow:=fun g=>lk ((fixL ps gs 0).map fun p=>(p.2,p.1)) g
 have hown:∀ c,c ∉ gs->own c=none:=fun c hc=>zjI fun v hv=>by
  obtain ⟨p,hp,he⟩:=qav.1 hv;cases he;exact hc (zlB p hp)
 have hn1:=zfi (ps:=ps) (gs:=gs) (i:=0)
 have hn2:(((fixL ps gs 0).map fun p=>(p.2,p.1)).map (·.1)).Nodup:=by
  have:=ha.nodup (i:=0)
  rw [List.map_map];exact this
 have hok:∀ c,ok c->(⟨w,ok,(·∈gs),fun b=>(lk (fixL ps gs 0) b).map ptrV,fun _=>False⟩:Cx).ok own c:=fun c hc=>⟨hown c fun hm=>(hg c hm).2 hc,.inl hc⟩
 have hfx:∀ p∈fixL ps gs 0,(fun b=>(lk (fixL ps gs 0) b).map ptrV:Nm) p.1=some (.pointer (some ⟨p.2,0,none⟩))/\own p.2=some p.1:=fun p hp=>⟨by
  show (lk (fixL ps gs 0) p.1).map ptrV=_
  rw [zk3 hn1 (show (p.1,p.2)∈_ from hp)];rfl,zk3 hn2 (qav.2 ⟨p,hp,rfl⟩)⟩
 have k1:∀ b,za9 (⟨w,ok,(·∈gs),fun b=>(lk (fixL ps gs 0) b).map ptrV,fun _=>False⟩:Cx).low w.heap ((⟨w,ok,(·∈gs),fun b=>(lk (fixL ps gs 0) b).map ptrV,fun _=>False⟩:Cx).ok own) (fun b=>(lk (fixL ps gs 0) b).map ptrV) own b (look (zbo sh ps d) (.b b)):=fun b=>by
  unfold zbo;rw [zeB];exact ztX hok ha hfx b
 have k2:=zh0 (s:=sh) (i:=0) (tm:=(zbA sh args).toArray++Array.replicate (nt-(zbA sh args).toArray.size) undef) (fun n=>zgN (ps:=ps) (d:=d) (i:=0)) (zqe (env:=fun b=>(lk (fixL ps gs 0) b).map ptrV) hok ha fun p hp=>(hfx p hp).1) fun k v hk=>by
  have hlt:=(qap.1 hk).1;rw [qaH,qbh,Array.getElem?_append_left (by simpa using hlt)]
  simp [hk]
 refine ⟨by simp;omega,_,own,⟨rfl,rfl,rfl,qao _,fun c _ hc=>⟨hown c hc,rfl⟩,fun c hc=>hown c fun hm=>by have:=(hg c hm).1;omega,fun b hb=>?_,fun b v h=>h⟩,k1,k2,.nil⟩
 cases hl:lk (fixL ps gs 0) b with
 | none=>simp [hl]at hb
 | some g=>have:=zp2 _ (zmt hl);simpa using this.2
end Go.VI
namespace Go.VI
open Go Go.RowKit
inductive PR (fs:FS):Lf->Lf->Prop where
 | kb (b:Bool):PR fs (.kb b) (.imm .bool b)
 | imm (t:Ty) (v:t.den):PR fs (.imm t v) (.imm t v)
 | nil (e:Ty):PR fs .nil (.imm (.slice e) [])
 | own (b:Nat) (m:Bool) (T:TypeId) (e:Ty) (l:List e.den) (h:fs (.b b) = .arr m T e l):PR fs (.own b) (.imm (.slice e) l)
 | sub (b lo n:Nat) (m:Bool) (T:TypeId) (e:Ty) (l:List e.den) (h:fs (.b b) = .arr m T e l):PR fs (.sub b e.size lo n) (.imm (.slice e) ((l.drop lo).take n))
 | raw (x:Lf) (h:x.isRaw=true):PR fs x .undef
 | nili (K:Nat) (t:Ty):PR fs (.imm (.ifo 0 .unit) none) (.imm (.ifo K t) none)
theorem zjS{t t':Ty}{v:t.den}{v':t'.den}(h:Ty.cast t t' v=some v'):(Lf.imm t v) = .imm t' v':=by
 unfold Ty.cast at h;split at h
 . rename_i he;have:=Ty.eqb_eq he
   subst this;simp at h
   rw [h]
 . cases h
def zqG(ws:Ws)(z:Lf):Prop:=∀ b,z.row=some b->∃ p∈ws,p.1=b
theorem zqG.mono{ws ws':Ws}{z:Lf}(h:zqG ws z)(hs:∀ p∈ws,p∈ws'):zqG ws' z:=fun b hb=>by
 obtain ⟨p,hp,he⟩:=h b hb;exact ⟨p,hs p hp,he⟩
section
variable {P:Program} {te:TE} {cx:Cx} {fs:FS} {w:World} {env:Nm} {own:Ow}
theorem zeJ:∀ {t:Ty} {zs:List Lf} {v:t.den} {rest:List Lf} {ws:Ws},(za2 true t zs).evs fs=some (v,rest,ws)->∃ z1,zs=z1++rest/\All2 (fun z x=>PR fs z x/\zqG ws z) z1 (flat t v)
 | .bool,x::r,v,rest,ws,h=>by
  obtain ⟨b,h1,h2⟩:=zaa.1 h;simp at h2
  obtain ⟨rfl,rfl,rfl⟩:=h2;refine ⟨[x],rfl,⟨?_,?_⟩,trivial⟩
  . unfold asBool at h1;split at h1
    . simp [T.evs]at h1;subst h1;exact .kb _
    . simp [T.evs]at h1;subst h1;exact .imm _ _
    . simp [T.evs]at h1
  . rintro b hb;cases x <;> simp [Lf.row]at hb <;> simp [asBool,T.evs]at h1
 | .int k,x::r,v,rest,ws,h=>by
  simp only [za2]at h;split at h
  . rename_i t0 v0;obtain ⟨b,h1,h2⟩:=zaa.1 h;simp at h2
    obtain ⟨rfl,rfl,rfl⟩:=h2;simp only [zcm,zbb]at h1;refine ⟨[.imm t0 v0],rfl,⟨?_,fun b hb=>by cases hb⟩,trivial⟩
    rw [zjS h1];exact .imm _ _
  . simp [T.evs]at h
 | .slice e,x::r,v,rest,ws,h=>by
  obtain ⟨⟨l,ws'⟩,h1,h2⟩:=zaa.1 h;simp at h2
  obtain ⟨rfl,rfl,rfl⟩:=h2;refine ⟨[x],rfl,?_,trivial⟩;unfold zl6 at h1;split at h1
  . simp [T.evs]at h1
    obtain ⟨rfl,rfl⟩:=h1;exact ⟨.nil e,fun b hb=>by cases hb⟩
  . obtain ⟨l',h3,h4⟩:=zaa.1 h1;simp only [zcm,zbb]at h3;simp at h4
    obtain ⟨rfl,rfl⟩:=h4;exact ⟨by rw [zjS h3];exact .imm _ _,fun b hb=>by cases hb⟩
  . rename_i b;obtain ⟨c,h3,h4⟩:=zaa.1 h1;simp only [zaS,Option.some.injEq]at h3;subst h3;split at h4
    . rename_i m TT e' l' hfs
      obtain ⟨l2,h5,h6⟩:=zaa.1 h4;simp only [zcm,zbb]at h5;simp at h6
      obtain ⟨rfl,rfl⟩:=h6;have:=zjS h5
      have he:e'=e:=by injection this with h;injection h
      subst he;injection this with _ hv
      subst hv;exact ⟨.own b m TT e' l' hfs,fun b' hb=>by cases hb;exact ⟨_,qaE.2 rfl,rfl⟩⟩
    . simp [T.evs]at h4
  . rename_i b sz lo n;obtain ⟨c,h3,h4⟩:=zaa.1 h1;simp only [zaS,Option.some.injEq]at h3;subst h3;split at h4
    . rename_i m TT e' l' hfs
      obtain ⟨l2,h5,h6⟩:=zaa.1 h4;obtain ⟨_,h7,h8⟩:=zaa.1 h6;simp only [zcm,zbb]at h5;have hsz:=qan (zah.1 h7);subst hsz;simp at h8
      obtain ⟨rfl,rfl⟩:=h8;have:=zjS h5
      have he:e'=e:=by injection this with h;injection h
      subst he;injection this with _ hv
      subst hv;exact ⟨.sub b lo n m TT e' l' hfs,fun b' hb=>by cases hb;exact ⟨_,qaE.2 rfl,rfl⟩⟩
    . simp [T.evs]at h4
  . simp [T.evs]at h1
 | .prod a b,zs,v,rest,ws,h=>by
  obtain ⟨⟨v1,r1,w1⟩,h1,h2⟩:=zaa.1 h;obtain ⟨⟨v2,r2,w2⟩,h3,h4⟩:=zaa.1 h2;simp at h4
  obtain ⟨rfl,rfl,rfl⟩:=h4;obtain ⟨z1,rfl,q1⟩:=zeJ h1;obtain ⟨z2,rfl,q2⟩:=zeJ h3;refine ⟨z1++z2,by simp,?_⟩
  exact (q1.mono fun _ _ h=>⟨h.1,h.2.mono fun p hp=>by simp [hp]⟩).append (q2.mono fun _ _ h=>⟨h.1,h.2.mono fun p hp=>by simp [hp]⟩)
 | .unit,zs,v,rest,ws,h=>by
  simp only [za2,T.evs_pure,Option.some.injEq,Prod.mk.injEq]at h;obtain ⟨_,rfl,rfl⟩:=h;exact ⟨[],rfl,trivial⟩
 | .raw k,x::r,v,rest,ws,h=>by
  simp only [za2]at h;obtain ⟨_,h1,h2⟩:=zaa.1 h;simp at h2
  obtain ⟨rfl,rfl⟩:=h2;have h1:=zah.1 h1;exact ⟨[x],rfl,⟨.raw x h1,fun b hb=>by cases x <;> simp [Lf.isRaw]at h1 <;> simp [Lf.row]at hb⟩,trivial⟩
 | .raw k,[],_,_,_,h=>by simp [za2,T.evs]at h
 | .ifo K t,x::r,v,rest,ws,h=>by
  simp only [za2]at h;split at h
  . rename_i t0 v0;obtain ⟨b,h1,h2⟩:=zaa.1 h;simp at h2
    obtain ⟨rfl,rfl,rfl⟩:=h2;refine ⟨[.imm t0 v0],rfl,⟨?_,fun b hb=>by cases hb⟩,trivial⟩
    unfold ifoT at h1;split at h1
    . split at h1
      . simp [T.evs]at h1;subst h1;exact .nili K t
      . simp [T.evs]at h1
    . simp only [zcm,zbb]at h1;rw [zjS h1];exact .imm _ _
  . simp [T.evs]at h
 | .ifo _ _,[],_,_,_,h=>by simp [za2,T.evs]at h
 | .bool,[],_,_,_,h=>by simp [za2,T.evs]at h
 | .int _,[],_,_,_,h=>by simp [za2,T.evs]at h
 | .slice _,[],_,_,_,h=>by simp [za2,T.evs]at h
theorem pr_frz(hB:RB cx fs w env own){z x:Lf}{c:Value}{ns:List Nat}{ws:Ws}{ok':Nat->Prop}{env':Nm}(hto:To cx w own ns ok')(hp:PR fs z x)(ho:zqG ws z)(hns:∀ p∈ws,p.1∈ns)(hz:LfR w.heap (cx.ok own) env z c):LfR w.heap ok' env' x c:=by
 cases hp with
 | kb b=>simpa [LfR,Fits] using hz
 | imm t v=>exact hto.fits0 hz
 | nil e=>simp only [LfR]at hz;subst hz;exact ⟨none,0,rfl,fun _=>rfl,by simp,by simp⟩
 | raw x h=>exact LfR.one hz
 | nili K t=>
  rcases hz with ⟨_,h⟩ | ⟨_,_,h,_⟩
  . exact .inl ⟨rfl,h⟩
  . cases h
 | own b m T e l h=>
  obtain ⟨p,hp,he⟩:=ho b rfl;have hbn:b∈ns:=he ▸ hns p hp;have hb:=hB b;rw [h]at hb;obtain ⟨v',e1,e2⟩:=hb;obtain ⟨hz1,_⟩:=hz;rw [e1]at hz1;simp at hz1;subst hz1
  rcases e2 with ⟨rfl,rfl⟩ | ⟨g,cap,cur,rfl,hg,q1,q2,q3,q4,q5,q6⟩
  . exact ⟨none,0,rfl,fun _=>rfl,by simp,by simp⟩
  . refine ⟨some ⟨g,0,none⟩,cap,rfl,by simp,fun y hy _=>?_,q1⟩
    simp at hy;subst hy
    refine ⟨rfl,hto.ok g ?_,cur,T,_,hg,by simp only [qaH,q3];exact qaT _ q1,fun i hi=>?_⟩
    . cases m with
      | true=>exact ⟨zdt (q5 rfl).1 hbn,.inr (q5 rfl).2⟩
      | false=>exact zdw (q6 rfl)
    . simpa using hto.fits0 (q4 i hi)
 | sub b lo n m T e l h=>
  obtain ⟨p,hp,he⟩:=ho b rfl;have hbn:b∈ns:=he ▸ hns p hp;have hb:=hB b;rw [h]at hb;obtain ⟨v',e1,e2⟩:=hb;obtain ⟨p0,len,c0,hx1,hx2,hx3,rfl⟩:=hz;rw [e1]at hx1;simp at hx1;subst hx1
  rcases e2 with ⟨hr1,rfl⟩ | ⟨g,cap,cur,hr1,hg,q1,q2,q3,q4,q5,q6⟩
  . obtain ⟨rfl,rfl,rfl⟩:=Value.slice.inj hr1;have hlo:lo=0:=by omega
    have hn0:n=0:=by omega
    subst hlo;subst hn0
    exact ⟨none,0,rfl,fun _=>rfl,by simp,by simp⟩
  . obtain ⟨rfl,rfl,rfl⟩:=Value.slice.inj hr1;have hlen:((l.drop lo).take n).length=n:=by simp;omega
    refine ⟨_,c0-lo,by rw [hlen],fun h0=>?_,fun y hy hne=>?_,by rw [hlen];omega⟩
    . split at h0 <;> cases h0
    . have hn:n≠0:=fun h0=>hne (by rw [h0];simp)
      rw [if_neg (by omega)]at hy
      simp only [qbI,Option.some.injEq]at hy;rw [Addr.add_lit,qaH]at hy;subst hy;refine ⟨rfl,hto.ok g ?_,cur,T,_,hg,by rw [hlen,q3,<-qaO];exact qaT _ (by omega),fun i hi=>?_⟩
      . cases m with
        | true=>exact ⟨zdt (q5 rfl).1 hbn,.inr (q5 rfl).2⟩
        | false=>exact zdw (q6 rfl)
      . have:=q4 (lo+i) (by rw [hlen]at hi;omega)
        rw [qaO]at this;simpa [qcd,qcj] using hto.fits0 this
def outV:List Lf->List (Option TypeId)->List Value->Nat->List (Nat×Value)×List (Nat×Nat)×Nat
 | y::ys,some _::os,c::cs,nm=>
  let r:=outV ys os cs (nm+1)
  ((nm,c)::r.1,(match y with
   | .own b=>(b,nm)::r.2.1
   | _=>r.2.1),r.2.2)
 | _::ys,none::os,_::cs,nm=>outV ys os cs nm
 | _,_,_,nm=>([],[],nm)
def zaL:Ws->List Nat
 | []=>[]
 | (b,.no)::r=>b::zaL r
 | _::r=>zaL r
def blkV:Value->Option Nat
 | .slice (some a) _ _=>some a.block
 | .pointer (some a)=>some a.block
 | _=>none
structure Outs (own:Ow) (B:Nat->Prop) (V:List (Nat×Value)) (K:List (Nat×Nat)) (ec:Nm) (oc:Ow):Prop where
 val:∀ p∈V,ec p.1=some p.2
 row:∀ p∈K,∀ g,own g=some p.1->B g->(∃ v,ec p.2=some v/\blkV v=some g)->oc g=some p.2
theorem zix(hB:RB cx fs w env own){ns:List Nat}{ok':Nat->Prop}{ec:Nm}{oc:Ow}(hto:To cx w own ns ok'){w2:Ws}(hns:∀ p∈w2,p.1∈ns):∀ {ys zs xs:List Lf} {os:List (Option TypeId)} {w1:Ws} {cs:List Value} {nm:Nat},(outL ys os).evs fs=some (zs,w1) ->
 All2 (fun z x=>PR fs z x/\zqG w2 z) zs xs->All2 (LfR w.heap (cx.ok own) env) ys cs->Outs own cx.low (outV ys os cs nm).1 (outV ys os cs nm).2.1 ec oc ->
 All2 (LfR w.heap ok' ec) (ownL xs os nm).1 cs/\(∀ p∈(ownL xs os nm).2.1,za9 cx.low w.heap ok' ec oc p.1 p.2)/\(ownL xs os nm).2.2=(outV ys os cs nm).2.2
 | [],zs,xs,os,w1,cs,nm,h,hp,hy,_=>by
  have h':zs=[]:=by cases os <;> (simp [outL,T.evs]at h;exact h.1.symm ▸ rfl)
  subst h'
  cases xs with
  | cons _ _=>exact hp.elim
  | nil=>
   cases cs with
   | cons _ _=>exact hy.elim
   | nil=>cases os <;> simp [ownL,outV,All2]
 | y::ys,zs,xs,some tt::os,w1,cs,nm,h,hp,hy,ho=>by
  simp only [outL]at h;obtain ⟨⟨z,u1⟩,h1,h2⟩:=zaa.1 h;obtain ⟨⟨zs',u2⟩,h3,h4⟩:=zaa.1 h2;simp at h4
  obtain ⟨rfl,rfl⟩:=h4;cases xs with
  | nil=>exact hp.elim
  | cons x xs=>
   cases cs with
   | nil=>exact hy.elim
   | cons c cs=>
    have ho':Outs own cx.low (outV ys os cs (nm+1)).1 (outV ys os cs (nm+1)).2.1 ec oc:=by
     refine ⟨fun p hp=>ho.val p (by simp [outV,hp]),fun p hp=>ho.row p ?_⟩
     simp only [outV];split
     . exact qaF _ hp
     . exact hp
    obtain ⟨i1,i2,i3⟩:=zix hB hto hns h3 hp.2 hy.2 ho';have hc:=ho.val (nm,c) (by simp [outV])
    have hsl:∃ p n k,c = .slice p n k:=by
     split at h1
     . exact hy.1.2
     . exact ⟨_,_,_,hy.1⟩
     . simp [T.evs]at h1
    have hx:∃ e l,x = .imm (.slice e) l/\za9 cx.low w.heap ok' ec oc nm (.arr true tt e l):=by
     split at h1
     . rename_i b;obtain ⟨cl,h5,h6⟩:=zaa.1 h1;simp only [zaS,Option.some.injEq]at h5;subst h5;split at h6
       . rename_i T' e l hfs
         obtain ⟨_,h7,h8⟩:=zaa.1 h6;simp at h8
         obtain ⟨rfl,rfl⟩:=h8;have hT:=qan (zah.1 h7);subst hT;have hpr:=hp.1.1;cases hpr with
         | raw x h=>simp [Lf.isRaw]at h
         | imm t v=>
          refine ⟨e,l,rfl,c,hc,?_⟩;have hb:=hB b;rw [hfs]at hb;obtain ⟨v',e1,e2⟩:=hb;obtain ⟨hz1,_⟩:=hy.1;rw [e1]at hz1;simp at hz1;subst hz1
          refine e2.imp id ?_;rintro ⟨g,cap,cur,rfl,hg,q1,q2,q3,q4,q5,q6⟩;exact ⟨g,cap,cur,rfl,hg,q1,q2,q3,fun i hi=>hto.fits0 (q4 i hi),fun _=>⟨ho.row (b,nm) (by simp [outV]) g (q5 rfl).1 (q5 rfl).2 ⟨_,hc,rfl⟩,(q5 rfl).2⟩,fun h=>by cases h⟩
       . simp [T.evs]at h6
     . simp [T.evs]at h1
       obtain ⟨rfl,rfl⟩:=h1;have hpr:=hp.1.1;cases hpr with
       | raw x h=>simp [Lf.isRaw]at h
       | nil e=>
        have hcn:c = .slice none 0 0:=hy.1
        exact ⟨e,[],rfl,c,hc,.inl ⟨hcn,rfl⟩⟩
     . simp [T.evs]at h1
    obtain ⟨e,l,rfl,hcell⟩:=hx;simp only [ownL,outV];refine ⟨⟨⟨hc,hsl⟩,i1⟩,fun p hp=>?_,i3⟩
    rcases qas.1 hp with rfl | hp
    . exact hcell
    . exact i2 p hp
 | y::ys,zs,xs,none::os,w1,cs,nm,h,hp,hy,ho=>by
  simp only [outL]at h;obtain ⟨⟨zs',u2⟩,h3,h4⟩:=zaa.1 h;simp at h4
  obtain ⟨rfl,rfl⟩:=h4;cases xs with
  | nil=>exact hp.elim
  | cons x xs=>
   cases cs with
   | nil=>exact hy.elim
   | cons c cs=>
    obtain ⟨i1,i2,i3⟩:=zix hB hto hns (nm:=nm) h3 hp.2 hy.2 (by simpa [outV] using ho)
    have hx:LfR w.heap ok' ec x c:=pr_frz hB hto hp.1.1 hp.1.2 hns hy.1;have:ownL (x::xs) (none::os) nm=(x::(ownL xs os nm).1,(ownL xs os nm).2):=by
     cases x <;> first | rfl | (rename_i t v;cases t <;> rfl)
    rw [this];exact ⟨⟨hx,i1⟩,i2,by simpa [outV] using i3⟩
 | _::_,_,_,[],_,_,_,h,_,_,_=>by simp [outL,T.evs]at h
theorem zeK:∀ {ys zs:List Lf} {os:List (Option TypeId)} {w1:Ws} {cs:List Value} {nm:Nat},(outL ys os).evs fs=some (zs,w1)->ys.length=cs.length ->
 (outV ys os cs nm).1.map (·.1)=List.range' nm ((outV ys os cs nm).2.2-nm)/\nm<=(outV ys os cs nm).2.2/\(outV ys os cs nm).2.1.map (·.1)=zaL w1/\∀ p∈w1,p.2 = .no
 | [],zs,os,w1,cs,nm,h,hl=>by
  have:w1=[]:=by cases os <;> (simp [outL,T.evs]at h;exact h.2.symm ▸ rfl)
  subst this;cases cs with
  | nil=>cases os <;> simp [outV,zaL]
  | cons _ _=>simp at hl
 | y::ys,zs,some tt::os,w1,cs,nm,h,hl=>by
  simp only [outL]at h;obtain ⟨⟨z,u1⟩,h1,h2⟩:=zaa.1 h;obtain ⟨⟨zs',u2⟩,h3,h4⟩:=zaa.1 h2;simp at h4
  obtain ⟨rfl,rfl⟩:=h4;cases cs with
  | nil=>simp at hl
  | cons c cs=>
   obtain ⟨i1,i2,i3,i4⟩:=zeK (nm:=nm+1) h3 (by simpa using hl)
   simp only [outV];refine ⟨?_,by omega,?_,?_⟩
   . rw [qaX,i1,show (outV ys os cs (nm+1)).2.2-nm=((outV ys os cs (nm+1)).2.2-(nm+1))+1 by omega,qcs]
   . split at h1
     . obtain ⟨cl,h5,h6⟩:=zaa.1 h1;split at h6
       . obtain ⟨_,h7,h8⟩:=zaa.1 h6;simp at h8
         obtain ⟨rfl,rfl⟩:=h8;simp [zaL,i3]
       . simp [T.evs]at h6
     . simp [T.evs]at h1
       obtain ⟨rfl,rfl⟩:=h1;simpa using i3
     . simp [T.evs]at h1
   . split at h1
     . obtain ⟨cl,h5,h6⟩:=zaa.1 h1;split at h6
       . obtain ⟨_,h7,h8⟩:=zaa.1 h6;simp at h8
         obtain ⟨rfl,rfl⟩:=h8;intro p hp;simp at hp
         rcases hp with rfl | hp
         . rfl
         . exact i4 p hp
       . simp [T.evs]at h6
     . simp [T.evs]at h1
       obtain ⟨rfl,rfl⟩:=h1;simpa using i4
     . simp [T.evs]at h1
 | y::ys,zs,none::os,w1,cs,nm,h,hl=>by
  simp only [outL]at h;obtain ⟨⟨zs',u2⟩,h3,h4⟩:=zaa.1 h;simp at h4
  obtain ⟨rfl,rfl⟩:=h4;cases cs with
  | nil=>simp at hl
  | cons c cs=>
   simp only [outV];exact zeK h3 (by simpa using hl)
 | _::_,_,[],_,_,_,h,_=>by simp [outL,T.evs]at h
end
end Go.VI
