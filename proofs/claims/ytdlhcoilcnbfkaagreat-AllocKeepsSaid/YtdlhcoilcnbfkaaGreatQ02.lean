import Derived.Test.YtdlhcoilcnbfkaaGreatQ01
import Derived.Laws.CopyRow
import Derived.Laws.IdiomCopy
import Derived.Deep.LoopGhost
import Derived.Scope
import Derived.Laws.Cover3
import Derived.ChangeArms
import Derived.DataReads
import Derived.WideShapes
import Derived.RowKit2
set_option linter.unusedSimpArgs false
set_option linter.unusedVariables false
set_option maxRecDepth 100000
set_option maxHeartbeats 4000000
namespace Go.VI
open Go Go.RowKit
section
variable {P:Program} {te:TE} {cx:Cx} {fs:FS} {w:World} {env:Nm} {own:Ow} {N:Nat->Prop}
theorem cast_list {e e':Ty} {l':List e'.den} {l:List e.den} (h:Ty.cast (.slice e') (.slice e) l'=some l):∃ he:e'=e,he ▸ l'=l:=by
 unfold Ty.cast at h
 split at h
 · rename_i he
   have:=Ty.eqb_eq he
   injection this with this
   subst this
   simp at h
   exact ⟨rfl,h⟩
 · cases h
theorem ones_of {h:Array Obj} {ok:Nat->Prop} {e:Ty} {l:List e.den} {cs:List Value} (hl:cs.length=l.length) (hf:∀ i (hi:i < l.length),Fits h ok e l[i] ((cs.drop i).take 1)):∀ v∈cs,v.oneCell'=true:=by
 intro v hv
 obtain ⟨i,hi,rfl⟩:=List.getElem_of_mem hv
 refine (hf i (by omega)).one _ ?_
 rw [List.drop_eq_getElem_cons hi,List.take_succ_cons]
 exact List.mem_cons_self ..
theorem copy_into (hw:RW cx w env own N) (hb:RB cx fs w env own) {t elem ty:TypeId} {i:TypeInfo} (hu:P.underlying t=some (.slice elem)) (hi:P.info? elem=some i) {e:Ty} (hsz:i.size=e.size) (he:e.size=1)
 {y:Lf} {vy:Value} {m:List e.den} {wy:Ws} (hm:(packS false e y).evs fs=some (m,wy)) (hy:LfR w.heap (cx.ok own) env y vy)
 {b:Nat} {T:TypeId} {l:List e.den} (hfs:fs (.b b) = .arr true T e l) {p:Option Addr} {len c lo n:Nat} (hv:env b=some (.slice p len c)) (hlo:lo+n<=len) (hlc:len<=c) {vx:Value} (hx:vx = .slice (if c=lo then p else p.map (·.add lo)) n (c - lo)) :
 ∃ w',(Builtin.copy_ #[t,t] ty #[vx,vy]).run P w = .ok (.int .i64 (min m.length n:Nat)) w'/\Post cx fs w env own [(b,.arr true T e (l.take lo ++ (m.take n ++ l.drop (lo+min m.length n))))] w' env own N:=by
 obtain ⟨⟨q,cy,hvy,hqn,hrow,_⟩,_⟩:=packS_src hb hm hy
 subst hvy;subst hx
 have hbb:=hb b
 rw [hfs] at hbb
 obtain ⟨v',hv',hr⟩:=hbb
 rw [hv] at hv'
 simp at hv';subst hv'
 have hs1:(P.info? elem).map (·.size)=some 1:=by simp [hi,hsz,he]
 have same:∀ {l':List e.den},l'=l->Post cx fs w env own [(b,.arr true T e l')] w env own N:=fun {l'} h=>by
  subst h
  refine ⟨hw,fun b'=>?_,.refl,Nat.le_refl _⟩
  by_cases hbn:b'=b
  · subst hbn;rw [upd_cons_same,<-hfs];exact hb b'
  · rw [upd_cons_ne (Ne.symm hbn)];exact hb b'
 by_cases h0:min m.length n=0
 · refine ⟨w,?_,same ?_⟩
   · rw [run_copy_none (P:=P) w t t ty elem _ _ _ _ _ _ hu hs1 h0,h0];rfl
   · have hmt:m.take n=[]:=List.eq_nil_of_length_eq_zero (by rw [List.length_take];omega)
     rw [h0,hmt,Nat.add_zero,List.nil_append,List.take_append_drop]
 · rcases hr with ⟨hr1,rfl⟩ | ⟨g,cap,cur,hr1,hg,h1,h2,h3,h4,h5,h6⟩
   · obtain ⟨_,e2,e3⟩:=Value.slice.inj hr1
     have:n=0:=by omega
     rw [this] at h0
     simp at h0
   · injection hr1 with e1 e2 e3
     subst e1;subst e2;subst e3
     rw [he,Nat.mul_one] at h3
     obtain ⟨hown,hge⟩:=h5 rfl
     cases q with
     | none=>have:=hqn rfl;subst this;simp at h0
     | some ya =>
      obtain ⟨hsp,cury,Ty',fy,hgy,hley,hfity,_⟩:=hrow ya rfl (fun h=>h0 (by simp [h]))
      rw [he,Nat.mul_one] at hley
      let cs:List Value:=(cury.toList.drop ya.off).take (min m.length n)
      have hcs:cs.length=Nat.min m.length n:=by
       simp only [cs,List.length_take,List.length_drop,Array.length_toList]
       show min _ _=min _ _
       omega
      have hcf:∀ i (hi:i < (m.take n).length),Fits w.heap (cx.ok own) e (m.take n)[i] ((cs.drop i).take 1):=fun i hi=>by
       have him:i < m.length:=by simp at hi;omega
       have:=hfity i him
       rw [he,Nat.mul_one] at this
       have e1:(cs.drop i).take 1=(cury.toList.drop (ya.off+i)).take 1:=by
        simp only [cs,List.drop_take,List.take_take,List.drop_drop]
        congr 1
        simp at hi
        omega
       rw [e1]
       simpa [List.getElem_take] using this
      have hones:=ones_of (l:=m.take n) (cs:=cs) (by rw [hcs,List.length_take];show min _ _=min _ _;omega) hcf
      have hrun:=run_copy_row (P:=P) w t t ty elem g lo n (c - lo) ya m.length cy cur T cs hu hs1 hg hcs (src_cells hsp hgy _) (by rw [hcs,h3];show lo+min _ _<=_;omega) hones
      rw [if_neg (by omega)]
      simp only [Option.map_some,Addr.add_lit,Nat.zero_add]
      refine ⟨_,hrun.trans (by rw [show goInt (cs.length:Int)=Value.int .i64 (min m.length n:Nat) from by rw [hcs];rfl]),Post.write hw hb hown ⟨_,hv,.inr ⟨g,c,_,?_,setRow_heap w g cur _ T _ hg,?_,h2,?_,fun i hi=>?_,fun _=>⟨hown,hge⟩,fun h=>by cases h⟩⟩⟩
      · congr 1
        simp only [List.length_append,List.length_take,List.length_drop]
        omega
      · simp only [List.length_append,List.length_take,List.length_drop]
        omega
      · rw [he,Nat.mul_one]
        simp only [List.size_toArray,List.length_append,List.length_take,List.length_drop,Array.length_toList,hcs]
        show min lo cur.size+min m.length n+(cur.size - (lo+min m.length n))=c
        omega
      · have hH:=(ext_write (cx:=cx) (w:=w) (env:=env) hown (cur.toList.take lo ++ cs ++ cur.toList.drop (lo+cs.length)).toArray).heap
        rw [he,Nat.mul_one]
        simp only
        have hcl:cs.length=min m.length n:=hcs
        have hlt:i < l.length:=by simp only [List.length_append,List.length_take,List.length_drop] at hi;omega
        have h4':∀ j (hj:j < l.length),Fits w.heap (cx.ok own) e l[j] ((cur.toList.drop j).take 1):=fun j hj=>by
         have:=h4 j hj
         rwa [he,Nat.mul_one] at this
        refine Fits.mono hH ?_
        have hcur:cur.toList.length=c:=by simpa using h3
        by_cases hi1:i < lo
        · have e1:(l.take lo ++ (m.take n ++ l.drop (lo+min m.length n)))[i]=l[i]:=by
           rw [List.getElem_append_left (by simp;omega)];simp
          have e2:((cur.toList.take lo ++ cs ++ cur.toList.drop (lo+cs.length)).drop i).take 1=(cur.toList.drop i).take 1:=by
           rw [List.append_assoc,List.drop_append_of_le_length (by simp;omega),List.take_append_of_le_length (by simp;omega),List.drop_take,List.take_take]
           congr 1;omega
          rw [e1,e2];exact h4' i hlt
        · by_cases hi2:i < lo+min m.length n
          · have hin:i - lo < (m.take n).length:=by simp;omega
            have e1:(l.take lo ++ (m.take n ++ l.drop (lo+min m.length n)))[i]=(m.take n)[i - lo]:=by
             rw [List.getElem_append_right (by simp;omega)]
             simp only [List.length_take,Nat.min_eq_left (show lo<=l.length by omega)]
             rw [List.getElem_append_left hin]
            have e2:((cur.toList.take lo ++ cs ++ cur.toList.drop (lo+cs.length)).drop i).take 1=(cs.drop (i - lo)).take 1:=by
             rw [List.append_assoc,List.drop_append,List.drop_of_length_le (by simp;omega),List.nil_append]
             simp only [List.length_take,hcur,Nat.min_eq_left (show lo<=c by omega)]
             rw [List.drop_append_of_le_length (by omega),List.take_append_of_le_length (by simp;omega)]
            rw [e1,e2];exact hcf (i - lo) hin
          · have e1:(l.take lo ++ (m.take n ++ l.drop (lo+min m.length n)))[i]=l[i]:=by
             rw [List.getElem_append_right (by simp;omega)]
             simp only [List.length_take,Nat.min_eq_left (show lo<=l.length by omega)]
             rw [List.getElem_append_right (by simp;omega)]
             simp only [List.length_take,List.getElem_drop]
             congr 1
             omega
            have e2:((cur.toList.take lo ++ cs ++ cur.toList.drop (lo+cs.length)).drop i).take 1=(cur.toList.drop i).take 1:=by
             rw [List.drop_append,List.drop_of_length_le (by simp;omega),List.nil_append,List.drop_drop]
             simp only [List.length_append,List.length_take,hcur,Nat.min_eq_left (show lo<=c by omega)]
             congr 2
             omega
            rw [e1,e2];exact h4' i hlt
theorem copy_ok (ht:TEok P te) (hw:RW cx w env own N) (hb:RB cx fs w env own) {t ty:TypeId} {x y a:Lf} {vx vy:Value} {bw:Ws} (h:(copyT te t x y).evs fs=some (a,bw))
 (hx:LfR w.heap (cx.ok own) env x vx) (hy:LfR w.heap (cx.ok own) env y vy) :
 ∃ v w',(Builtin.copy_ #[t,t] ty #[vx,vy]).run P w = .ok v w'/\Post cx fs w env own bw w' env own N/\LfR w'.heap (cx.ok own) env a v:=by
 obtain ⟨r,h1,h2⟩:=evs_bind_some.1 h
 obtain ⟨htr,hr⟩:=tyT_ok ht h1
 subst htr
 split at h2
 · rename_i e hty
   obtain ⟨hu,i,z,hi,hsz,_⟩:=hr.slice e hty
   obtain ⟨_,h3,h4⟩:=evs_bind_some.1 h2
   have he:=Nat.eq_of_beq_eq_true (evs_guard.1 h3)
   obtain ⟨⟨m,wy⟩,h5,h6⟩:=evs_bind_some.1 h4
   dsimp only at h6
   split at h6
   · rename_i b
     obtain ⟨cl,h7,h8⟩:=evs_bind_some.1 h6
     simp only [evs_rdB,Option.some.injEq] at h7
     subst h7
     split at h8
     · rename_i TT e' l' hfs
       obtain ⟨l,h9,h10⟩:=evs_bind_some.1 h8
       simp only [castT,evs_opt] at h9
       obtain ⟨rfl,hl⟩:=cast_list h9
       simp only at hl;subst hl
       simp at h10
       obtain ⟨rfl,rfl⟩:=h10
       obtain ⟨hx1,p,n,c,rfl⟩:=hx
       have hbb:=hb b
       rw [hfs] at hbb
       obtain ⟨v',hv',hr'⟩:=hbb
       rw [hx1] at hv'
       simp at hv';subst hv'
       have hlen:n=l'.length/\n<=c:=by
        rcases hr' with ⟨q,rfl⟩ | ⟨g,cap,cur,q,_,q1,_⟩
        · injection q with _ q2 q3;subst q2;subst q3;simp
        · injection q with _ q2 q3;subst q2;subst q3;exact ⟨rfl,q1⟩
       obtain ⟨rfl,hnc⟩:=hlen
       have hvx:(Value.slice p l'.length c) = .slice (if c=0 then p else p.map (·.add 0)) l'.length (c - 0):=by
        have:p.map (·.add 0)=p:=by cases p <;> simp [Addr.add]
        simp [this]
       obtain ⟨w',q1,q2⟩:=copy_into (ty:=ty) hw hb hu hi hsz he h5 hy hfs hx1 (lo:=0) (n:=l'.length) (by omega) hnc hvx
       refine ⟨_,w',q1,?_,by simp [LfR,Fits]⟩
       have e1:l'.take 0 ++ (m.take l'.length ++ l'.drop (0+min m.length l'.length))=m.take l'.length ++ l'.drop m.length:=by
        rw [List.take_zero,List.nil_append,Nat.zero_add]
        congr 1
        by_cases hml:m.length<=l'.length
        · rw [Nat.min_eq_left hml]
        · rw [Nat.min_eq_right (by omega),List.drop_of_length_le (by omega),List.drop_of_length_le (by omega)]
       rw [e1] at q2;exact q2
     · simp [T.evs] at h8
   · rename_i b sz lo n
     obtain ⟨cl,h7,h8⟩:=evs_bind_some.1 h6
     simp only [evs_rdB,Option.some.injEq] at h7
     subst h7
     split at h8
     · rename_i TT e' l' hfs
       obtain ⟨l,h9,h10⟩:=evs_bind_some.1 h8
       obtain ⟨_,h11,h12⟩:=evs_bind_some.1 h10
       have hsz1:=Nat.eq_of_beq_eq_true (evs_guard.1 h11)
       subst hsz1
       simp only [castT,evs_opt] at h9
       obtain ⟨rfl,hl⟩:=cast_list h9
       simp only at hl;subst hl
       simp at h12
       obtain ⟨rfl,rfl⟩:=h12
       obtain ⟨p,len,c,q1,q2,q3,rfl⟩:=hx
       obtain ⟨w',q4,q5⟩:=copy_into (ty:=ty) hw hb hu hi hsz he h5 hy hfs q1 q2 q3 (vx:=.slice (if c=lo then p else p.map (·.add (lo*1))) n (c - lo)) (by rw [Nat.mul_one])
       exact ⟨_,w',q4,q5,by simp [LfR,Fits]⟩
     · simp [T.evs] at h8
   · simp [T.evs] at h6
 · simp [T.evs] at h2
end
end Go.VI
namespace Go.VI
open Go Go.RowKit
section
variable {P:Program} {te:TE} {tbl:Tbl} {cx:Cx} {fs:FS} {w:World} {env:Nm} {own:Ow} {N:Nat->Prop} {o:Oper} {act:Act} {K:Act->World->Prop} {Q:Exit->Act->World->Prop}
theorem wp_val {v:Value} {w':World} (h:(execOp act.eval o).run P w = .ok (.value v) w') (k:K (act.put o.dst v) w'):o.wp P act w K Q:=by
 unfold Oper.wp;rw [h];exact k
theorem wp_skp {w':World} (h:(execOp act.eval o).run P w = .ok .skip w') (k:K (act.put o.dst undef) w'):o.wp P act w K Q:=by
 unfold Oper.wp;rw [h];exact k
def ResOk (h:Array Obj) (ok:Nat->Prop) (env:Nm) (a:Option AV) (v:Value):Prop:=match a with
 | some a=>AvR h ok env a v
 | none=>v=undef
theorem evs_one {t:T Lf} {r:Option AV × Ws} (h:T.evs fs (do pure (some (AV.v (A1.one (<-t))),[]))=some r):∃ x,t.evs fs=some x/\r=(some (.v (.one x)),[]):=by
 obtain ⟨x,h1,h2⟩:=evs_bind_some.1 h
 simp at h2
 exact ⟨x,h1,h2.symm⟩
theorem op_wp (ht:TEok P te) (hT:tbl.Sound P) (hw:RW cx w env own N) (hb:RB cx fs w env own) (hs:RS cx fs act.tmps w env own) {nm:Nat} (hn:∀ b,nm<=b->b < nm+64->¬N b) {r:Option AV × Ws} (h:(semOp te tbl o nm).evs fs=some r)
 (hK:∀ v w' env' own',Post cx fs w env own r.2 w' env' own' (fun b=>N b\/(nm<=b/\b < nm+64))->ResOk w'.heap (cx.ok own') env' r.1 v->K (act.put o.dst v) w'):o.wp P act w K Q:=by
 have hn0:¬N nm:=hn nm (by omega) (by omega)
 have hid:Post cx fs w env own [] w env own (fun b=>N b\/(nm<=b/\b < nm+64)):=(Post.refl hw hb).mono fun _ h=>.inl h
 have hnm:∀ b,(N b\/b=nm)->(N b\/(nm<=b/\b < nm+64)):=fun b h=>h.imp id fun h=>by omega
 obtain ⟨dst,op,ty,pos,after,guard⟩:=o
 cases op
 case move x =>
  obtain ⟨a,h1,h2⟩:=evs_bind_some.1 h
  simp at h2;subst h2
  exact wp_val (v:=act.eval x) (w':=w) (by simp [execOp]) (hK _ _ _ _ hid (rdO_ok hs h1))
 case assign x =>
  obtain ⟨a,h1,h2⟩:=evs_bind_some.1 h
  simp at h2;subst h2
  exact wp_val (v:=act.eval x) (w':=w) (by simp [execOp]) (hK _ _ _ _ hid (rdO_ok hs h1))
 case pick c a b =>
  obtain ⟨x,h1,h2⟩:=evs_bind_some.1 h
  have hc:=rd1_ok hs h1
  split at h2
  · obtain ⟨u,h3,h4⟩:=evs_bind_some.1 h2
    simp at h4;subst h4
    simp only [LfR] at hc
    exact wp_val (v:=act.eval a) (w':=w) (by simp [execOp,hc,Go.asBool]) (hK _ _ _ _ hid (rdO_ok hs h3))
  · obtain ⟨u,h3,h4⟩:=evs_bind_some.1 h2
    simp at h4;subst h4
    simp only [LfR] at hc
    exact wp_val (v:=act.eval b) (w':=w) (by simp [execOp,hc,Go.asBool]) (hK _ _ _ _ hid (rdO_ok hs h3))
  · simp [T.evs] at h2
 case alloc t =>
  obtain ⟨rw',h1,h2⟩:=evs_bind_some.1 h
  simp at h2;subst h2
  obtain ⟨v,w',env',own',e1,e2,e3⟩:=alloc_ok ht hw hb hn0 h1
  exact wp_val (by simp [execOp,e1]) (hK _ _ _ _ (e2.mono hnm) e3)
 case box t x =>
  obtain ⟨rw',h1,h2⟩:=evs_bind_some.1 h
  obtain ⟨a,h3,h4⟩:=evs_bind_some.1 h2
  obtain ⟨ys,h5,h6⟩:=evs_bind_some.1 h4
  obtain ⟨_,h7,h8⟩:=evs_bind_some.1 h6
  simp at h8;subst h8
  obtain ⟨v,w',env',own',e1,e2,e3⟩:=box_ok ht hw hb hn0 (t:=t) (leaves_ok h5 (rdO_ok hs h3))
  exact wp_val (by simp [execOp,e1]) (hK _ _ _ _ (e2.mono hnm) e3)
 case build t ps =>
  obtain ⟨rw',h1,h2⟩:=evs_bind_some.1 h
  obtain ⟨_,h3,h4⟩:=evs_bind_some.1 h2
  obtain ⟨zs,h5,h6⟩:=evs_bind_some.1 h4
  simp at h6;subst h6
  obtain ⟨v,e1,e2⟩:=build_ok ht hs h1 (evs_guard.1 h3) h5
  exact wp_val (by simp only [execOp,Sem.run_bind];rw [e1];rfl) (hK _ _ _ _ hid e2)
 case buildSlice t n ps =>
  obtain ⟨rw',h1,h2⟩:=evs_bind_some.1 h
  split at h2
  · rename_i e hty
    obtain ⟨⟨vs,ws⟩,h3,h4⟩:=evs_bind_some.1 h2
    obtain ⟨_,h5,h6⟩:=evs_bind_some.1 h4
    simp at h6;subst h6
    have h5:=evs_guard.1 h5
    simp only [Bool.and_eq_true] at h5
    obtain ⟨v,w',env',own',e1,e2,e3⟩:=buildSlice_ok ht hw hb hs hn0 h1 hty h3 (Nat.eq_of_beq_eq_true h5.1) (Nat.le_of_ble_eq_true h5.2)
    exact wp_val (by simp only [execOp,Sem.run_bind];rw [e1];rfl) (hK _ _ _ _ (e2.mono hnm) e3)
  · simp [T.evs] at h2
 case makeInterface K' x =>
  obtain ⟨rw',h1,h2⟩:=evs_bind_some.1 h
  obtain ⟨_,h3,h4⟩:=evs_bind_some.1 h2
  obtain ⟨a,h5,h6⟩:=evs_bind_some.1 h4
  obtain ⟨ys,h7,h8⟩:=evs_bind_some.1 h6
  obtain ⟨⟨v,rest,ws⟩,h9,h10⟩:=evs_bind_some.1 h8
  obtain ⟨_,h11,h12⟩:=evs_bind_some.1 h10
  simp at h12;subst h12
  have hagg:=evs_guard.1 h3
  have hr:rest=[]:=by simpa using evs_guard.1 h11
  subst hr
  obtain ⟨k1,k2⟩:=leavesT_ok h7 (rdO_ok hs h5) (.inr trivial)
  obtain ⟨f1,c1,c2,hc,hr,f2⟩:=packT_ok hb h9 k1
  have hc2:c2=[]:=by cases c2 with
   | nil=>rfl
   | cons _ _=>exact hr.elim
  subst hc2
  rw [List.append_nil] at hc
  have hv:=k2 _ rfl
  obtain ⟨rfl,hro⟩:=tyT_ok ht h1
  obtain ⟨d,hu,hd⟩:=hro.agg
  rw [hagg] at hd
  have hv2:∃ cs:Array Value,act.eval x = .agg cs:=by
   rw [hv];simp [mkVal,hagg]
  obtain ⟨cs,hcs⟩:=hv2
  have hrun:(Instr.makeInterface rw'.t (act.eval x)).run P w = .ok (.iface rw'.t (act.eval x)) w:=by
   simp only [Instr.makeInterface,Sem.run_bind,run_underlying hu,Result.andThen_ok]
   cases d <;> first | rfl | simp [aggD] at hd
  refine wp_val (by simp only [execOp,Sem.run_bind];rw [hrun];rfl) (hK _ _ _ _ ((Post.freeze hw hb f1).mono fun _ h=>.inl h) ?_)
  refine .inr ⟨v,cs,rfl,by rw [hcs],?_⟩
  have:=f2 (nms ws) fun p hp=>List.mem_map.2 ⟨p,hp,rfl⟩
  rw [<-hc,hcs] at this
  exact this
 case typeAssert x xT A ck =>
  cases ck with
  | false=>simp [semOp,T.evs] at h
  | true =>
   obtain ⟨rw',h1,h2⟩:=evs_bind_some.1 h
   obtain ⟨_,h3,h4⟩:=evs_bind_some.1 h2
   obtain ⟨l,h5,h6⟩:=evs_bind_some.1 h4
   split at h6
   · rename_i t' v
     obtain ⟨o,h7,h8⟩:=evs_bind_some.1 h6
     simp at h8;subst h8
     have hx:Fits _ _ _ _ _:=rd1_ok hs h5
     simp only [castT,evs_opt] at h7
     have hf:=LfR.imm_of_cast h7 hx
     obtain ⟨rfl,hro⟩:=tyT_ok ht h1
     have hg:=evs_guard.1 h3
     simp only [Bool.and_eq_true,Row.isStruct,Bool.not_eq_true'] at hg
     obtain ⟨⟨hagg,harr⟩,hsz⟩:=hg
     have harr:rw'.arr=none:=by simpa using harr
     obtain ⟨fls,hu,-⟩:=hro.struct hagg harr
     obtain ⟨i,z,hi,hsize,hz,hcells⟩:=hro.info
     have hzagg:∃ zc:Array Value,z = .agg zc:=by
      have hl:=congrArg List.length hcells
      rw [zeroV_len] at hl
      have:rw'.ty.size≠1:=fun e=>by rw [e] at hsz;cases hsz
      cases z <;> first | exact ⟨_,rfl⟩ | (simp [Value.cells] at hl;omega)
     obtain ⟨zc,rfl⟩:=hzagg
     rcases hf with ⟨rfl,he⟩ | ⟨d,c,rfl,he,hd⟩
     · have he:act.eval x = .nilIface:=by simpa using he
       refine wp_val (v:=.tuple #[.agg zc,.bool false]) (w':=w) ?_ (hK _ _ _ _ hid ⟨_,rfl,⟨zc,rfl,?_⟩,by simp [A1R,LfR,Fits],trivial⟩)
       · simp [execOp,Instr.typeAssert,run_underlying hu,he,zeroValue,typeInfo,hi,hz]
       · have:=flat_ok (env:=env) (zero_fits (h:=w.heap) (ok:=cx.ok own) rw'.ty)
         rw [<-hcells] at this
         exact this
     · have he:act.eval x = .iface rw'.t (.agg c):=by simpa using he
       refine wp_val (v:=.tuple #[.agg c,.bool true]) (w':=w) ?_ (hK _ _ _ _ hid ⟨_,rfl,⟨c,rfl,flat_ok hd⟩,by simp [A1R,LfR,Fits],trivial⟩)
       simp [execOp,Instr.typeAssert,run_underlying hu,he]
   · simp [T.evs] at h6
 case load t p =>
  obtain ⟨l,h1,h2⟩:=evs_bind_some.1 h
  obtain ⟨a,h3,h4⟩:=evs_bind_some.1 h2
  simp at h4;subst h4
  obtain ⟨v,e1,e2⟩:=load_ok ht hb h3 (rd1_ok hs h1)
  exact wp_val (by simp [execOp,e1]) (hK _ _ _ _ hid e2)
 case store t p x =>
  obtain ⟨a,h1,h2⟩:=evs_bind_some.1 h
  obtain ⟨l,h3,h4⟩:=evs_bind_some.1 h2
  obtain ⟨bw,h5,h6⟩:=evs_bind_some.1 h4
  simp at h6;subst h6
  obtain ⟨w',own',e1,e2⟩:=store_ok ht hw hb h5 (rd1_ok hs h3) (rdO_ok hs h1)
  exact wp_skp (by simp [execOp,e1]) (hK _ _ _ _ (e2.mono fun _ h=>.inl h) rfl)
 case nilCheck x =>
  obtain ⟨z,h1,rfl⟩:=evs_one h
  obtain ⟨l,h2,h3⟩:=evs_bind_some.1 h1
  have hx:=rd1_ok hs h2
  split at h3
  · simp at h3;subst h3
    obtain ⟨g,q1,q2⟩:=hx
    exact wp_val (v:=act.eval x) (w':=w) (by simp [execOp,q2]) (hK _ _ _ _ hid ⟨g,q1,q2⟩)
  · simp at h3;subst h3
    obtain ⟨g,n,c,q1,q2,q3⟩:=hx
    exact wp_val (v:=act.eval x) (w':=w) (by simp [execOp,q3]) (hK _ _ _ _ hid ⟨g,n,c,q1,q2,q3⟩)
  · simp at h3;subst h3
    obtain ⟨y,q1,q2,q3⟩:=hx
    exact wp_val (v:=act.eval x) (w':=w) (by simp [execOp,q2]) (hK _ _ _ _ hid ⟨y,q1,q2,q3⟩)
  · simp [T.evs] at h3
 case binOp op xt x y yt =>
  obtain ⟨z,h1,rfl⟩:=evs_one h
  obtain ⟨a,h2,h3⟩:=evs_bind_some.1 h1
  obtain ⟨b,h4,h5⟩:=evs_bind_some.1 h3
  obtain ⟨v,e1,e2⟩:=binA_ok (P:=P) (w:=w) (t:=xt) (ox:=x) (oy:=y) ht hb h5 (rdO_ok hs h2) (rdO_ok hs h4)
  exact wp_val (by simp only [execOp];rw [Sem.run_bind,e1];rfl) (hK _ _ _ _ hid e2)
 case unOp op xt x =>
  obtain ⟨z,h1,rfl⟩:=evs_one h
  obtain ⟨a,h2,h3⟩:=evs_bind_some.1 h1
  obtain ⟨v,e1,e2⟩:=un_ok (P:=P) (w:=w) h3 (rd1_ok hs h2)
  exact wp_val (by simp [execOp,e1]) (hK _ _ _ _ hid e2)
 case convert s d x =>
  obtain ⟨z,h1,rfl⟩:=evs_one h
  obtain ⟨a,h2,h3⟩:=evs_bind_some.1 h1
  obtain ⟨v,e1,e2⟩:=conv_ok (P:=P) (w:=w) ht h3 (rd1_ok hs h2)
  exact wp_val (by simp [execOp,e1]) (hK _ _ _ _ hid e2)
 case fieldAddr s x f =>
  obtain ⟨z,h1,rfl⟩:=evs_one h
  obtain ⟨a,h2,h3⟩:=evs_bind_some.1 h1
  obtain ⟨v,e1,e2⟩:=field_ok ht h3 (rd1_ok hs h2)
  exact wp_val (by simp [execOp,e1]) (hK _ _ _ _ hid e2)
 case field s x f =>
  obtain ⟨a,h1,h2⟩:=evs_bind_some.1 h
  obtain ⟨b,h3,h4⟩:=evs_bind_some.1 h2
  simp at h4;subst h4
  obtain ⟨v,e1,e2⟩:=part_ok (P:=P) (w:=w) ht h3 (rdO_ok hs h1)
  exact wp_val (by simp [execOp,e1]) (hK _ _ _ _ hid e2)
 case indexAddr t x i =>
  obtain ⟨z,h1,rfl⟩:=evs_one h
  obtain ⟨li,h2,h3⟩:=evs_bind_some.1 h1
  obtain ⟨⟨k,n⟩,h4,h5⟩:=evs_bind_some.1 h3
  obtain ⟨lx,h6,h7⟩:=evs_bind_some.1 h5
  have hi:=asInt_ok h4 (rd1_ok hs h2)
  obtain ⟨v,e1,e2⟩:=index_ok (k:=k) ht hb h7 (rd1_ok hs h6)
  exact wp_val (by simp [execOp,hi,e1]) (hK _ _ _ _ hid e2)
 case extract x i =>
  obtain ⟨a,h1,h2⟩:=evs_bind_some.1 h
  have hx:=rdO_ok hs h1
  split at h2
  · rename_i as
    obtain ⟨b,h3,h4⟩:=evs_bind_some.1 h2
    simp at h4;subst h4
    simp only [evs_opt] at h3
    obtain ⟨vs,q1,q2⟩:=hx
    obtain ⟨v,q3,q4⟩:=q2.get i b h3
    exact wp_val (v:=v) (w':=w) (by simp only [execOp,q1,Instr.extract,Sem.run_bind];rw [<-Array.getElem?_toList,q3];rfl) (hK _ _ _ _ hid q4)
  · simp [T.evs] at h2
 case makeSlice t l c =>
  obtain ⟨rw',h1,h2⟩:=evs_bind_some.1 h
  obtain ⟨ll,h3,h4⟩:=evs_bind_some.1 h2
  obtain ⟨⟨kl,n⟩,h5,h6⟩:=evs_bind_some.1 h4
  obtain ⟨lc,h7,h8⟩:=evs_bind_some.1 h6
  obtain ⟨⟨kc,m⟩,h9,h10⟩:=evs_bind_some.1 h8
  dsimp only at h10
  split at h10
  · rename_i e hty
    obtain ⟨_,h11,h12⟩:=evs_bind_some.1 h10
    obtain ⟨_,h13,h14⟩:=evs_bind_some.1 h12
    simp at h14;subst h14
    have hl:=asInt_ok h5 (rd1_ok hs h3)
    have hc:=asInt_ok h9 (rd1_ok hs h7)
    have hnm':=evs_need.1 h11
    simp only [decide_eq_true_eq] at hnm'
    obtain ⟨v,w',env',own',e1,e2,e3⟩:=makeSlice_ok ht hw hb hn0 h1 hty (kl:=kl) (kc:=kc) hnm' (evs_need.1 h13)
    exact wp_val (by simp [execOp,hl,hc,e1]) (hK _ _ _ _ (e2.mono hnm) e3)
  · simp [T.evs] at h10
 case slice t x lo hi mx =>
  cases mx with
  | some _=>simp [semOp,T.evs] at h
  | none =>
   obtain ⟨rw',h1,h2⟩:=evs_bind_some.1 h
   split at h2
   · rename_i e hty
     obtain ⟨lx,h3,h4⟩:=evs_bind_some.1 h2
     obtain ⟨ow,h4o,h4⟩:=evs_bind_some.1 h4
     obtain ⟨⟨l,ws⟩,h5,h6⟩:=evs_bind_some.1 h4
     obtain ⟨a,h7,h8⟩:=evs_bind_some.1 h6
     obtain ⟨b,h9,h10⟩:=evs_bind_some.1 h8
     obtain ⟨_,h11,h12⟩:=evs_bind_some.1 h10
     have hab:=evs_need.1 h11
     simp only [decide_eq_true_eq] at hab
     have hlo:(lo.map act.eval=none/\a=0)\/∃ k,lo.map act.eval=some (.int k a):=by
      cases lo with
      | none=>simp [boundT,T.evs] at h7;exact .inl ⟨rfl,h7.symm⟩
      | some y =>
       obtain ⟨ly,q1,q2⟩:=evs_bind_some.1 h7
       obtain ⟨⟨k,n⟩,q3,q4⟩:=evs_bind_some.1 q2
       simp at q4;subst q4
       exact .inr ⟨k,by simp [asInt_ok q3 (rd1_ok hs q1)]⟩
     have hhi:(hi.map act.eval=none/\b=l.length)\/∃ k,hi.map act.eval=some (.int k b):=by
      cases hi with
      | none=>simp [boundT,T.evs] at h9;exact .inl ⟨rfl,h9.symm⟩
      | some y =>
       obtain ⟨ly,q1,q2⟩:=evs_bind_some.1 h9
       obtain ⟨⟨k,n⟩,q3,q4⟩:=evs_bind_some.1 q2
       simp at q4;subst q4
       exact .inr ⟨k,by simp [asInt_ok q3 (rd1_ok hs q1)]⟩
     split at h12
     · rename_i bb
       simp at h12;subst h12
       obtain ⟨v,e1,e2⟩:=sliceOwn_ok ht hb h1 hty h5 (rd1_ok hs h3) hlo hhi hab
       exact wp_val (by simp [execOp,e1]) (hK _ _ _ _ hid e2)
     · simp [T.evs] at h12
     · simp at h12;subst h12
       obtain ⟨v,own',e1,e2,e3⟩:=slice_ok ht hw hb h1 hty h5 (rd1_ok hs h3) hlo hhi hab
       exact wp_val (by simp [execOp,e1]) (hK _ _ _ _ (e2.mono fun _ h=>.inl h) e3)
   · simp [T.evs] at h2
 case makeFunc fn fi ca =>
  cases fn with
  | func f =>
   obtain ⟨z,h1,rfl⟩:=evs_one h
   obtain ⟨a,h2,h3⟩:=evs_bind_some.1 h1
   obtain ⟨b,h4,h5⟩:=evs_bind_some.1 h3
   simp at h5;subst h5
   have q1:=capsT_ok hs h2
   have q2:=capsT_ok hs h4
   exact wp_val (v:=.func (.func f) (fi.map act.eval) (ca.map act.eval)) (w':=w) (by simp [execOp,Instr.makeFunc]) (hK _ _ _ _ hid ⟨_,_,rfl,by simpa using q1,by simpa using q2⟩)
  | _=>simp [semOp,T.evs] at h
 case call c =>
  obtain ⟨callee,args,argTypes⟩:=c
  obtain ⟨args⟩:=args
  obtain ⟨argTypes⟩:=argTypes
  cases callee with
  | invoke r m=>simp [semOp,T.evs] at h
  | value fo =>
   obtain ⟨l,h1,h2⟩:=evs_bind_some.1 (show (do
    let l <-rd1 fo
    let avs <-rdAll args
    callV tbl l avs nm:T (Option AV × Ws)).evs fs=some r from h)
   obtain ⟨avs,h3,h4⟩:=evs_bind_some.1 h2
   obtain ⟨f,vs,us,e0,hent,hc⟩:=callV_ok hT hw hb hn (rd1_ok hs h1) (rdAll_ok hs h3) h4
   have hx:(execOp act.eval ⟨dst,.call ⟨.value fo,⟨args⟩,⟨argTypes⟩⟩,ty,pos,after,guard⟩).run P w = .ok (.enter f (vs ++ (args.map act.eval).toArray ++ us)) w:=by
    have e1:execOp act.eval ⟨dst,.call ⟨.value fo,⟨args⟩,⟨argTypes⟩⟩,ty,pos,after,guard⟩=(do let d <-Deferred.ofValue (act.eval fo) ((⟨args⟩:Array Operand).map act.eval);invoke d.target d.args):=rfl
    rw [e1,e0]
    have e2:(do let d <-Deferred.ofValue (.func (.func f) vs us) ((⟨args⟩:Array Operand).map act.eval);invoke d.target d.args:Sem Next)=callFunc f (vs ++ (⟨args⟩:Array Operand).map act.eval ++ us):=rfl
    rw [e2,hent]
    simp
   unfold Oper.wp
   rw [hx,Oper.upon_enter]
   refine hc.mono ?_
   rintro e w' ⟨v,a,env',own',rfl,e1,e2,e3⟩
   exact hK v w' env' own' e3 (by rw [e1];exact e2)
  | builtin b =>
   cases b
   case len =>
    obtain ⟨z,h1,rfl⟩:=evs_one h
    split at h1
    · rename_i x t hx hty
      subst hx;subst hty
      obtain ⟨lx,h2,h3⟩:=evs_bind_some.1 h1
      obtain ⟨v,e1,e2⟩:=len_ok (ty:=ty) ht hb h3 (rd1_ok hs h2)
      exact wp_val (by simp [execOp,resolve,invoke,builtin,e1]) (hK _ _ _ _ hid e2)
    · simp [T.evs] at h1
   case append =>
    simp only [semOp] at h
    split at h
    · rename_i x y t t'
      unfold appAll at h
      cases hcc:Nat.beq t t' with
      | true =>
       have htt:=Nat.eq_of_beq_eq_true hcc
       subst htt
       simp only [hcc,cond_true] at h
       obtain ⟨lx,h3,h4⟩:=evs_bind_some.1 h
       obtain ⟨ly,h5,h6⟩:=evs_bind_some.1 h4
       obtain ⟨⟨a,ws⟩,h7,h8⟩:=evs_bind_some.1 h6
       simp at h8;subst h8
       obtain ⟨v,w',env',own',e1,e2,e3⟩:=append_ok (ty:=ty) ht hw hb hn0 h7 (rd1_ok hs h3) (rd1_ok hs h5)
       exact wp_val (by simp [execOp,resolve,invoke,builtin,e1]) (hK _ _ _ _ (e2.mono hnm) e3)
      | false =>
       simp only [hcc,cond_false] at h
       obtain ⟨r,h1,h2⟩:=evs_bind_some.1 h
       obtain ⟨htr,hr⟩:=tyT_ok ht h1
       subst htr
       split at h2
       · rename_i kn hty
         obtain ⟨ly,h3,h4⟩:=evs_bind_some.1 h2
         obtain ⟨⟨kq,n⟩,h5,h6⟩:=evs_bind_some.1 h4
         obtain ⟨lx,h7,h8⟩:=evs_bind_some.1 h6
         obtain ⟨⟨a,ws⟩,h9,h10⟩:=evs_bind_some.1 h8
         simp at h10;subst h10
         have hy:=asInt_ok h5 (rd1_ok hs h3)
         obtain ⟨v,w',env',own',e1,e2,e3⟩:=appZ_ok (ty:=ty) (kq:=kq) ht hw hb hn0 (hr.int kn hty) h9 (rd1_ok hs h7)
         exact wp_val (by simp [execOp,resolve,invoke,builtin,hy,e1]) (hK _ _ _ _ (e2.mono hnm) e3)
       · simp [T.evs] at h2
    · simp [T.evs] at h
   case copy =>
    simp only [semOp] at h
    split at h
    · rename_i x y t t'
      obtain ⟨_,h1,h2⟩:=evs_bind_some.1 h
      have htt:=Nat.eq_of_beq_eq_true (evs_guard.1 h1)
      subst htt
      obtain ⟨lx,h3,h4⟩:=evs_bind_some.1 h2
      obtain ⟨ly,h5,h6⟩:=evs_bind_some.1 h4
      obtain ⟨⟨a,ws⟩,h7,h8⟩:=evs_bind_some.1 h6
      simp at h8;subst h8
      obtain ⟨v,w',e1,e2,e3⟩:=copy_ok (ty:=ty) ht hw hb h7 (rd1_ok hs h3) (rd1_ok hs h5)
      exact wp_val (by simp [execOp,resolve,invoke,builtin,e1]) (hK _ _ _ _ (e2.mono fun _ h=>.inl h) e3)
    · simp [T.evs] at h
   case min =>
    obtain ⟨z,h1,rfl⟩:=evs_one h
    split at h1
    · rename_i x y hx
      subst hx
      obtain ⟨lx,h2,h3⟩:=evs_bind_some.1 h1
      obtain ⟨⟨k,a⟩,h4,h5⟩:=evs_bind_some.1 h3
      obtain ⟨ly,h6,h7⟩:=evs_bind_some.1 h5
      obtain ⟨⟨k',b⟩,h8,h9⟩:=evs_bind_some.1 h7
      simp at h9;subst h9
      have hx:=asInt_ok h4 (rd1_ok hs h2)
      have hy:=asInt_ok h8 (rd1_ok hs h6)
      exact wp_val (v:=.int k (if b < a then b else a)) (w':=w) (by simp [execOp,resolve,invoke,builtin,hx,hy,Builtin.min_,Builtin.min2]) (hK _ _ _ _ hid (by simp [ResOk,AvR,A1R,LfR,Fits]))
    · simp [T.evs] at h1
   case max =>
    obtain ⟨z,h1,rfl⟩:=evs_one h
    split at h1
    · rename_i x y hx
      subst hx
      obtain ⟨lx,h2,h3⟩:=evs_bind_some.1 h1
      obtain ⟨⟨k,a⟩,h4,h5⟩:=evs_bind_some.1 h3
      obtain ⟨ly,h6,h7⟩:=evs_bind_some.1 h5
      obtain ⟨⟨k',b⟩,h8,h9⟩:=evs_bind_some.1 h7
      simp at h9;subst h9
      have hx:=asInt_ok h4 (rd1_ok hs h2)
      have hy:=asInt_ok h8 (rd1_ok hs h6)
      exact wp_val (v:=.int k (if b > a then b else a)) (w':=w) (by simp [execOp,resolve,invoke,builtin,hx,hy,Builtin.max_,Builtin.max2]) (hK _ _ _ _ hid (by simp [ResOk,AvR,A1R,LfR,Fits]))
    · simp [T.evs] at h1
   all_goals simp [semOp,T.evs] at h
 all_goals simp [semOp,T.evs] at h
end
end Go.VI
namespace Go.VI
open Go Go.RowKit
def ovr (fs:FS):List Wr->FS
 | []=>fs
 | .w l c :: r=>fun x=>cond (Loc.eqb l x) c (ovr fs r x)
 | .cut :: _=>fun _=>.no
theorem look_append (a b:List Wr):look (a ++ b)=ovr (look b) a:=by
 funext x
 induction a with
 | nil=>rfl
 | cons y a ih =>
  cases y with
  | w l c=>simp only [List.cons_append,look,ovr,ih]
  | cut=>rfl
theorem ovr_append (fs:FS) (a b:List Wr):ovr fs (a ++ b)=ovr (ovr fs b) a:=by
 funext x
 induction a with
 | nil=>rfl
 | cons y a ih =>
  cases y with
  | w l c=>simp only [List.cons_append,ovr,ih]
  | cut=>rfl
theorem eqb_ne {a b:Loc} (h:a≠b):Loc.eqb a b=false:=by
 cases hh:Loc.eqb a b with
 | false=>rfl
 | true=>exact absurd (Loc.eqb_iff.1 hh) h
theorem eqb_refl (a:Loc):Loc.eqb a a=true:=Loc.eqb_iff.2 rfl
theorem ovr_not {fs:FS} {ws:List Wr} {l:Loc} (h:l ∉ ws.filterMap Wr.loc) (hc:Wr.cut ∉ ws):ovr fs ws l=fs l:=by
 induction ws with
 | nil=>rfl
 | cons y ws ih =>
  cases y with
  | w l' c =>
   simp only [List.filterMap_cons,Wr.loc,List.mem_cons,not_or] at h
   simp only [ovr,eqb_ne (Ne.symm h.1),cond_false]
   exact ih h.2 fun hm=>hc (by simp [hm])
  | cut=>simp at hc
theorem ovr_mem {fs fs':FS} {ws:List Wr} {l:Loc} (h:l∈ws.filterMap Wr.loc):ovr fs ws l=ovr fs' ws l:=by
 induction ws with
 | nil=>simp at h
 | cons y ws ih =>
  cases y with
  | w l' c =>
   simp only [ovr]
   cases hh:Loc.eqb l' l with
   | true=>rfl
   | false =>
    refine ih ?_
    simp only [List.filterMap_cons,Wr.loc,List.mem_cons] at h
    rcases h with rfl | h
    · rw [eqb_refl] at hh;cases hh
    · exact h
  | cut=>rfl
theorem ovr_blocks {fs:FS} {bw:Ws}:ovr fs (bw.map fun p=>Wr.w (.b p.1) p.2)=upd fs bw:=by
 funext x
 induction bw with
 | nil=>rfl
 | cons p bw ih=>simp only [List.map_cons,ovr,upd,ih]
structure St (cx:Cx) (nt:Nat) (fs:FS) (a:Act) (w:World) (N:Nat->Prop):Prop where
 defers:a.defers=[]
 size:a.tmps.size=nt
 ex:∃ env own,RW cx w env own N/\RB cx fs w env own/\RS cx fs a.tmps w env own
def CellLe (a b:Cell):Prop:=b = .no\/a=b\/∃ x y,a = .av x/\b = .av y/\∀ h ok env v,AvR h ok env x v->AvR h ok env y v
def FsLe (f g:FS):Prop:=∀ l,CellLe (f l) (g l)
theorem CellLe.refl (a:Cell):CellLe a a:=.inr (.inl rfl)
theorem CellLe.trans {a b c:Cell} (h:CellLe a b) (k:CellLe b c):CellLe a c:=by
 rcases k with rfl | rfl | ⟨x,y,rfl,rfl,hk⟩
 · exact .inl rfl
 · exact h
 · rcases h with h | rfl | ⟨x',y',rfl,h,hh⟩
   · cases h
   · exact .inr (.inr ⟨x,y,rfl,rfl,hk⟩)
   · cases h
     exact .inr (.inr ⟨x',y,rfl,rfl,fun h ok env v q=>hk h ok env v (hh h ok env v q)⟩)
theorem FsLe.refl (f:FS):FsLe f f:=fun _=>.refl _
theorem FsLe.trans {f g h:FS} (a:FsLe f g) (b:FsLe g h):FsLe f h:=fun l=>(a l).trans (b l)
theorem CellLe.cell {B:Nat} {h:Array Obj} {ok:Nat->Prop} {env:Nm} {own:Ow} {b:Nat} {c c':Cell} (hl:CellLe c c') (hc:CellR B h ok env own b c):CellR B h ok env own b c':=by
 rcases hl with rfl | rfl | ⟨x,y,rfl,rfl,_⟩
 · trivial
 · exact hc
 · trivial
theorem CellLe.slot {h:Array Obj} {ok:Nat->Prop} {env:Nm} {c c':Cell} {v:Value} (hl:CellLe c c') (hc:SlotR h ok env c v):SlotR h ok env c' v:=by
 rcases hl with rfl | rfl | ⟨x,y,rfl,rfl,hk⟩
 · trivial
 · exact hc
 · exact hk _ _ _ _ hc
theorem St.le {cx:Cx} {nt:Nat} {f g:FS} {a:Act} {w:World} {N:Nat->Prop} (h:St cx nt f a w N) (hl:FsLe f g):St cx nt g a w N:=by
 obtain ⟨env,own,h1,h2,h3⟩:=h.ex
 exact ⟨h.defers,h.size,env,own,h1,fun b=>(hl _).cell (h2 b),fun n=>(hl _).slot (h3 n)⟩
theorem St.mono {cx:Cx} {nt:Nat} {f:FS} {a:Act} {w:World} {N N':Nat->Prop} (h:St cx nt f a w N) (hl:∀ b,N b->N' b):St cx nt f a w N':=by
 obtain ⟨env,own,h1,h2,h3⟩:=h.ex
 exact ⟨h.defers,h.size,env,own,h1.mono hl,h2,h3⟩
def Learned (gs:List Nat) (ws W:List Wr):Prop:=(decides gs ws=none/\W=ws)\/∃ d c,ws=[.w (.s d) (.av (.v (.one (.imm .bool c))))]/\W=[.w (.s d) (.av (.v (.one (.kb c))))]
theorem Learned.loc {gs:List Nat} {ws W:List Wr} (h:Learned gs ws W):W.filterMap Wr.loc=ws.filterMap Wr.loc:=by
 rcases h with ⟨_,rfl⟩ | ⟨d,c,rfl,rfl⟩ <;> rfl
theorem wrs_cut (d:Option Tmp) (r:Option AV × Ws):Wr.cut ∉ wrs d r:=by
 unfold wrs
 rcases r with ⟨a,bw⟩
 cases d <;> cases a <;> simp
section
variable {P:Program} {te:TE} {tbl:Tbl} {cx:Cx} {nt nx:Nat} {fs:FS} {w:World} {N:Nat->Prop} {ops:Array Oper} {act:Act} {K:Act->World->Prop} {Q:Exit->Act->World->Prop}
theorem opT_cut {i:Nat} {ws:List Wr} (h:(opT te tbl ops nt nx i).evs fs=some ws):Wr.cut ∉ ws:=by
 unfold opT at h
 split at h
 · simp [T.evs] at h
 · obtain ⟨_,_,h2⟩:=evs_bind_some.1 h
   obtain ⟨b,_,h4⟩:=evs_bind_some.1 h2
   cases b with
   | true =>
    obtain ⟨r,_,h6⟩:=evs_bind_some.1 h4
    simp at h6;subst h6
    exact wrs_cut _ _
   | false=>simp at h4;subst h4;exact wrs_cut _ _
theorem ovr_wrs_b {d:Option Tmp} {r:Option AV × Ws} {b:Nat}:ovr fs (wrs d r) (.b b)=upd fs r.2 (.b b):=by
 unfold wrs
 rw [ovr_append,ovr_blocks]
 rcases r with ⟨a,bw⟩
 cases d <;> cases a <;> simp [ovr,Loc.eqb]
theorem ovr_wrs_s {d:Option Tmp} {r:Option AV × Ws} {n:Nat}:ovr fs (wrs d r) (.s n)=if d=some n then (match r.1 with
 | some a=>.av a
 | none=>.no) else fs (.s n):=by
 unfold wrs
 rw [ovr_append,ovr_blocks]
 rcases r with ⟨a,bw⟩
 cases d with
 | none=>simp [ovr,upd_slot]
 | some d =>
  by_cases hd:d=n
  · subst hd;cases a <;> simp [ovr,Loc.eqb]
  · have:Nat.beq d n=false:=by
     cases hh:Nat.beq d n with
     | false=>rfl
     | true=>exact absurd (Nat.eq_of_beq_eq_true hh) hd
    cases a <;> simp [ovr,Loc.eqb,this,upd_slot,hd]
theorem getD_put (a:Act) (d:Option Tmp) (v:Value) (n:Nat) (hd:dstOk a.tmps.size d=true):(a.put d v).tmps.getD n undef=if d=some n then v else a.tmps.getD n undef:=by
 cases d with
 | none=>simp [Act.put]
 | some d =>
  have hlt:d < a.tmps.size:=by simpa [dstOk] using hd
  by_cases hdn:d=n
  · subst hdn
    simp [Act.put,hlt]
  · simp [Act.put,Array.getElem?_setIfInBounds_ne hdn,hdn]
theorem size_put (a:Act) (d:Option Tmp) (v:Value):(a.put d v).tmps.size=a.tmps.size:=by cases d <;> simp [Act.put]
theorem defers_put (a:Act) (d:Option Tmp) (v:Value):(a.put d v).defers=a.defers:=by cases d <;> simp [Act.put]
theorem opT_wp (ht:TEok P te) (hT:tbl.Sound P) (hS:St cx nt fs act w N) {i:Nat} (hn:∀ b,nx+64*i<=b->b < nx+64*i+64->¬N b) {ws W:List Wr} {gs:List Nat} (h:(opT te tbl ops nt nx i).evs fs=some ws) (hL:Learned gs ws W)
 (hK:∀ act' w',St cx nt (ovr fs W) act' w' (fun b=>N b\/(nx+64*i<=b/\b < nx+64*i+64))->K act' w'):wpOp P ops Q i K act w:=by
 obtain ⟨env,own,hw,hb,hs⟩:=hS.ex
 unfold opT at h
 unfold wpOp
 split at h
 · simp [T.evs] at h
 · rename_i o ho
   simp only [ho]
   obtain ⟨_,h1,h2⟩:=evs_bind_some.1 h
   obtain ⟨b,h3,h4⟩:=evs_bind_some.1 h2
   have hdst:=evs_guard.1 h1
   rw [<-hS.size] at hdst
   have hwant:Region.wanted o (yielded ops act.tmps)=b:=by
    unfold wantedT at h3
    unfold Region.wanted
    split at h3
    · rename_i hg;simp [T.evs] at h3;simp [hg,h3]
    · rename_i j want hg
      simp only [hg]
      split at h3
      · simp [T.evs] at h3
      · rename_i d hd
        obtain ⟨av,h5,h6⟩:=evs_bind_some.1 h3
        have hav:=rdS_ok hs h5
        split at h6
        · rename_i b'
          simp at h6
          have hv:act.tmps.getD d undef = .bool b':=hav
          have hy:yielded ops act.tmps j=some b':=by
           unfold yielded
           rw [hd]
           simp only [Option.bind_some]
           rw [Array.getD_eq_getD_getElem?] at hv
           cases hq:act.tmps[d]? with
           | none=>rw [hq] at hv;simp [undef] at hv
           | some u=>rw [hq] at hv;simp at hv;rw [hv]
          rw [hy,<-h6]
          cases b' <;> cases want <;> rfl
        · simp at h6
          obtain ⟨vs,hv,hl⟩:∃ vs,act.tmps.getD d undef = .tuple vs/\All2 _ [] vs.toList:=hav
          have hy:yielded ops act.tmps j=none:=by
           unfold yielded
           rw [hd]
           simp only [Option.bind_some]
           rw [Array.getD_eq_getD_getElem?] at hv
           cases hq:act.tmps[d]? with
           | none=>rfl
           | some u=>rw [hq] at hv;simp at hv;rw [hv]
          rw [hy,h6];rfl
        · simp [T.evs] at h6
   have fin:∀ (r:Option AV × Ws) (v:Value) (w':World) (env':Nm) (own':Ow),ws=wrs o.dst r->Post cx fs w env own r.2 w' env' own' (fun b=>N b\/(nx+64*i<=b/\b < nx+64*i+64)) ->
    (∀ a,r.1=some a->AvR w'.heap (cx.ok own') env' a v)->K (act.put o.dst v) w':=by
    intro r v w' env' own' hws hp hv
    refine hK _ _ ⟨by rw [defers_put];exact hS.defers,by rw [size_put];exact hS.size,env',own',hp.rw,fun b=>?_,fun n=>?_⟩
    · rcases hL with ⟨_,rfl⟩ | ⟨d,c,he,rfl⟩
      · rw [hws,ovr_wrs_b];exact hp.rb b
      · have h1:ovr fs ws (.b b)=upd fs r.2 (.b b):=by rw [hws,ovr_wrs_b]
        rw [he] at h1
        simp only [ovr,Loc.eqb,cond_false] at h1 ⊢
        rw [h1];exact hp.rb b
    · rw [getD_put _ _ _ _ hdst]
      have base:SlotR w'.heap (cx.ok own') env' (ovr fs ws (.s n)) (if o.dst=some n then v else act.tmps.getD n undef):=by
       rw [hws,ovr_wrs_s]
       by_cases hd:o.dst=some n
       · rw [if_pos hd,if_pos hd]
         cases hr:r.1 with
         | none=>trivial
         | some a=>exact hv a hr
       · rw [if_neg hd,if_neg hd]
         exact hp.ext.slot (hs n)
      rcases hL with ⟨_,rfl⟩ | ⟨d,c,he,rfl⟩
      · exact base
      · rw [he] at base
        simp only [ovr] at base ⊢
        cases hh:Loc.eqb (.s d) (.s n) with
        | false=>simpa [hh] using base
        | true =>
         simp only [hh,cond_true,SlotR,AvR,A1R,LfR,Fits,List.cons.injEq,and_true] at base ⊢
         exact base
   cases b with
   | true =>
    simp only [hwant,if_true]
    obtain ⟨r,h5,h6⟩:=evs_bind_some.1 h4
    simp at h6
    exact .inl (op_wp ht hT hw hb hs hn h5 fun v w' env' own' hp hr=>fin r v w' env' own' h6.symm hp fun a ha=>by rw [ha] at hr;exact hr)
   | false =>
    simp at h4
    rw [hwant]
    simp only [Bool.false_eq_true,if_false]
    exact fin (some (.tup []),[]) undef w env own h4.symm ((Post.refl hw hb).mono fun _ h=>.inl h) (by intro a ha;simp only [Option.some.injEq] at ha;subst ha;exact ⟨#[],rfl,trivial⟩)
def Chain (te:TE) (tbl:Tbl) (ops:Array Oper) (nt nx:Nat) (gs:List Nat):List (Nat × List Wr × List Loc)->FS->Prop
 | [],_=>True
 | (i,W,rds) :: tr,fs=>(∃ ws,((opT te tbl ops nt nx i).run fs []).ev=some (ws,rds)/\Learned gs ws W)/\Chain te tbl ops nt nx gs tr (ovr fs W)
def chainFS:List (Nat × List Wr × List Loc)->FS->FS
 | [],fs=>fs
 | (_,W,_) :: tr,fs=>chainFS tr (ovr fs W)
end
end Go.VI
namespace Go.VI
open Go Go.RowKit
section
variable {h:Array Obj} {ok:Nat->Prop} {env:Nm}
theorem cast_lf {t t':Ty} {b:t'.den} {b':t.den} (hc:Ty.cast t' t b=some b') {v:Value} (hf:LfR h ok env (.imm t' b) v):LfR h ok env (.imm t b') v:=LfR.imm_of_cast hc hf
theorem mergeLf_t {x y z:Lf} (hm:mergeLf true x y=some z) {v:Value} (hf:LfR h ok env x v):LfR h ok env z v:=by
 unfold mergeLf at hm
 split at hm <;> (try simp only [cond_true,Option.some.injEq,reduceCtorEq] at hm)
 · subst hm;simpa [LfR,Fits] using hf
 · subst hm;simpa [LfR,Fits] using hf
 · subst hm;simpa [LfR,Fits] using hf
 · subst hm;exact hf
 · rename_i t a t' b
   cases hc:Ty.cast t' t b with
   | none=>simp [hc] at hm
   | some b'=>simp [hc] at hm;subst hm;exact hf
 · subst hm;exact hf
 · subst hm
   simp only [LfR] at hf;subst hf
   exact ⟨none,0,rfl,fun _=>rfl,by simp,by simp⟩
 · subst hm;exact hf
 · rename_i a b
   cases hc:Nat.beq a b with
   | false=>simp [hc] at hm
   | true=>simp [hc] at hm;subst hm;exact hf
 · rename_i a o b o'
   cases hc:(Nat.beq a b && Nat.beq o o') with
   | false=>simp [hc] at hm
   | true=>simp [hc] at hm;subst hm;exact hf
 · rename_i a b
   cases hc:Nat.beq a b with
   | false=>simp [hc] at hm
   | true=>simp [hc] at hm;subst hm;exact hf
 · rename_i f a b g a' b'
   cases hc:(Nat.beq f g && Cps.same a a' && Cps.same b b') with
   | false=>simp [hc] at hm
   | true=>simp [hc] at hm;subst hm;exact hf
theorem Cps.same_eq:∀ {as bs:List Cp},Cps.same as bs=true->as=bs
 | [],[],_=>rfl
 | .ptr _ _ :: as,.ptr _ _ :: bs,h=>by
  simp only [Cps.same,Cp.same,Bool.and_eq_true] at h
  rw [Nat.eq_of_beq_eq_true h.1.1,Nat.eq_of_beq_eq_true h.1.2,Cps.same_eq h.2]
 | .ptr _ _ :: _,.imm _ _ :: _,h=>by simp [Cps.same,Cp.same] at h
 | .imm _ _ :: _,.ptr _ _ :: _,h=>by simp [Cps.same,Cp.same] at h
 | .imm _ _ :: _,.imm _ _ :: _,h=>by simp [Cps.same,Cp.same] at h
 | [],_ :: _,h=>by simp [Cps.same] at h
 | _ :: _,[],h=>by simp [Cps.same] at h
theorem mergeLf_f {x y z:Lf} (hm:mergeLf false x y=some z) {v:Value} (hf:LfR h ok env y v):LfR h ok env z v:=by
 unfold mergeLf at hm
 split at hm <;> (try simp only [cond_false,Option.some.injEq,reduceCtorEq] at hm)
 · subst hm;simpa [LfR,Fits] using hf
 · subst hm;simpa [LfR,Fits] using hf
 · subst hm;exact hf
 · subst hm;simpa [LfR,Fits] using hf
 · rename_i t a t' b
   cases hc:Ty.cast t' t b with
   | none=>simp [hc] at hm
   | some b'=>simp [hc] at hm;subst hm;exact cast_lf hc hf
 · subst hm;exact hf
 · subst hm;exact hf
 · subst hm
   simp only [LfR] at hf;subst hf
   exact ⟨none,0,rfl,fun _=>rfl,by simp,by simp⟩
 · rename_i a b
   cases hc:Nat.beq a b with
   | false=>simp [hc] at hm
   | true=>simp [hc] at hm;subst hm;rw [Nat.eq_of_beq_eq_true hc];exact hf
 · rename_i a o b o'
   cases hc:(Nat.beq a b && Nat.beq o o') with
   | false=>simp [hc] at hm
   | true =>
    simp only [hc,cond_true,Option.some.injEq] at hm;subst hm
    simp only [Bool.and_eq_true] at hc
    rw [Nat.eq_of_beq_eq_true hc.1,Nat.eq_of_beq_eq_true hc.2];exact hf
 · rename_i a b
   cases hc:Nat.beq a b with
   | false=>simp [hc] at hm
   | true=>simp [hc] at hm;subst hm;rw [Nat.eq_of_beq_eq_true hc];exact hf
 · rename_i f a b g a' b'
   cases hc:(Nat.beq f g && Cps.same a a' && Cps.same b b') with
   | false=>simp [hc] at hm
   | true =>
    simp only [hc,cond_true,Option.some.injEq] at hm;subst hm
    simp only [Bool.and_eq_true] at hc
    rw [Nat.eq_of_beq_eq_true hc.1.1,Cps.same_eq hc.1.2,Cps.same_eq hc.2];exact hf
theorem mergeLs_t:∀ {xs ys zs:List Lf} {cs:List Value},mergeLs true xs ys=some zs->All2 (LfR h ok env) xs cs->All2 (LfR h ok env) zs cs
 | [],[],zs,cs,hm,hf=>by simp [mergeLs] at hm;subst hm;exact hf
 | x :: xs,y :: ys,zs,cs,hm,hf=>by
  simp only [mergeLs] at hm
  split at hm
  · rename_i z zs' h1 h2
    simp at hm;subst hm
    cases cs with
    | nil=>exact hf.elim
    | cons c cs=>exact ⟨mergeLf_t h1 hf.1,mergeLs_t h2 hf.2⟩
  · cases hm
 | [],_ :: _,_,_,hm,_=>by simp [mergeLs] at hm
 | _ :: _,[],_,_,hm,_=>by simp [mergeLs] at hm
theorem mergeLs_f:∀ {xs ys zs:List Lf} {cs:List Value},mergeLs false xs ys=some zs->All2 (LfR h ok env) ys cs->All2 (LfR h ok env) zs cs
 | [],[],zs,cs,hm,hf=>by simp [mergeLs] at hm;subst hm;exact hf
 | x :: xs,y :: ys,zs,cs,hm,hf=>by
  simp only [mergeLs] at hm
  split at hm
  · rename_i z zs' h1 h2
    simp at hm;subst hm
    cases cs with
    | nil=>exact hf.elim
    | cons c cs=>exact ⟨mergeLf_f h1 hf.1,mergeLs_f h2 hf.2⟩
  · cases hm
 | [],_ :: _,_,_,hm,_=>by simp [mergeLs] at hm
 | _ :: _,[],_,_,hm,_=>by simp [mergeLs] at hm
end
theorem mergeC_le (c:Bool) (A B:Cell):CellLe (cond c A B) (mergeC c A B):=by
 unfold mergeC
 split
 · rename_i x y
   cases hm:mergeLf c x y with
   | none=>exact .inl rfl
   | some z =>
    cases c with
    | true=>exact .inr (.inr ⟨_,_,rfl,rfl,fun h ok env v hf=>mergeLf_t hm hf⟩)
    | false=>exact .inr (.inr ⟨_,_,rfl,rfl,fun h ok env v hf=>mergeLf_f hm hf⟩)
 · rename_i xs ys
   cases hm:mergeLs c xs ys with
   | none=>exact .inl rfl
   | some zs =>
    cases c with
    | true=>exact .inr (.inr ⟨_,_,rfl,rfl,fun h ok env v ⟨cs,h1,h2⟩=>⟨cs,h1,mergeLs_t hm h2⟩⟩)
    | false=>exact .inr (.inr ⟨_,_,rfl,rfl,fun h ok env v ⟨cs,h1,h2⟩=>⟨cs,h1,mergeLs_f hm h2⟩⟩)
 · exact .inl rfl
theorem slotsOf_ok {fs:FS}:∀ {a:List Wr} {ns:List Nat},slotsOf a=some ns->(∀ b,ovr fs a (.b b)=fs (.b b))/\∀ n,n ∉ ns->ovr fs a (.s n)=fs (.s n)
 | [],ns,h=>by simp [slotsOf] at h;subst h;exact ⟨fun _=>rfl,fun _ _=>rfl⟩
 | .w (.s n) c :: r,ns,h=>by
  simp only [slotsOf] at h
  cases hr:slotsOf r with
  | none=>simp [hr] at h
  | some ms =>
   simp [hr] at h;subst h
   have ih:=slotsOf_ok (fs:=fs) hr
   refine ⟨fun b=>by simp only [ovr,Loc.eqb,cond_false];exact ih.1 b,fun k hk=>?_⟩
   simp only [List.mem_cons,not_or] at hk
   simp only [ovr,eqb_ne (show Loc.s n≠Loc.s k from fun e=>by cases e;exact hk.1 rfl),cond_false]
   exact ih.2 k hk.2
 | .w (.b _) _ :: r,ns,h=>by simp [slotsOf] at h
 | .cut :: r,ns,h=>by simp [slotsOf] at h
theorem mem_dedup:∀ {l:List Nat} {n:Nat},n∈dedup l↔n∈l
 | [],n=>by simp [dedup]
 | m :: r,n=>by
  simp only [dedup]
  cases hh:(dedup r).any (Nat.beq m) with
  | true =>
   simp only [cond_true,mem_dedup,List.mem_cons]
   constructor
   · exact .inr
   · rintro (rfl | h)
     · rw [List.any_eq_true] at hh
       obtain ⟨x,hx,he⟩:=hh
       have:=Nat.eq_of_beq_eq_true he
       subst this
       exact mem_dedup.1 hx
     · exact h
  | false=>simp only [cond_false,List.mem_cons,mem_dedup]
theorem ovr_map {fs:FS} {f:Nat->Cell}:∀ {l:List Nat} {n:Nat},ovr fs (l.map fun n=>Wr.w (.s n) (f n)) (.s n)=if n∈l then f n else fs (.s n)
 | [],n=>by simp [ovr]
 | m :: l,n=>by
  simp only [List.map_cons,ovr]
  by_cases hmn:m=n
  · subst hmn;simp [Loc.eqb]
  · rw [eqb_ne (show Loc.s m≠Loc.s n from fun e=>by cases e;exact hmn rfl),cond_false,ovr_map]
    simp [Ne.symm hmn]
theorem ovr_map_b {fs:FS} {f:Nat->Cell}:∀ {l:List Nat} {n:Nat},ovr fs (l.map fun n=>Wr.w (.s n) (f n)) (.b n)=fs (.b n)
 | [],n=>rfl
 | m :: l,n=>by simp only [List.map_cons,ovr,Loc.eqb,cond_false];exact ovr_map_b
theorem mergeW_le {c:Bool} {st a b m:List Wr} (h:mergeW c st a b=some m):FsLe (ovr (look st) (cond c a b)) (ovr (look st) m):=by
 unfold mergeW at h
 cases ha:slotsOf a with
 | none=>simp [ha] at h
 | some ka =>
  cases hb:slotsOf b with
  | none=>simp [ha,hb] at h
  | some kb =>
   simp [ha,hb] at h;subst h
   have ia:=slotsOf_ok (fs:=look st) ha
   have ib:=slotsOf_ok (fs:=look st) hb
   intro l
   cases l with
   | b n =>
    rw [ovr_map_b]
    cases c with
    | true=>rw [cond_true,ia.1];exact .refl _
    | false=>rw [cond_false,ib.1];exact .refl _
   | s n =>
    rw [ovr_map]
    by_cases hn:n∈dedup (ka ++ kb)
    · rw [if_pos hn,look_append,look_append]
      have:=mergeC_le c (ovr (look st) a (.s n)) (ovr (look st) b (.s n))
      cases c <;> exact this
    · rw [if_neg hn]
      rw [mem_dedup] at hn
      simp only [List.mem_append,not_or] at hn
      cases c with
      | true=>rw [cond_true,ia.2 n hn.1];exact .refl _
      | false=>rw [cond_false,ib.2 n hn.2];exact .refl _
theorem brR_ok {c:Bool} {st a:List Wr} {e:Tree (List Wr)} {w:List Wr} (h:(Tree.br c (.leaf a) e).ev=some w) :
 (c=true/\FsLe (ovr (look st) a) (ovr (look st) w))\/(c=false/\∃ w',e.ev=some w'/\FsLe (ovr (look st) w') (ovr (look st) w)):=by
 cases c with
 | true=>simp [Tree.ev] at h;subst h;exact .inl ⟨rfl,.refl _⟩
 | false=>simp [Tree.ev] at h;exact .inr ⟨rfl,w,h,.refl _⟩
theorem phiR_ok {c:Bool} {st a:List Wr}:∀ {e:Tree (List Wr)} {w:List Wr},(phiR c st a e).ev=some w->(c=true/\FsLe (ovr (look st) a) (ovr (look st) w))\/(c=false/\∃ w',e.ev=some w'/\FsLe (ovr (look st) w') (ovr (look st) w)):=by
 intro e
 induction e with
 | leaf b =>
  intro w h
  simp only [phiR] at h
  cases hm:mergeW c st a b with
  | none=>rw [hm] at h;exact brR_ok h
  | some m =>
   rw [hm] at h
   simp [Tree.ev] at h;subst h
   have:=mergeW_le hm
   cases c with
   | true=>exact .inl ⟨rfl,this⟩
   | false=>exact .inr ⟨rfl,b,rfl,this⟩
 | need p e ih =>
  intro w h
  simp only [phiR,Tree.ev] at h
  cases c with
  | true=>exact .inl ⟨rfl,(ih h).elim (·.2) fun h=>by cases h.1⟩
  | false =>
   cases p with
   | true=>simpa [Tree.ev] using ih (by simpa using h)
   | false=>simp at h
 | bad=>intro w h;exact brR_ok h
 | br _ _ _ _ _=>intro w h;exact brR_ok h
 | bnd _ _ _=>intro w h;exact brR_ok h
 | sum _ _ _ _ _=>intro w h;exact brR_ok h
theorem phi_ok {c:Bool} {st:List Wr} {e:Tree (List Wr)}:∀ {t:Tree (List Wr)} {w:List Wr},(phi c st e t).ev=some w->∃ w',(cond c t e).ev=some w'/\FsLe (ovr (look st) w') (ovr (look st) w):=by
 intro t
 induction t with
 | leaf a =>
  intro w h
  rcases phiR_ok h with ⟨rfl,hl⟩ | ⟨rfl,w',h1,h2⟩
  · exact ⟨a,rfl,hl⟩
  · exact ⟨w',h1,h2⟩
 | need p t ih =>
  intro w h
  simp only [phi,Tree.ev] at h
  cases c with
  | true =>
   cases p with
   | true=>simpa [Tree.ev] using ih (by simpa using h)
   | false=>simp at h
  | false=>exact ih h
 | bad =>
  intro w h
  cases c with
  | true=>simp [phi,Tree.ev] at h
  | false=>exact ⟨w,h,.refl _⟩
 | br _ _ _ _ _=>intro w h;cases c <;> exact ⟨w,by simpa [phi,Tree.ev] using h,.refl _⟩
 | bnd _ _ _=>intro w h;cases c <;> exact ⟨w,by simpa [phi,Tree.ev] using h,.refl _⟩
 | sum _ _ _ _ _=>intro w h;cases c <;> exact ⟨w,by simpa [phi,Tree.ev] using h,.refl _⟩
end Go.VI
namespace Go.VI
open Go Go.RowKit
abbrev Tr:=List (Nat × List Wr × List Loc)
def logOf (t:Nat × List Wr × List Loc):Log:=(t.1,t.2.2,t.2.1.filterMap Wr.loc)
section
variable {P:Program} {te:TE} {tbl:Tbl} {cx:Cx} {nt nx:Nat} {N:Nat->Prop} {ops:Array Oper} {gs:List Nat} {Q:Exit->Act->World->Prop}
theorem runOps_ok {ms:Option (List Nat)}:∀ {l:List Nat} {st:List Wr} {lg:List Log} {w:List Wr},(runOps te tbl ops nt nx gs ms l st lg).ev=some w ->
 ∃ tr:Tr,tr.map (·.1)=l/\Chain te tbl ops nt nx gs tr (look st)/\FsLe (chainFS tr (look st)) (ovr (look st) w)/\∀ m,ms=some m->orderOk m ((tr.map logOf).reverse ++ lg)=true
 | [],st,lg,w,h=>by
  simp only [runOps] at h
  cases ms with
  | none=>simp [Tree.ev] at h;subst h;exact ⟨[],rfl,trivial,.refl _,by simp⟩
  | some m =>
   simp only at h
   cases ho:orderOk m lg with
   | false=>simp [ho,Tree.ev] at h
   | true=>simp [ho,Tree.ev] at h;subst h;exact ⟨[],rfl,trivial,.refl _,fun m' hm=>by cases hm;exact ho⟩
 | i :: rest,st,lg,w,h=>by
  simp only [runOps,Tree.ev_bind] at h
  cases hr:((opT te tbl ops nt nx i).run (look st) []).ev with
  | none=>simp [hr] at h
  | some r =>
   obtain ⟨ws,rds⟩:=r
   simp only [hr,Option.bind_some] at h
   have step:∀ {W:List Wr} {w':List Wr},((runOps te tbl ops nt nx gs ms rest (W ++ st) ((i,rds,W.filterMap Wr.loc) :: lg)).bind fun w=>.leaf (w ++ W)).ev=some w'->Learned gs ws W->FsLe (ovr (look st) w') (ovr (look st) w) ->
    ∃ tr:Tr,tr.map (·.1)=i :: rest/\Chain te tbl ops nt nx gs tr (look st)/\FsLe (chainFS tr (look st)) (ovr (look st) w)/\∀ m,ms=some m->orderOk m ((tr.map logOf).reverse ++ lg)=true:=by
    intro W w' h1 hL hle
    rw [Tree.ev_bind] at h1
    cases hq:(runOps te tbl ops nt nx gs ms rest (W ++ st) ((i,rds,W.filterMap Wr.loc) :: lg)).ev with
    | none=>simp [hq] at h1
    | some w2 =>
     simp [hq,Tree.ev] at h1;subst h1
     obtain ⟨tr,t1,t2,t3,t4⟩:=runOps_ok hq
     rw [look_append] at t2 t3
     refine ⟨(i,W,rds) :: tr,by simp [t1],⟨⟨ws,hr,hL⟩,t2⟩,FsLe.trans ?_ hle,fun m hm=>?_⟩
     · rw [ovr_append];exact t3
     · have:=t4 m hm
       simpa [logOf] using this
   split at h
   · rename_i d c hd
     obtain ⟨w',h1,h2⟩:=phi_ok h
     have hws:ws=[.w (.s d) (.av (.v (.one (.imm .bool c))))]:=by
      unfold decides at hd
      split at hd
      · rename_i d' c'
        cases hg:gs.any (Nat.beq d') with
        | false=>simp [hg] at hd
        | true=>simp [hg] at hd;rw [hd.1,hd.2]
      · cases hd
     have h1':((runOps te tbl ops nt nx gs ms rest ([.w (.s d) (.av (.v (.one (.kb c))))] ++ st) ((i,rds,[Wr.w (.s d) (.av (.v (.one (.kb c))))].filterMap Wr.loc) :: lg)).bind fun w=>.leaf (w ++ [.w (.s d) (.av (.v (.one (.kb c))))])).ev=some w':=by
      cases c <;> exact h1
     exact step h1' (.inr ⟨d,c,hws,rfl⟩) h2
   · rename_i hd
     exact step h (.inl ⟨hd,rfl⟩) (.refl _)
theorem Chain.cut:∀ {tr:Tr} {fs:FS},Chain te tbl ops nt nx gs tr fs->∀ t∈tr,Wr.cut ∉ t.2.1
 | [],_,_=>by simp
 | (i,W,rds) :: tr,fs,h=>by
  obtain ⟨⟨ws,h1,hL⟩,h2⟩:=h
  intro t ht
  rcases List.mem_cons.1 ht with rfl | ht
  · have:=opT_cut (T.run_evs h1)
    rcases hL with ⟨_,rfl⟩ | ⟨d,c,rfl,rfl⟩
    · exact this
    · simp
  · exact h2.cut t ht
theorem text_wp (ht:TEok P te) (hT:tbl.Sound P):∀ {tr:Tr} {fs:FS} {act:Act} {w:World} {N:Nat->Prop},Chain te tbl ops nt nx gs tr fs->St cx nt fs act w N->(tr.map (·.1)).Nodup->(∀ t∈tr,∀ b,nx+64*t.1<=b->b < nx+64*t.1+64->¬N b) ->
 (∀ act' w',St cx nt (chainFS tr fs) act' w' (fun b=>N b\/∃ t∈tr,nx+64*t.1<=b/\b < nx+64*t.1+64)->Q .normal act' w')->wpOps P ops Q (tr.map (·.1)) act w
 | [],fs,act,w,N,_,hS,_,_,hQ=>by
  simp only [List.map_nil,wpOps]
  exact hQ act w (hS.mono fun b h=>.inl h)
 | (i,W,rds) :: tr,fs,act,w,N,hC,hS,hnd,hn,hQ=>by
  obtain ⟨⟨ws,h1,hL⟩,h2⟩:=hC
  simp only [List.map_cons]
  rw [wpOps_cons]
  refine opT_wp ht hT hS (hn (i,W,rds) (by simp)) (T.run_evs h1) hL fun act' w' hS'=>?_
  simp only [List.map_cons,List.nodup_cons] at hnd
  refine text_wp ht hT h2 hS' hnd.2 (fun t ht b hb1 hb2=>?_) fun a2 w2 h=>hQ a2 w2 (h.mono fun b hb=>?_)
  · rintro (h | ⟨h3,h4⟩)
    · exact hn t (by simp [ht]) b hb1 hb2 h
    · have hne:t.1≠i:=fun he=>hnd.1 (List.mem_map.2 ⟨t,ht,he⟩)
      omega
  · rcases hb with (hb | hb) | ⟨t,ht,hb⟩
    · exact .inl hb
    · exact .inr ⟨(i,W,rds),by simp,hb⟩
    · exact .inr ⟨t,by simp [ht],hb⟩
def doneFS (D:Nat->Bool):Tr->FS->FS
 | [],fs=>fs
 | (i,W,_) :: tr,fs=>doneFS D tr (cond (D i) (ovr fs W) fs)
theorem doneFS_all {D:Nat->Bool}:∀ {tr:Tr} {fs:FS},(∀ t∈tr,D t.1=true)->doneFS D tr fs=chainFS tr fs
 | [],_,_=>rfl
 | (i,W,rds) :: tr,fs,h=>by
  simp only [doneFS,chainFS,h (i,W,rds) (by simp),cond_true]
  exact doneFS_all fun t ht=>h t (by simp [ht])
theorem doneFS_none {D:Nat->Bool}:∀ {tr:Tr} {fs:FS},(∀ t∈tr,D t.1=false)->doneFS D tr fs=fs
 | [],_,_=>rfl
 | (i,W,rds) :: tr,fs,h=>by
  simp only [doneFS,h (i,W,rds) (by simp),cond_false]
  exact doneFS_none fun t ht=>h t (by simp [ht])
theorem doneFS_at {D:Nat->Bool} {l:Loc}:∀ {tr:Tr} {fs fs':FS},(∀ t∈tr,Wr.cut ∉ t.2.1)->(∀ t∈tr,D t.1=true->l ∉ t.2.1.filterMap Wr.loc)->fs l=fs' l->doneFS D tr fs l=fs' l
 | [],_,_,_,_,h=>h
 | (i,W,rds) :: tr,fs,fs',hc,h,he=>by
  simp only [doneFS]
  refine doneFS_at (fun t ht=>hc t (by simp [ht])) (fun t ht=>h t (by simp [ht])) ?_
  cases hD:D i with
  | false=>exact he
  | true=>rw [cond_true,ovr_not (h (i,W,rds) (by simp) hD) (hc (i,W,rds) (by simp))];exact he
theorem doneFS_pre {D:Nat->Bool} {l:Loc}:∀ {tr:Tr} {fs fs':FS},(∀ t∈tr,Wr.cut ∉ t.2.1)->(∀ t∈tr,l∈t.2.1.filterMap Wr.loc->D t.1=true)->fs l=fs' l->doneFS D tr fs l=chainFS tr fs' l
 | [],_,_,_,_,h=>h
 | (i,W,rds) :: tr,fs,fs',hc,h,he=>by
  simp only [doneFS,chainFS]
  refine doneFS_pre (fun t ht=>hc t (by simp [ht])) (fun t ht=>h t (by simp [ht])) ?_
  by_cases hm:l∈W.filterMap Wr.loc
  · rw [h (i,W,rds) (by simp) hm,cond_true];exact ovr_mem hm
  · rw [ovr_not hm (hc (i,W,rds) (by simp))]
    cases D i with
    | false=>exact he
    | true=>rw [cond_true,ovr_not hm (hc (i,W,rds) (by simp))];exact he
theorem doneFS_append {D:Nat->Bool}:∀ {a b:Tr} {fs:FS},doneFS D (a ++ b) fs=doneFS D b (doneFS D a fs)
 | [],_,_=>rfl
 | (i,W,rds) :: a,b,fs=>by simp only [List.cons_append,doneFS];exact doneFS_append
theorem doneFS_congr {D D':Nat->Bool}:∀ {a:Tr} {fs:FS},(∀ t∈a,D t.1=D' t.1)->doneFS D a fs=doneFS D' a fs
 | [],_,_=>rfl
 | (i,W,rds) :: a,fs,h=>by simp only [doneFS,h (i,W,rds) (by simp)];exact doneFS_congr fun t ht=>h t (by simp [ht])
theorem Chain.split:∀ {a:Tr} {t:Nat × List Wr × List Loc} {b:Tr} {fs:FS},Chain te tbl ops nt nx gs (a ++ t :: b) fs->∃ ws,((opT te tbl ops nt nx t.1).run (chainFS a fs) []).ev=some (ws,t.2.2)/\Learned gs ws t.2.1
 | [],(i,W,rds),b,fs,h=>h.1
 | (i,W,rds) :: a,t,b,fs,h=>Chain.split (a:=a) h.2
theorem orderOk_mem {ms:List Nat}:∀ {l:List Log},orderOk ms l=true->∀ (a b c:List Log) (y x:Log),l=a ++ y :: (b ++ x :: c)->clash x y=true->(ms.getD y.1 0).testBit x.1=true
 | [],_,a,b,c,y,x,he,_=>by simp at he
 | z :: l,h,a,b,c,y,x,he,hc=>by
  simp only [orderOk,Bool.and_eq_true] at h
  cases a with
  | nil =>
   simp only [List.nil_append,List.cons.injEq] at he
   obtain ⟨rfl,rfl⟩:=he
   have:=(List.all_eq_true.1 h.1) x (by simp)
   simpa [hc] using this
  | cons a0 a =>
   simp only [List.cons_append,List.cons.injEq] at he
   exact orderOk_mem h.2 a b c y x he.2 hc
end
end Go.VI
namespace Go.VI
open Go Go.RowKit
theorem edgesOk_spec:∀ {l:List Oper} {i:Nat},edgesOk l i=true->∀ (j:Nat) o,l[j]?=some o->∀ e∈o.after,Region.binds .any e=true->e.on < i+j
 | [],i,_,j,o,h=>by simp at h
 | x :: l,i,h,j,o,ho=>by
  simp only [edgesOk,Bool.and_eq_true] at h
  cases j with
  | zero =>
   simp at ho;subst ho
   intro e he hb
   have:=(List.all_eq_true.1 h.1) e (by simpa using he)
   simpa [hb] using this
  | succ j =>
   intro e he hb
   have:=edgesOk_spec h.2 j o (by simpa using ho) e he hb
   omega
def maskOf (o:Oper) (acc:List Nat):Nat:=o.after.toList.foldl (fun s e=>cond (Region.binds .any e) (s ||| 2 ^ e.on ||| acc.getD e.on 0) s) 0
theorem foldl_bit {acc:List Nat} {i:Nat}:∀ {l:List Edge} {s:Nat},(l.foldl (fun s e=>cond (Region.binds .any e) (s ||| 2 ^ e.on ||| acc.getD e.on 0) s) s).testBit i=true ->
 s.testBit i=true\/∃ e∈l,Region.binds .any e=true/\(e.on=i\/(acc.getD e.on 0).testBit i=true)
 | [],s,h=>.inl h
 | e :: l,s,h=>by
  simp only [List.foldl_cons] at h
  rcases foldl_bit h with h | ⟨e',he',h'⟩
  · cases hb:Region.binds .any e with
    | false=>simp [hb] at h;exact .inl h
    | true =>
     simp only [hb,cond_true,Nat.testBit_or,Bool.or_eq_true,Nat.testBit_two_pow,decide_eq_true_eq] at h
     rcases h with (h | h) | h
     · exact .inl h
     · exact .inr ⟨e,by simp,hb,.inl h⟩
     · exact .inr ⟨e,by simp,hb,.inr h⟩
  · exact .inr ⟨e',by simp [he'],h'⟩
theorem masks_spec:∀ {l:List Oper} {acc:List Nat},(∃ r,masks l acc=acc ++ r)/\∀ (j:Nat) o,l[j]?=some o->∃ acc',(∃ r,masks l acc=acc' ++ r)/\acc'.length=acc.length+j/\(masks l acc).getD (acc.length+j) 0=maskOf o acc'
 | [],acc=>⟨⟨[],by simp [masks]⟩,fun j o h=>by simp at h⟩
 | x :: l,acc=>by
  obtain ⟨⟨r,h1⟩,h2⟩:=masks_spec (l:=l) (acc:=acc ++ [maskOf x acc])
  have h0:masks (x :: l) acc=masks l (acc ++ [maskOf x acc]):=rfl
  refine ⟨⟨maskOf x acc :: r,by rw [h0,h1];simp⟩,fun j o ho=>?_⟩
  cases j with
  | zero =>
   simp at ho;subst ho
   refine ⟨acc,⟨maskOf x acc :: r,by rw [h0,h1];simp⟩,by simp,?_⟩
   rw [h0,h1]
   simp [List.getD,List.getElem?_append]
  | succ j =>
   obtain ⟨acc',h3,h4,h5⟩:=h2 j o (by simpa using ho)
   refine ⟨acc',by rw [h0];exact h3,by simp at h4;omega,?_⟩
   rw [h0]
   simp only [List.length_append,List.length_cons,List.length_nil,Nat.zero_add] at h5
   rw [show acc.length+(j+1)=acc.length+1+j by omega]
   exact h5
theorem doneFS_local {D:Nat->Bool} {l:Loc}:∀ {tr:Tr} {f g:FS},(∀ t∈tr,Wr.cut ∉ t.2.1)->f l=g l->doneFS D tr f l=doneFS D tr g l
 | [],_,_,_,h=>h
 | (i,W,rds) :: tr,f,g,hc,h=>by
  simp only [doneFS]
  refine doneFS_local (fun t ht=>hc t (by simp [ht])) ?_
  cases D i with
  | false=>exact h
  | true =>
   simp only [cond_true]
   by_cases hm:l∈W.filterMap Wr.loc
   · exact ovr_mem hm
   · rw [ovr_not hm (hc (i,W,rds) (by simp)),ovr_not hm (hc (i,W,rds) (by simp))];exact h
theorem hits_of {a b:List Loc} {l:Loc} (ha:l∈a) (hb:l∈b):hits a b=true :=
 List.any_eq_true.2 ⟨l,ha,List.any_eq_true.2 ⟨l,hb,eqb_refl l⟩⟩
theorem split_at:∀ {tr:Tr} {s n k:Nat},tr.map (·.1)=List.range' s n->k < n->∃ a t b,tr=a ++ t :: b/\t.1=s+k/\(∀ x∈a,x.1 < s+k)/\∀ x∈b,s+k < x.1
 | [],s,n,k,h,hk=>by cases n <;> simp [List.range'] at h hk
 | t :: tr,s,0,k,h,hk=>by omega
 | t :: tr,s,n+1,k,h,hk=>by
  simp only [List.map_cons,List.range'_succ,List.cons.injEq] at h
  cases k with
  | zero =>
   refine ⟨[],t,tr,rfl,by simp [h.1],by simp,fun x hx=>?_⟩
   have:x.1∈tr.map (·.1):=List.mem_map.2 ⟨x,hx,rfl⟩
   rw [h.2] at this
   have:=(List.mem_range'_1.1 this).1
   omega
  | succ k =>
   obtain ⟨a,u,b,h1,h2,h3,h4⟩:=split_at (k:=k) h.2 (by omega)
   refine ⟨t :: a,u,b,by simp [h1],by omega,fun x hx=>?_,fun x hx=>?_⟩
   · rcases List.mem_cons.1 hx with rfl | hx
     · omega
     · have:=h3 x hx;omega
   · have:=h4 x hx;omega
theorem nodup_le:∀ {n:Nat} {S:List Nat},S.Nodup->(∀ i∈S,i < n)->S.length<=n
 | 0,S,_,h=>by
  cases S with
  | nil=>simp
  | cons x S=>have:=h x (by simp);omega
 | n+1,S,hnd,h=>by
  by_cases hm:n∈S
  · have:=nodup_le (n:=n) (S:=S.erase n) (hnd.erase n) fun i hi=>by
     have h1:=h i (List.mem_of_mem_erase hi)
     have h2:i≠n:=fun he=>by subst he;exact hnd.not_mem_erase hi
     omega
    rw [List.length_erase_of_mem hm] at this
    omega
  · have:=nodup_le (n:=n) hnd fun i hi=>by
     have h1:=h i hi
     have h2:i≠n:=fun he=>hm (he ▸ hi)
     omega
    omega
section
variable {P:Program} {te:TE} {tbl:Tbl} {cx:Cx} {nt nx:Nat} {N:Nat->Prop} {ops:Array Oper} {gs:List Nat} {Q:Exit->Act->World->Prop}
theorem any_wp (ht:TEok P te) (hT:tbl.Sound P) {tr:Tr} {fs:FS} (hC:Chain te tbl ops nt nx gs tr fs) (hix:tr.map (·.1)=List.range ops.size) (hord:orderOk (masks ops.toList []) (tr.map logOf).reverse=true) (hed:edgesOk ops.toList 0=true)
 (hN:∀ b,N b->b < nx) (hQ:∀ act' w',St cx nt (chainFS tr fs) act' w' (fun b=>N b\/(nx<=b/\b < nx+64*ops.size))->Q .normal act' w') :
 ∀ (fuel:Nat) (listed:Array Bool) (act:Act) (w:World),listed.size=ops.size->(∀ (j:Nat) o,ops[j]?=some o->listed.getD j false=true->∀ e∈o.after,Region.binds .any e=true->listed.getD e.on false=true) ->
  (∀ S:List Nat,S.Nodup->(∀ i∈S,i < ops.size/\listed.getD i false=false)->S.length<=fuel) ->
  St cx nt (doneFS (fun i=>listed.getD i false) tr fs) act w (fun b=>N b\/∃ i,listed.getD i false=true/\nx+64*i<=b/\b < nx+64*i+64)->wpAny P .any ops Q fuel listed act w:=by
 have hcut:=hC.cut
 have hlen:tr.length=ops.size:=by have:=congrArg List.length hix;simpa using this
 rw [List.range_eq_range'] at hix
 have hlt:∀ t∈tr,t.1 < ops.size:=fun t ht=>by
  have:t.1∈tr.map (·.1):=List.mem_map.2 ⟨t,ht,rfl⟩
  rw [hix] at this
  have:=(List.mem_range'_1.1 this).2
  omega
 have ord:∀ p x q y r,tr=p ++ x :: (q ++ y :: r)->clash (logOf x) (logOf y)=true->((masks ops.toList []).getD y.1 0).testBit x.1=true:=by
  intro p x q y r he hc
  refine orderOk_mem hord (r.map logOf).reverse (q.map logOf).reverse (p.map logOf).reverse (logOf y) (logOf x) ?_ hc
  rw [he];simp
 have reach:∀ (listed:Array Bool),(∀ (j:Nat) o,ops[j]?=some o->listed.getD j false=true->∀ e∈o.after,Region.binds .any e=true->listed.getD e.on false=true) ->
  ∀ k o,ops[k]?=some o->(∀ e∈o.after,Region.binds .any e=true->listed.getD e.on false=true)->∀ i,((masks ops.toList []).getD k 0).testBit i=true->listed.getD i false=true:=by
  intro listed hDC k
  induction k using Nat.strongRecOn with
  | _ k ih =>
   intro o ho hpre i hi
   obtain ⟨acc',⟨r,h1⟩,h2,h3⟩:=(masks_spec (l:=ops.toList) (acc:=[])).2 k o (by simpa using ho)
   simp only [List.length_nil,Nat.zero_add] at h2 h3
   rw [h3] at hi
   rcases foldl_bit hi with h | ⟨e,he,hb,h⟩
   · simp at h
   · have he':e∈o.after:=by simpa using he
     have hlt:=edgesOk_spec hed k o (by simpa using ho) e he' hb
     rw [Nat.zero_add] at hlt
     have hD:=hpre e he' hb
     rcases h with rfl | h
     · exact hD
     · have hoe:∃ o',ops[e.on]?=some o':=by
        have:k < ops.size:=(Array.getElem?_eq_some_iff.1 ho).1
        exact ⟨_,Array.getElem?_eq_getElem (by omega)⟩
       obtain ⟨o',ho'⟩:=hoe
       refine ih e.on hlt o' ho' (hDC _ _ ho' hD) i ?_
       have:(masks ops.toList []).getD e.on 0=acc'.getD e.on 0:=by
        rw [h1];simp [List.getD,List.getElem?_append_left (show e.on < acc'.length by omega)]
       rw [this];exact h
 intro fuel
 have allDone:∀ (listed:Array Bool) (act:Act) (w:World),listed.size=ops.size->Region.ready .any ops listed=[]->St cx nt (doneFS (fun i=>listed.getD i false) tr fs) act w (fun b=>N b\/∃ i,listed.getD i false=true/\nx+64*i<=b/\b < nx+64*i+64)->Q .normal act w:=by
  intro listed act w hsz hr hS
  have all:∀ j,j < ops.size->listed.getD j false=true:=by
   intro j
   induction j using Nat.strongRecOn with
   | _ j ih =>
    intro hj
    cases hD:listed.getD j false with
    | true=>rfl
    | false =>
     have:j∈Region.ready .any ops listed:=by
      rw [mem_ready]
      refine ⟨?_,ops[j],Array.getElem?_eq_getElem hj,fun e he hb=>?_⟩
      · rw [Array.getD_eq_getD_getElem?,Array.getElem?_eq_getElem (by omega)] at hD ⊢
        exact hD
      · have:=edgesOk_spec hed j ops[j] (by simp [hj]) e he hb
        exact ih e.on (by omega) (by omega)
     rw [hr] at this;cases this
  rw [doneFS_all fun t ht=>all _ (hlt t ht)] at hS
  refine hQ act w (hS.mono fun b hb=>?_)
  rcases hb with hb | ⟨i,h1,h2,h3⟩
  · exact .inl hb
  · have:i < ops.size:=by
     rcases Nat.lt_or_ge i ops.size with h | h
     · exact h
     · rw [Array.getD_eq_getD_getElem?,Array.getElem?_eq_none (by omega)] at h1;cases h1
    exact .inr (by omega)
 induction fuel with
 | zero =>
  intro listed act w hsz hDC hcnt hS
  have hr:Region.ready .any ops listed=[]:=by
   cases hr:Region.ready .any ops listed with
   | nil=>rfl
   | cons i r =>
    have hi:i∈Region.ready .any ops listed:=by rw [hr];simp
    obtain ⟨h1,o,h2,_⟩:=mem_ready.1 hi
    have hlt:=(Array.getElem?_eq_some_iff.1 h2).1
    have:=hcnt [i] (by simp) (by
     simp only [List.mem_singleton,forall_eq]
     refine ⟨hlt,?_⟩
     rw [Array.getD_eq_getD_getElem?,Array.getElem?_eq_getElem (by omega)] at h1 ⊢
     exact h1)
    simp at this
  exact ⟨hr,allDone listed act w hsz hr hS⟩
 | succ fuel ih =>
  intro listed act w hsz hDC hcnt hS
  refine ⟨fun hr=>allDone listed act w hsz hr hS,fun k hk=>?_⟩
  obtain ⟨h1,o,h2,hpre⟩:=mem_ready.1 hk
  have hkn:=(Array.getElem?_eq_some_iff.1 h2).1
  have hDk:listed.getD k false=false:=by
   rw [Array.getD_eq_getD_getElem?,Array.getElem?_eq_getElem (by omega)] at h1 ⊢
   exact h1
  obtain ⟨a,t,b,he,htk,ha,hb⟩:=split_at hix hkn
  simp only [Nat.zero_add] at htk ha hb
  subst htk
  have hcuta:∀ x∈a,Wr.cut ∉ x.2.1:=fun x hx=>hcut x (by rw [he];simp [hx])
  have hcutb:∀ x∈b,Wr.cut ∉ x.2.1:=fun x hx=>hcut x (by rw [he];simp [hx])
  have hcutt:Wr.cut ∉ t.2.1:=hcut t (by rw [he];simp)
  obtain ⟨ws,hrun,hL⟩:=Chain.split (a:=a) (b:=b) (by rw [<-he];exact hC)
  have hfs:doneFS (fun i=>listed.getD i false) tr fs=doneFS (fun i=>listed.getD i false) b (doneFS (fun i=>listed.getD i false) a fs):=by
   rw [he,doneFS_append]
   obtain ⟨t1,tW,tr'⟩:=t
   simp only [doneFS,hDk,cond_false]
  have later:∀ y∈b,listed.getD y.1 false=true->clash (logOf t) (logOf y)=false:=fun y hy hD=>by
   cases hc:clash (logOf t) (logOf y) with
   | false=>rfl
   | true =>
    obtain ⟨q,r,hqr⟩:=List.append_of_mem hy
    have:=ord a t q y r (by rw [he,hqr]) hc
    have hoy:∃ oy,ops[y.1]?=some oy:=⟨_,Array.getElem?_eq_getElem (hlt y (by rw [he];simp [hy]))⟩
    obtain ⟨oy,hoy⟩:=hoy
    have:=reach listed hDC y.1 oy hoy (hDC _ _ hoy hD) t.1 this
    rw [hDk] at this;cases this
  have agree:∀ l∈t.2.2,doneFS (fun i=>listed.getD i false) tr fs l=chainFS a fs l:=fun l hl=>by
   rw [hfs]
   refine doneFS_at hcutb (fun y hy hD hm=>?_) (doneFS_pre hcuta (fun x hx hm=>?_) rfl)
   · have:=later y hy hD
     simp only [clash,Bool.or_eq_false_iff,logOf] at this
     rw [hits_of hl hm] at this
     exact absurd this.2 (by simp)
   · obtain ⟨p,q,hpq⟩:=List.append_of_mem hx
     refine reach listed hDC t.1 o h2 hpre x.1 (ord p x q t b (by rw [he,hpq];simp) ?_)
     simp only [clash,logOf,hits_of hm hl,Bool.true_or]
  have hrun':=T.run_local hrun agree
  refine opT_wp ht hT hS (fun b hb1 hb2 hNb=>?_) (T.run_evs hrun') hL fun act' w' hS'=>?_
  · rcases hNb with h | ⟨i,h3,h4,h5⟩
    · have:=hN b h;omega
    · have:i=t.1:=by omega
      subst this
      rw [hDk] at h3;cases h3
  · have hset:∀ i,(listed.setIfInBounds t.1 true).getD i false=(if i=t.1 then true else listed.getD i false):=fun i=>by
     by_cases hi:i=t.1
     · subst hi
       rw [if_pos rfl,Array.getD_eq_getD_getElem?,Array.getElem?_setIfInBounds_self_of_lt (by omega)]
       rfl
     · rw [if_neg hi,getD_set_ne false (Ne.symm hi)]
    have hfs':doneFS (fun i=>(listed.setIfInBounds t.1 true).getD i false) tr fs=ovr (doneFS (fun i=>listed.getD i false) tr fs) t.2.1:=by
     funext l
     rw [hfs,he,doneFS_append]
     have e1:doneFS (fun i=>(listed.setIfInBounds t.1 true).getD i false) a fs=doneFS (fun i=>listed.getD i false) a fs:=doneFS_congr fun x hx=>by
      rw [hset,if_neg (by have:=ha x hx;omega)]
     rw [e1]
     have e2:∀ f,doneFS (fun i=>(listed.setIfInBounds t.1 true).getD i false) (t :: b) f=doneFS (fun i=>listed.getD i false) b (ovr f t.2.1):=fun f=>by
      obtain ⟨t1,tW,tr'⟩:=t
      simp only [doneFS]
      rw [hset,if_pos rfl,cond_true]
      exact doneFS_congr fun x hx=>by rw [hset,if_neg (by have:=hb x hx;simp only at this;omega)]
     rw [e2]
     by_cases hm:l∈t.2.1.filterMap Wr.loc
     · refine (doneFS_at hcutb (fun y hy hD hmy=>?_) rfl).trans (ovr_mem hm)
       have:=later y hy hD
       simp only [clash,Bool.or_eq_false_iff,logOf] at this
       rw [hits_of hm hmy] at this
       exact absurd this.1.2 (by simp)
     · rw [ovr_not hm hcutt]
       exact doneFS_local hcutb (ovr_not hm hcutt)
    refine ih (listed.setIfInBounds t.1 true) act' w' (by simp [hsz]) (fun j oj hoj hD e he' hbe=>?_) (fun S hnd hSu=>?_) ?_
    · rw [hset] at hD ⊢
      split
      · rfl
      · split at hD
        · rename_i hj
          subst hj
          rw [h2] at hoj;cases hoj
          exact hpre e he' hbe
        · exact hDC j oj hoj hD e he' hbe
    · have hnot:t.1 ∉ S:=fun hm=>by
       have:=(hSu _ hm).2
       rw [hset,if_pos rfl] at this;cases this
      have:=hcnt (t.1 :: S) (List.nodup_cons.2 ⟨hnot,hnd⟩) fun i hi=>by
       rcases List.mem_cons.1 hi with rfl | hi
       · exact ⟨hkn,hDk⟩
       · have:=hSu i hi
         refine ⟨this.1,?_⟩
         have h3:=this.2
         rw [hset] at h3
         split at h3
         · cases h3
         · exact h3
      simp at this
      omega
    · rw [hfs']
      refine hS'.mono fun b hb'=>?_
      rcases hb' with (h | ⟨i,h3,h4⟩) | h
      · exact .inl h
      · refine .inr ⟨i,?_,h4⟩
        rw [hset];split
        · rfl
        · exact h3
      · exact .inr ⟨t.1,by rw [hset,if_pos rfl],h⟩
theorem region_wp (ht:TEok P te) (hT:tbl.Sound P) (hmix:P.follows .mixedOrders=true) {st:List Wr} {id:Nat} {draw:Bool} {ws:List Wr} {act:Act} {w:World} (h:(regionT te tbl nt nx ops draw st).ev=some ws) (hS:St cx nt (look st) act w N) (hN:∀ b,N b->b < nx)
 (hQ:∀ act' w',St cx nt (look (ws ++ st)) act' w' (fun b=>b < nx+64*ops.size)->Q .normal act' w'):(Code.region id ops draw).wp P Q act w:=by
 unfold regionT at h
 cases draw with
 | false =>
  simp only [cond_false] at h
  obtain ⟨tr,h1,h2,h3,_⟩:=runOps_ok h
  refine wp_region ?_
  rw [<-h1]
  refine text_wp ht hT h2 hS (by rw [h1];exact List.nodup_range) (fun t ht b hb1 _ hb3=>by have:=hN b hb3;omega) fun act' w' hS'=>?_
  refine hQ act' w' ?_
  rw [look_append]
  refine (hS'.le h3).mono fun b hb=>?_
  rcases hb with hb | ⟨t,ht,hb⟩
  · have:=hN b hb;omega
  · have:t.1∈List.range ops.size:=by rw [<-h1];exact List.mem_map.2 ⟨t,ht,rfl⟩
    have:=List.mem_range.1 this
    omega
 | true =>
  simp only [cond_true] at h
  cases hed:edgesOk ops.toList 0 with
  | false=>simp [hed,Tree.ev] at h
  | true =>
   simp only [hed,cond_true] at h
   obtain ⟨tr,h1,h2,h3,h4⟩:=runOps_ok h
   have h4:=h4 _ rfl
   rw [List.append_nil] at h4
   refine wp_region_any hmix (any_wp (cx:=cx) ht hT h2 h1 h4 hed hN (fun act' w' hS'=>?_) ops.size _ act _ (by simp) (fun j o hj hD=>?_) (fun S hnd hSu=>nodup_le hnd fun i hi=>(hSu i hi).1) ?_)
   · refine hQ act' w' ?_
     rw [look_append]
     refine (hS'.le h3).mono fun b hb=>?_
     rcases hb with hb | hb
     · have:=hN b hb;omega
     · omega
   · exfalso
     rw [Array.getD_eq_getD_getElem?,Array.getElem?_replicate] at hD
     split at hD <;> simp at hD
   · have hnone:∀ i,(Array.replicate ops.size false).getD i false=false:=fun i=>by
      rw [Array.getD_eq_getD_getElem?,Array.getElem?_replicate]
      split <;> rfl
     rw [doneFS_none fun t _=>hnone _]
     obtain ⟨env,own,q1,q2,q3⟩:=hS.ex
     have:=Post.drew q1 q2
     exact ⟨hS.defers,hS.size,env,own,this.rw.mono fun b hb=>.inl hb,this.rb,q3⟩
end
end Go.VI
namespace Go.VI
open Go Go.RowKit
def envM (nx:Nat) (m:Mp) (env:Nm):Nm:=fun b =>
 if nx<=b/\b < nx+64 then (match m.find (b - nx) with
  | some (some b')=>env b'
  | some none=>some (.slice none 0 0)
  | none=>none)
 else if b < nx then env b else none
theorem envM_own {nx:Nat} {m:Mp} {env:Nm} {c b:Nat} (hc:c < 64) (h:m.find c=some (some b)):envM nx m env (nx+c)=env b:=by
 simp only [envM]
 rw [if_pos (by omega),Nat.add_sub_cancel_left,h]
theorem envM_nil {nx:Nat} {m:Mp} {env:Nm} {c:Nat} (hc:c < 64) (h:m.find c=some none):envM nx m env (nx+c)=some (.slice none 0 0):=by
 simp only [envM]
 rw [if_pos (by omega),Nat.add_sub_cancel_left,h]
theorem envM_lt {nx:Nat} {m:Mp} {env:Nm} {b:Nat} (hb:b < nx):envM nx m env b=env b:=by
 simp only [envM]
 rw [if_neg (by omega),if_pos hb]
theorem same_some {x:Option (Option Nat)} {b:Nat} (h:same x (some b)=true):x=some (some b):=by
 unfold same at h
 split at h
 · rename_i a b' h1
   cases h1
   rw [Nat.eq_of_beq_eq_true h]
 · rename_i h1;cases h1
 · cases h
theorem same_none {x:Option (Option Nat)} (h:same x none=true):x=some none:=by
 unfold same at h
 split at h
 · rename_i a b' h1;cases h1
 · rfl
 · cases h
section
variable {cx:Cx} {fs:FS} {w:World} {env:Nm} {own:Ow} {nx:Nat} {m:Mp} {ok':Nat->Prop}
theorem rest_nil {α:Type} {rest:List α} {u:Unit} (h:(guardT rest.isEmpty).evs fs=some u):rest=[]:=by
 have:=evs_guard.1 h;simpa using this
theorem packT_all (hB:RB cx fs w env own) {t:Ty} {xs:List Lf} {cs:List Value} {v:t.den} {ws:Ws} (h:(packT true t xs).evs fs=some (v,[],ws)) (hx:All2 (LfR w.heap (cx.ok own) env) xs cs):Frz fs ws/\∀ bs,(∀ p∈ws,p.1∈bs)->Fits w.heap (cx.ok (unown own bs)) t v cs:=by
 obtain ⟨h1,c1,c2,hc,hr,hf⟩:=packT_ok hB h hx
 have:c2=[]:=by cases c2 with
  | nil=>rfl
  | cons _ _=>exact hr.elim
 subst this
 rw [List.append_nil] at hc
 subst hc
 exact ⟨h1,hf⟩
structure To (cx:Cx) (w:World) (own:Ow) (ns:List Nat) (ok':Nat->Prop):Prop where
 ok:∀ c,cx.ok (unown own ns) c->ok' c
theorem To.fits {ns:List Nat} (hto:To cx w own ns ok') {t:Ty} {v:t.den} {cs:List Value} (h:Fits w.heap (cx.ok (unown own ns)) t v cs):Fits w.heap ok' t v cs:=h.mono fun c hc _=>⟨hto.ok c hc,rfl⟩
theorem To.fits0 {ns:List Nat} (hto:To cx w own ns ok') {t:Ty} {v:t.den} {cs:List Value} (h:Fits w.heap (cx.ok own) t v cs):Fits w.heap ok' t v cs:=h.mono fun c hc _=>⟨hto.ok c (ok_unown hc),rfl⟩
theorem mkL_val {h:Array Obj} {ok:Nat->Prop} {env:Nm} {t:Ty} {v:t.den} {x:Value} (hf:Fits h ok t v [x]):LfR h ok env ((Sl.val t).mkL nx v) x:=by
 have:=flat_ok (env:=env) hf
 simp only [Sl.mkL]
 split
 · rename_i y hy;rw [hy] at this;exact this.1
 · exact hf.one x (by simp)
theorem unL_ok (hB:RB cx fs w env own) {s:Sl} {x:Lf} {v:s.den} {ws:Ws} {val:Value} (h:(unL m s x).evs fs=some (v,ws)) (hx:LfR w.heap (cx.ok own) env x val) :
 Frz fs ws/\∀ ns,(∀ p∈ws,p.1∈ns)->To cx w own ns ok'->LfR w.heap ok' (envM nx m env) (s.mkL nx v) val:=by
 unfold unL at h
 split at h
 · obtain ⟨⟨v1,rest,w1⟩,h1,h2⟩:=evs_bind_some.1 h
   obtain ⟨_,h3,h4⟩:=evs_bind_some.1 h2
   simp at h4
   obtain ⟨rfl,rfl⟩:=h4
   have:=rest_nil h3
   subst this
   obtain ⟨f1,f2⟩:=packT_all hB h1 (cs:=[val]) ⟨hx,trivial⟩
   exact ⟨f1,fun ns hns hto=>mkL_val (hto.fits (f2 ns hns))⟩
 · obtain ⟨_,h1,h2⟩:=evs_bind_some.1 h
   simp at h2
   obtain ⟨_,rfl⟩:=h2
   have h1:=evs_guard.1 h1
   simp only [Bool.and_eq_true] at h1
   refine ⟨Frz.nil,fun ns _ _=>⟨?_,hx.2⟩⟩
   rw [envM_own (by simpa using h1.1) (same_some h1.2)];exact hx.1
 · obtain ⟨_,h1,h2⟩:=evs_bind_some.1 h
   simp at h2
   obtain ⟨_,rfl⟩:=h2
   have h1:=evs_guard.1 h1
   simp only [Bool.and_eq_true] at h1
   simp only [LfR] at hx;subst hx
   refine ⟨Frz.nil,fun ns _ _=>⟨?_,_,_,_,rfl⟩⟩
   rw [envM_nil (by simpa using h1.1) (same_none h1.2)]
 · obtain ⟨_,h1,h2⟩:=evs_bind_some.1 h
   simp at h2
   obtain ⟨_,rfl⟩:=h2
   have h1:=evs_guard.1 h1
   simp only [Bool.and_eq_true] at h1
   obtain ⟨g,q1,q2⟩:=hx
   refine ⟨Frz.nil,fun ns _ _=>⟨g,?_,?_⟩⟩
   · rw [envM_own (by simpa using h1.1.1) (same_some h1.1.2)];exact q1
   · rw [Nat.eq_of_beq_eq_true h1.2];exact q2
 · obtain ⟨_,h1,h2⟩:=evs_bind_some.1 h
   simp at h2
   obtain ⟨rfl,rfl⟩:=h2
   have h1:=evs_guard.1 h1
   simp only [Bool.and_eq_true] at h1
   obtain ⟨g,n,c,q1,q2,q3⟩:=hx
   refine ⟨Frz.nil,fun ns _ _=>⟨g,n,c,?_,q2,?_⟩⟩
   · rw [envM_own (by simpa using h1.1.1.1) (same_some h1.1.1.2)];exact q1
   · rw [Nat.eq_of_beq_eq_true h1.2,Nat.eq_of_beq_eq_true h1.1.2];exact q3
 · simp [T.evs] at h
theorem unLs_ok (hB:RB cx fs w env own):∀ {cs:List Sl} {xs:List Lf} {v:Sden cs} {ws:Ws} {vals:List Value},(unLs m cs xs).evs fs=some (v,ws)->All2 (LfR w.heap (cx.ok own) env) xs vals ->
 Frz fs ws/\∀ ns,(∀ p∈ws,p.1∈ns)->To cx w own ns ok'->All2 (LfR w.heap ok' (envM nx m env)) (mkLs nx cs v) vals
 | [],[],v,ws,vals,h,hx=>by
  simp [unLs,T.evs] at h
  subst h
  cases vals with
  | nil=>exact ⟨Frz.nil,fun _ _ _=>trivial⟩
  | cons _ _=>exact hx.elim
 | s :: cs,x :: xs,v,ws,vals,h,hx=>by
  simp only [unLs] at h
  obtain ⟨⟨v1,w1⟩,h1,h2⟩:=evs_bind_some.1 h
  obtain ⟨⟨v2,w2⟩,h3,h4⟩:=evs_bind_some.1 h2
  simp at h4
  obtain ⟨rfl,rfl⟩:=h4
  cases vals with
  | nil=>exact hx.elim
  | cons u vals =>
   obtain ⟨f1,f2⟩:=unL_ok (nx:=nx) (ok':=ok') hB h1 hx.1
   obtain ⟨f3,f4⟩:=unLs_ok hB h3 hx.2
   exact ⟨f1.append f3,fun ns hns hto=>⟨f2 ns (fun p hp=>hns p (by simp [hp])) hto,f4 ns (fun p hp=>hns p (by simp [hp])) hto⟩⟩
 | [],_ :: _,_,_,_,h,_=>by simp [unLs,T.evs] at h
 | _ :: _,[],_,_,_,h,_=>by simp [unLs,T.evs] at h
theorem mk1_val {h:Array Obj} {ok:Nat->Prop} {env:Nm} {t:Ty} {v:t.den} {cs:List Value} (hf:Fits h ok t v cs):A1R h ok env ((Sl.val t).mk1 nx v) (mkVal t cs):=by
 simp only [Sl.mk1,mkVal]
 cases ha:t.isAgg with
 | true=>exact ⟨_,rfl,flat_ok hf⟩
 | false =>
  have hs:t.size=1:=by cases t <;> simp_all [Ty.isAgg,Ty.size]
  have:=hf.len
  rw [hs] at this
  match cs,this with
  | [c],_=>exact mkL_val hf
theorem unS_ok (hB:RB cx fs w env own) {tm:Array Value} (hS:RS cx fs tm w env own):∀ {ss:List Nat} {sl:List Sl} {v:Sden sl} {ws:Ws},(unS m ss sl).evs fs=some (v,ws) ->
 Frz fs ws/\∀ ns,(∀ p∈ws,p.1∈ns)->To cx w own ns ok'->∀ (rest:List Wr),(∀ n,SlotR w.heap ok' (envM nx m env) (look rest (.s n)) (tm.getD n undef))->∀ n,SlotR w.heap ok' (envM nx m env) (look (mkS nx ss sl v ++ rest) (.s n)) (tm.getD n undef)
 | [],[],v,ws,h=>by
  simp [unS,T.evs] at h
  subst h
  exact ⟨Frz.nil,fun _ _ _ rest hr=>hr⟩
 | k :: ss,s :: sl,v,ws,h=>by
  simp only [unS] at h
  obtain ⟨a,h1,h2⟩:=evs_bind_some.1 h
  obtain ⟨⟨v1,w1⟩,h3,h4⟩:=evs_bind_some.1 h2
  obtain ⟨⟨v2,w2⟩,h5,h6⟩:=evs_bind_some.1 h4
  simp at h6
  obtain ⟨rfl,rfl⟩:=h6
  have ha:=rdS_ok hS h1
  obtain ⟨f3,f4⟩:=unS_ok hB hS h5
  have key:Frz fs w1/\∀ ns,(∀ p∈w1,p.1∈ns)->To cx w own ns ok'->A1R w.heap ok' (envM nx m env) (s.mk1 nx v1) (tm.getD k undef):=by
   have other:∀ {x:Lf},(one a).evs fs=some x->(unL m s x).evs fs=some (v1,w1)->(∀ t,s≠.val t)->Frz fs w1/\∀ ns,(∀ p∈w1,p.1∈ns)->To cx w own ns ok'->A1R w.heap ok' (envM nx m env) (s.mk1 nx v1) (tm.getD k undef):=by
    intro x hx hu hne
    rw [one_ok hx] at ha
    obtain ⟨f1,f2⟩:=unL_ok (nx:=nx) (ok':=ok') hB hu ha
    refine ⟨f1,fun ns hns hto=>?_⟩
    have:=f2 ns hns hto
    cases s with
    | val t=>exact absurd rfl (hne t)
    | own _=>exact this
    | bptr _ _=>exact this
    | eptr _ _ _=>exact this
   split at h3
   · rename_i t v1'
     obtain ⟨ys,h7,h8⟩:=evs_bind_some.1 h3
     obtain ⟨⟨u,rest,w1'⟩,h9,h10⟩:=evs_bind_some.1 h8
     obtain ⟨_,h11,h12⟩:=evs_bind_some.1 h10
     simp at h12
     obtain ⟨rfl,rfl⟩:=h12
     have:=rest_nil h11
     subst this
     obtain ⟨k1,k2⟩:=leavesT_ok h7 ha (.inr trivial)
     obtain ⟨f1,f2⟩:=packT_all hB h9 k1
     refine ⟨f1,fun ns hns hto=>?_⟩
     rw [k2 _ rfl]
     exact mk1_val (hto.fits (f2 ns hns))
   · rename_i hne
     obtain ⟨x,h7,h8⟩:=evs_bind_some.1 h3
     exact other h7 h8 (fun t he=>by subst he;exact hne t rfl)
  refine ⟨key.1.append f3,fun ns hns hto rest hr n=>?_⟩
  simp only [mkS,List.cons_append,look]
  by_cases hkn:k=n
  · subst hkn
    simp only [Loc.eqb,Nat.beq_refl,cond_true]
    exact key.2 ns (fun p hp=>hns p (by simp [hp])) hto
  · rw [eqb_ne (show Loc.s k≠Loc.s n from fun e=>by cases e;exact hkn rfl),cond_false]
    exact f4 ns (fun p hp=>hns p (by simp [hp])) hto rest hr n
 | [],_ :: _,_,_,h=>by simp [unS,T.evs] at h
 | _ :: _,[],_,_,h=>by simp [unS,T.evs] at h
end
end Go.VI
namespace Go.VI
open Go Go.RowKit
def CpN (p:Nat->Prop):Cp->Prop
 | .ptr b _=>p b
 | .imm _ _=>True
def LfN (p:Nat->Prop):Lf->Prop
 | .own b=>p b
 | .sub b _ _ _=>p b
 | .bptr b _=>p b
 | .eptr b _ _ _=>p b
 | .clo _ fi ca=>(∀ c∈fi,CpN p c)/\∀ c∈ca,CpN p c
 | _=>True
def A1N (p:Nat->Prop):A1->Prop
 | .one x=>LfN p x
 | .agg xs=>∀ x∈xs,LfN p x
def AvN (p:Nat->Prop):AV->Prop
 | .v a=>A1N p a
 | .tup as=>∀ a∈as,A1N p a
section
variable {h:Array Obj} {ok:Nat->Prop} {env env':Nm} {p:Nat->Prop}
theorem All2.all {α β:Type} {R:α->β->Prop} {S:α->Prop}:∀ {as:List α} {bs:List β},All2 R as bs->(∀ a b,R a b->S a)->∀ a∈as,S a
 | [],[],_,_=>by simp
 | _ :: _,_ :: _,h,hS=>fun a ha=>by
  rcases List.mem_cons.1 ha with rfl | ha
  · exact hS _ _ h.1
  · exact All2.all h.2 hS a ha
 | [],_ :: _,h,_=>h.elim
 | _ :: _,[],h,_=>h.elim
theorem CpR.named (hp:∀ b,env b≠none->p b) {x:Cp} {v:Value} (hf:CpR h ok env x v):CpN p x:=by
 cases x with
 | ptr b o=>obtain ⟨g,h1,_⟩:=hf;exact hp _ (by simp [h1])
 | imm t v=>trivial
theorem LfR.named (hp:∀ b,env b≠none->p b) {x:Lf} {v:Value} (hf:LfR h ok env x v):LfN p x:=by
 cases x <;> first | trivial | skip
 · exact hp _ (by simp [hf.1])
 · obtain ⟨q,len,c,h1,_⟩:=hf;exact hp _ (by simp [h1])
 · obtain ⟨g,h1,_⟩:=hf;exact hp _ (by simp [h1])
 · obtain ⟨g,n,c,h1,_⟩:=hf;exact hp _ (by simp [h1])
 · obtain ⟨vs,us,_,h1,h2⟩:=hf;exact ⟨h1.all fun _ _=>CpR.named hp,h2.all fun _ _=>CpR.named hp⟩
theorem A1R.named (hp:∀ b,env b≠none->p b) {x:A1} {v:Value} (hf:A1R h ok env x v):A1N p x:=by
 cases x with
 | one x=>exact LfR.named hp hf
 | agg xs=>obtain ⟨cs,_,h2⟩:=hf;exact h2.all fun a b=>LfR.named hp
theorem AvR.named (hp:∀ b,env b≠none->p b) {x:AV} {v:Value} (hf:AvR h ok env x v):AvN p x:=by
 cases x with
 | v x=>exact A1R.named hp hf
 | tup xs=>obtain ⟨cs,_,h2⟩:=hf;exact h2.all fun a b=>A1R.named hp
theorem CpR.rename (he:∀ b,p b->env' b=env b) {x:Cp} {v:Value} (hn:CpN p x) (hf:CpR h ok env x v):CpR h ok env' x v:=by
 cases x with
 | ptr b o=>obtain ⟨g,h1,h2⟩:=hf;exact ⟨g,by rw [he _ hn];exact h1,h2⟩
 | imm t v=>exact hf
theorem LfR.rename (he:∀ b,p b->env' b=env b) {x:Lf} {v:Value} (hn:LfN p x) (hf:LfR h ok env x v):LfR h ok env' x v:=by
 cases x <;> first | exact hf | skip
 · exact ⟨by rw [he _ hn];exact hf.1,hf.2⟩
 · obtain ⟨q,len,c,h1,h2⟩:=hf;exact ⟨q,len,c,by rw [he _ hn];exact h1,h2⟩
 · obtain ⟨g,h1,h2⟩:=hf;exact ⟨g,by rw [he _ hn];exact h1,h2⟩
 · obtain ⟨g,n,c,h1,h2⟩:=hf;exact ⟨g,n,c,by rw [he _ hn];exact h1,h2⟩
 · obtain ⟨vs,us,h1,h2,h3⟩:=hf;exact ⟨vs,us,h1,All2.of_mem (fun a ha b=>CpR.rename he (hn.1 a ha)) h2,All2.of_mem (fun a ha b=>CpR.rename he (hn.2 a ha)) h3⟩
theorem A1R.rename (he:∀ b,p b->env' b=env b) {x:A1} {v:Value} (hn:A1N p x) (hf:A1R h ok env x v):A1R h ok env' x v:=by
 cases x with
 | one x=>exact LfR.rename he hn hf
 | agg xs=>obtain ⟨cs,h1,h2⟩:=hf;exact ⟨cs,h1,All2.of_mem (fun a ha b=>LfR.rename he (hn a ha)) h2⟩
theorem AvR.rename (he:∀ b,p b->env' b=env b) {x:AV} {v:Value} (hn:AvN p x) (hf:AvR h ok env x v):AvR h ok env' x v:=by
 cases x with
 | v x=>exact A1R.rename he hn hf
 | tup xs=>obtain ⟨cs,h1,h2⟩:=hf;exact ⟨cs,h1,All2.of_mem (fun a ha b=>A1R.rename he (hn a ha)) h2⟩
end
def KeptC (nx:Nat):Loc->Cell->Prop
 | .s _,.av a=>AvN (· < nx) a
 | .b b,.arr _ _ _ _=>b < nx
 | .b b,.ln _=>b < nx
 | .b b,.box _ xs=>b < nx/\∀ x∈xs,LfN (· < nx) x
 | _,_=>True
def KeepOk (nx:Nat) (keep:List Loc) (base:FS):Prop:=∀ l∈keep,KeptC nx l (base l)
theorem St.keepOk {cx:Cx} {nt nx:Nat} {fs:FS} {a:Act} {w:World} (h:St cx nt fs a w (· < nx)) (keep:List Loc):KeepOk nx keep fs:=by
 obtain ⟨env,own,h1,h2,h3⟩:=h.ex
 intro l _
 cases l with
 | s n =>
  have:=h3 n
  cases hc:fs (.s n) with
  | av x=>rw [hc] at this;exact AvR.named h1.names this
  | _=>trivial
 | b n =>
  have:=h2 n
  cases hc:fs (.b n) with
  | arr m T e l =>
   rw [hc] at this
   obtain ⟨v,hv,_⟩:=this
   exact h1.names n (by simp [hv])
  | ln m =>
   rw [hc] at this
   obtain ⟨p,c,hv⟩:=this
   exact h1.names n (by simp [hv])
  | box T xs =>
   rw [hc] at this
   obtain ⟨g,cs,e1,e2,e3,e4⟩:=this
   exact ⟨h1.names n (by simp [e1]),e3.all fun a b=>LfR.named h1.names⟩
  | _=>trivial
def invM (m:Mp) (b:Nat):Nat->Option Nat
 | 0=>none
 | n+1=>match invM m b n with
  | some j=>some j
  | none=>if m.find n=some (some b) then some n else none
theorem invM_none {m:Mp} {b:Nat}:∀ {n:Nat},(∀ i,i < n->m.find i≠some (some b))->invM m b n=none
 | 0,_=>rfl
 | n+1,h=>by simp only [invM,invM_none (n:=n) fun i hi=>h i (by omega)];rw [if_neg (h n (by omega))]
theorem invM_of {m:Mp} {b j:Nat} (hj:m.find j=some (some b)) (hlt:∀ i,i < j->m.find i≠some (some b)):∀ {n:Nat},j < n->invM m b n=some j
 | n+1,h=>by
  simp only [invM]
  by_cases hjn:j=n
  · subst hjn
    rw [invM_none hlt]
    simp [hj]
  · rw [invM_of hj hlt (n:=n) (by omega)]
def ownM (nx:Nat) (m:Mp) (keep:List Loc) (n:Nat) (own:Ow):Ow:=fun g=>match own g with
 | some b=>if Loc.b b∈keep then some b else (invM m b n).map (nx + ·)
 | none=>none
theorem namesOk_spec {m:Mp} {keep:List Loc} {ws:Ws}:∀ {bl:List Bl} {j:Nat} {seen:List Nat},namesOk m keep ws j bl seen=true ->
 (∀ b∈seen,∀ p∈ws,p.1≠b)/\∀ k,k < bl.length->m.find (j+k)≠none/\∀ b,m.find (j+k)=some (some b)->b ∉ seen/\Loc.b b ∉ keep/\(∀ p∈ws,p.1≠b)/\∀ i,i < k->m.find (j+i)≠some (some b)
 | [],j,seen,h=>by
  simp only [namesOk,List.all_eq_true] at h
  refine ⟨fun b hb p hp he=>?_,fun k hk=>by simp at hk⟩
  have:=h p hp
  simp only [Bool.not_eq_true',List.any_eq_false] at this
  exact this b hb (by rw [he];exact Nat.beq_refl b)
 | x :: bl,j,seen,h=>by
  simp only [namesOk] at h
  split at h
  · rename_i b hb
    simp only [Bool.and_eq_true,Bool.not_eq_true',List.any_eq_false] at h
    obtain ⟨⟨h1,h2⟩,h3⟩:=h
    obtain ⟨k1,k2⟩:=namesOk_spec h3
    refine ⟨fun b' hb'=>k1 b' (by simp [hb']),fun k hk=>?_⟩
    cases k with
    | zero =>
     refine ⟨by simp [hb],fun b' hb'=>?_⟩
     rw [Nat.add_zero,hb] at hb'
     cases hb'
     refine ⟨fun hm=>h1 b hm (Nat.beq_refl b),fun hm=>h2 _ hm (eqb_refl _),k1 b (by simp),fun i hi=>by omega⟩
    | succ k =>
     have:=k2 k (by simpa using hk)
     rw [show j+1+k=j+(k+1) by omega] at this
     refine ⟨this.1,fun b' hb'=>?_⟩
     obtain ⟨q1,q2,q3,q4⟩:=this.2 b' hb'
     simp only [List.mem_cons,not_or] at q1
     refine ⟨q1.2,q2,q3,fun i hi=>?_⟩
     cases i with
     | zero=>rw [Nat.add_zero,hb];intro he;cases he;exact q1.1 rfl
     | succ i=>have:=q4 i (by omega);rwa [show j+1+i=j+(i+1) by omega] at this
  · rename_i hb
    obtain ⟨k1,k2⟩:=namesOk_spec h
    refine ⟨k1,fun k hk=>?_⟩
    cases k with
    | zero=>exact ⟨by simp [hb],fun b' hb'=>by rw [Nat.add_zero,hb] at hb';cases hb'⟩
    | succ k =>
     have:=k2 k (by simpa using hk)
     rw [show j+1+k=j+(k+1) by omega] at this
     refine ⟨this.1,fun b' hb'=>?_⟩
     obtain ⟨q1,q2,q3,q4⟩:=this.2 b' hb'
     refine ⟨q1,q2,q3,fun i hi=>?_⟩
     cases i with
     | zero=>rw [Nat.add_zero,hb];simp
     | succ i=>have:=q4 i (by omega);rwa [show j+1+i=j+(i+1) by omega] at this
  · cases h
theorem look_mkS_b {nx:Nat}:∀ {ss:List Nat} {sl:List Sl} {v:Sden sl} {rest:List Wr} {b:Nat},look (mkS nx ss sl v ++ rest) (.b b)=look rest (.b b)
 | [],[],_,_,_=>rfl
 | n :: ss,s :: sl,v,rest,b=>by simp only [mkS,List.cons_append,look,Loc.eqb,cond_false];exact look_mkS_b
 | [],_ :: _,_,_,_=>rfl
 | _ :: _,[],_,_,_=>rfl
theorem look_mkB_s {nx:Nat}:∀ {j:Nat} {bl:List Bl} {v:Bden bl} {rest:List Wr} {n:Nat},look (mkB nx j bl v ++ rest) (.s n)=look rest (.s n)
 | j,[],_,_,_=>rfl
 | j,b :: bl,v,rest,n=>by simp only [mkB,List.cons_append,look,Loc.eqb,cond_false];exact look_mkB_s
theorem look_mkA_s {nx:Nat}:∀ {ns:List Nat} {bl:List Bl} {v:Bden bl} {rest:List Wr} {n:Nat},look (mkA nx ns bl v ++ rest) (.s n)=look rest (.s n)
 | [],[],_,_,_=>rfl
 | k :: ns,b :: bl,v,rest,n=>by simp only [mkA,List.cons_append,look,Loc.eqb,cond_false];exact look_mkA_s
 | [],_ :: _,_,_,_=>rfl
 | _ :: _,[],_,_,_=>rfl
theorem look_kept {base:FS}:∀ {keep:List Loc} {l:Loc},look (keep.map fun l=>Wr.w l (base l)) l=if l∈keep then base l else .no
 | [],l=>by simp [look]
 | k :: keep,l=>by
  simp only [List.map_cons,look]
  by_cases hkl:k=l
  · subst hkl;simp [eqb_refl]
  · rw [eqb_ne hkl,cond_false,look_kept]
    simp [Ne.symm hkl]
section
variable {cx:Cx} {fs:FS} {w:World} {env:Nm} {own:Ow} {nx:Nat} {m:Mp} {ok':Nat->Prop} {own':Ow}
theorem unC_ok (hB:RB cx fs w env own) {b nm:Nat} {s:Bl} {v:s.den} {ws:Ws} (h:(unC m b s).evs fs=some (v,ws)):Frz fs ws/\∀ ns,(∀ p∈ws,p.1∈ns)->To cx w own ns ok'->(∀ g,own g=some b->own' g=some nm)->envM nx m env nm=env b ->
 CellR cx.w0.heap.size w.heap ok' (envM nx m env) own' nm (s.mk nx v):=by
 cases s with
 | arr tt e =>
  simp only [unC] at h
  obtain ⟨c,h5,h6⟩:=evs_bind_some.1 h
  simp only [evs_rdB,Option.some.injEq] at h5
  subst h5
  split at h6
  · rename_i T' e' l' hfs
    obtain ⟨_,h7,h8⟩:=evs_bind_some.1 h6
    obtain ⟨l,h10,h9⟩:=evs_bind_some.1 h8
    simp at h9
    obtain ⟨rfl,rfl⟩:=h9
    have hT:=Nat.eq_of_beq_eq_true (evs_guard.1 h7)
    subst hT
    simp only [castT,evs_opt] at h10
    have he:e'=e:=by
     unfold Ty.cast at h10
     split at h10
     · rename_i he;have:=Ty.eqb_eq he;injection this
     · cases h10
    subst he
    have hl':l'=l:=by
     unfold Ty.cast at h10
     split at h10
     · simpa using h10
     · cases h10
    subst hl'
    have hbb:=hB b
    rw [hfs] at hbb
    obtain ⟨v',e1,e2⟩:=hbb
    refine ⟨Frz.nil,fun ns _ hto how hen=>⟨v',by rw [hen];exact e1,e2.imp id ?_⟩⟩
    rintro ⟨g,cap,cur,rfl,hg,q1,q2,q3,q4,q5,_⟩
    exact ⟨g,cap,cur,rfl,hg,q1,q2,q3,fun i hi=>hto.fits0 (q4 i hi),fun _=>⟨how g (q5 rfl).1,(q5 rfl).2⟩,fun h=>by cases h⟩
  · simp [T.evs] at h6
 | box tt cs =>
  simp only [unC] at h
  obtain ⟨c,h5,h6⟩:=evs_bind_some.1 h
  simp only [evs_rdB,Option.some.injEq] at h5
  subst h5
  split at h6
  · rename_i T' xs hfs
    obtain ⟨_,h7,h8⟩:=evs_bind_some.1 h6
    have hT:=Nat.eq_of_beq_eq_true (evs_guard.1 h7)
    subst hT
    have hbb:=hB b
    rw [hfs] at hbb
    obtain ⟨g,cc,e1,e2,e3,e4⟩:=hbb
    obtain ⟨f3,f4⟩:=unLs_ok (nx:=nx) (ok':=ok') hB h8 e3
    exact ⟨f3,fun ns hns hto how hen=>⟨g,cc,by rw [hen];exact e1,e2,f4 ns hns hto,how g e4⟩⟩
  · simp [T.evs] at h6
theorem unB_ok (hB:RB cx fs w env own):∀ {bl:List Bl} {j:Nat} {v:Bden bl} {ws:Ws},(unB m j bl).evs fs=some (v,ws)->j+bl.length<=64 ->
 Frz fs ws/\∀ ns,(∀ p∈ws,p.1∈ns)->To cx w own ns ok'->(∀ k,k < bl.length->∀ b g,m.find (j+k)=some (some b)->own g=some b->own' g=some (nx+(j+k))) ->
  ∀ (rest:List Wr),(∀ b,CellR cx.w0.heap.size w.heap ok' (envM nx m env) own' b (look rest (.b b)))->∀ b,CellR cx.w0.heap.size w.heap ok' (envM nx m env) own' b (look (mkB nx j bl v ++ rest) (.b b))
 | [],j,v,ws,h,_=>by
  simp [unB,T.evs] at h
  subst h
  exact ⟨Frz.nil,fun _ _ _ _ rest hr=>hr⟩
 | s :: bl,j,v,ws,h,hl=>by
  simp only [List.length_cons] at hl
  simp only [unB] at h
  obtain ⟨⟨v1,w1⟩,h1,h2⟩:=evs_bind_some.1 h
  obtain ⟨⟨v2,w2⟩,h3,h4⟩:=evs_bind_some.1 h2
  simp at h4
  obtain ⟨rfl,rfl⟩:=h4
  obtain ⟨f1,f2⟩:=unB_ok hB h3 (by omega)
  have key:Frz fs w1/\∀ ns,(∀ p∈w1,p.1∈ns)->To cx w own ns ok'->(∀ b g,m.find j=some (some b)->own g=some b->own' g=some (nx+j))->CellR cx.w0.heap.size w.heap ok' (envM nx m env) own' (nx+j) (s.mk nx v1):=by
   split at h1
   · rename_i b' hm
     obtain ⟨q1,q2⟩:=unC_ok (nx:=nx) (nm:=nx+j) (ok':=ok') (own':=own') hB h1
     exact ⟨q1,fun ns hns hto how=>q2 ns hns hto (fun g hg=>how b' g hm hg) (envM_own (by omega) hm)⟩
   · rename_i hm
     cases s with
     | arr tt e =>
      simp [unN,T.evs] at h1
      obtain ⟨rfl,rfl⟩:=h1
      exact ⟨Frz.nil,fun _ _ _ _=>⟨_,envM_nil (by omega) hm,.inl ⟨rfl,rfl⟩⟩⟩
     | box tt cs=>simp [unN,T.evs] at h1
   · simp [T.evs] at h1
  refine ⟨key.1.append f1,fun ns hns hto how rest hr b=>?_⟩
  have ih:=f2 ns (fun p hp=>hns p (by simp [hp])) hto (fun k hk b g hm hg=>by have:=how (k+1) (by simp;omega) b g (by rw [show j+(k+1)=j+1+k by omega];exact hm) hg;rwa [show j+(k+1)=j+1+k by omega] at this) rest hr
  simp only [mkB,List.cons_append,look]
  by_cases hb:nx+j=b
  · subst hb
    rw [eqb_refl,cond_true]
    exact key.2 ns (fun p hp=>hns p (by simp [hp])) hto fun b' g hm hg=>how 0 (by simp) b' g hm hg
  · rw [eqb_ne (show Loc.b (nx+j)≠Loc.b b from fun e=>by cases e;exact hb rfl),cond_false]
    exact ih b
theorem unA_ok (hB:RB cx fs w env own):∀ {as:List Nat} {bl:List Bl} {v:Bden bl} {ws:Ws},(unA m as bl).evs fs=some (v,ws) ->
 Frz fs ws/\∀ ns,(∀ p∈ws,p.1∈ns)->To cx w own ns ok'->(∀ b∈as,b < nx/\∀ g,own g=some b->own' g=some b) ->
  ∀ (rest:List Wr),(∀ b,CellR cx.w0.heap.size w.heap ok' (envM nx m env) own' b (look rest (.b b)))->∀ b,CellR cx.w0.heap.size w.heap ok' (envM nx m env) own' b (look (mkA nx as bl v ++ rest) (.b b))
 | [],[],v,ws,h=>by
  simp [unA,T.evs] at h
  subst h
  exact ⟨Frz.nil,fun _ _ _ _ rest hr=>hr⟩
 | a :: as,s :: bl,v,ws,h=>by
  simp only [unA] at h
  obtain ⟨⟨v1,w1⟩,h1,h2⟩:=evs_bind_some.1 h
  obtain ⟨⟨v2,w2⟩,h3,h4⟩:=evs_bind_some.1 h2
  simp at h4
  obtain ⟨rfl,rfl⟩:=h4
  obtain ⟨f1,f2⟩:=unA_ok hB h3
  obtain ⟨q1,q2⟩:=unC_ok (nx:=nx) (nm:=a) (ok':=ok') (own':=own') hB h1
  refine ⟨q1.append f1,fun ns hns hto how rest hr b=>?_⟩
  have ih:=f2 ns (fun p hp=>hns p (by simp [hp])) hto (fun b hb=>how b (by simp [hb])) rest hr
  simp only [mkA,List.cons_append,look]
  by_cases hb:a=b
  · subst hb
    rw [eqb_refl,cond_true]
    have:=how a (by simp)
    exact q2 ns (fun p hp=>hns p (by simp [hp])) hto this.2 (envM_lt this.1)
  · rw [eqb_ne (show Loc.b a≠Loc.b b from fun e=>by cases e;exact hb rfl),cond_false]
    exact ih b
 | [],_ :: _,_,_,h=>by simp [unA,T.evs] at h
 | _ :: _,[],_,_,h=>by simp [unA,T.evs] at h
end
end Go.VI
namespace Go.VI
open Go Go.RowKit
section
variable {P:Program} {te:TE} {tbl:Tbl} {cx:Cx} {nt nx:Nat} {fs base:FS} {w:World} {act:Act} {N:Nat->Prop}
theorem shT_ok {s:Shape} {keep:List Loc} {x:s.den} (h:(shT s keep).evs fs=some x) (hS:St cx nt fs act w N) (hk:∀ l∈keep,fs l=base l) (hb:KeepOk nx keep base) (hab:∀ n∈s.ab,n < nx) (hfix:∀ b v,cx.fix b=some v->b < nx) :
 St cx nt (look (s.mk' nx x ++ keep.map fun l=>Wr.w l (base l))) act w (· < nx+64):=by
 obtain ⟨env,own,hw,hB,hR⟩:=hS.ex
 simp only [shT] at h
 obtain ⟨_,h0,h1⟩:=evs_bind_some.1 h
 obtain ⟨m1,_,h3⟩:=evs_bind_some.1 h1
 obtain ⟨m2,_,h5⟩:=evs_bind_some.1 h3
 obtain ⟨m3,_,h5'⟩:=evs_bind_some.1 h5
 obtain ⟨⟨v,w1⟩,h6,h7⟩:=evs_bind_some.1 h5'
 obtain ⟨⟨u,w2⟩,h8,h9⟩:=evs_bind_some.1 h7
 obtain ⟨⟨z,w3⟩,h8',h9'⟩:=evs_bind_some.1 h9
 obtain ⟨_,h10,h11⟩:=evs_bind_some.1 h9'
 obtain ⟨_,h12,h13⟩:=evs_bind_some.1 h11
 simp at h13;subst h13
 have hlen:0+s.bl.length<=64:=by have:=Nat.le_of_ble_eq_true (evs_guard.1 h0);omega
 generalize m1 ++ (m2 ++ m3)=m at *
 obtain ⟨n1,n2⟩:=namesOk_spec (evs_guard.1 h10)
 have hkeep:∀ p∈w1 ++ (w2 ++ w3),Loc.b p.1 ∉ keep ++ s.ab.map Loc.b:=fun p hp hm=>by
  have:=(List.all_eq_true.1 (evs_guard.1 h12)) p hp
  simp only [Bool.not_eq_true',List.any_eq_false] at this
  exact this _ hm (eqb_refl _)
 let ns:=nms (w1 ++ (w2 ++ w3))
 let own':=ownM nx m (keep ++ s.ab.map Loc.b) s.bl.length (unown own ns)
 have hnone:∀ g,unown own ns g=none->own' g=none:=fun g hg=>by simp only [own',ownM,hg]
 have hto:To cx w own ns (cx.ok own'):=⟨fun c hc=>⟨hnone c hc.1,hc.2⟩⟩
 obtain ⟨f1,s1⟩:=unS_ok (nx:=nx) (ok':=cx.ok own') hB hR h6
 obtain ⟨f2,s2⟩:=unB_ok (nx:=nx) (ok':=cx.ok own') (own':=own') hB h8 hlen
 obtain ⟨f3,s3⟩:=unA_ok (nx:=nx) (ok':=cx.ok own') (own':=own') hB h8'
 have hw1:=hw.unown ns
 have hB1:=hB.freeze (f1.append (f2.append f3))
 have hext:Ext cx w env own w env (unown own ns):=ext_unown
 have kb:∀ b,CellR cx.w0.heap.size w.heap (cx.ok own') (envM nx m env) own' b (look (keep.map fun l=>Wr.w l (base l)) (.b b)):=fun b=>by
  rw [look_kept]
  split
  · rename_i hm
    have h1:=hB1 b
    rw [upd_not fun p hp he=>hkeep p hp (by rw [he];exact List.mem_append_left _ hm),hk _ hm] at h1
    have h2:=hb _ hm
    have hown:∀ g,unown own ns g=some b->own' g=some b:=fun g hg=>by simp only [own',ownM,hg];rw [if_pos (List.mem_append_left _ hm)]
    cases hc:base (.b b) with
    | no=>trivial
    | av _=>trivial
    | ln m =>
     rw [hc] at h1 h2
     obtain ⟨p,c,e1⟩:=h1
     exact ⟨p,c,by rw [envM_lt h2];exact e1⟩
    | arr mm T e l =>
     rw [hc] at h1 h2
     obtain ⟨v',e1,e2⟩:=h1
     refine ⟨v',by rw [envM_lt h2];exact e1,e2.imp id ?_⟩
     rintro ⟨g,cap,cur,rfl,hg,q1,q2,q3,q4,q5,q6⟩
     exact ⟨g,cap,cur,rfl,hg,q1,q2,q3,fun i hi=>hto.fits (q4 i hi),fun h=>⟨hown g (q5 h).1,(q5 h).2⟩,fun h=>hto.ok g (q6 h)⟩
    | box T xs =>
     rw [hc] at h1 h2
     obtain ⟨g,cs,e1,e2,e3,e4⟩:=h1
     exact ⟨g,cs,by rw [envM_lt h2.1];exact e1,e2,All2.of_mem (fun a ha b hab=>LfR.rename (p:=(· < nx)) (fun b hb=>envM_lt hb) (h2.2 a ha) (hab.mono (fun c hc _=>⟨hto.ok c hc,rfl⟩) fun _ _ h=>h)) e3,hown g e4⟩
  · trivial
 have ks:∀ n,SlotR w.heap (cx.ok own') (envM nx m env) (look (keep.map fun l=>Wr.w l (base l)) (.s n)) (act.tmps.getD n undef):=fun n=>by
  rw [look_kept]
  split
  · rename_i hm
    have h1:=hR n
    rw [hk _ hm] at h1
    have h2:=hb _ hm
    cases hc:base (.s n) with
    | av a =>
     rw [hc] at h1 h2
     exact AvR.rename (p:=(· < nx)) (fun b hb=>envM_lt hb) h2 (AvR.mono (fun c hc _=>⟨hto.ok c (ok_unown hc),rfl⟩) (fun _ _ h=>h) h1)
    | _=>trivial
  · trivial
 refine ⟨hS.defers,hS.size,envM nx m env,own',⟨hw.os,hw.tape,hw.output,hw.size,fun c q1 q2=>⟨hnone c (hw1.old c q1 q2).1,(hw.old c q1 q2).2⟩,fun c hc=>hnone c (hw1.new c hc),fun b hbn=>?_,fun b v hb=>by rw [envM_lt (hfix b v hb)];exact hw.fix b v hb⟩,fun b=>?_,fun n=>?_⟩
 · simp only [envM] at hbn
   split at hbn
   · rename_i hh;exact hh.2
   · split at hbn
     · rename_i hh;show b < nx+64;omega
     · exact absurd rfl hbn
 · rw [Shape.mk',List.append_assoc,look_mkS_b,List.append_assoc]
   refine s2 ns (fun p hp=>List.mem_map.2 ⟨p,by simp [hp],rfl⟩) hto (fun k hk' b' g hm hg=>?_) _ (s3 ns (fun p hp=>List.mem_map.2 ⟨p,by simp [hp],rfl⟩) hto (fun b hb'=>⟨hab b hb',fun g hg=>?_⟩) _ kb) b
   · obtain ⟨_,n4⟩:=n2 k hk'
     obtain ⟨q1,q2,q3,q4⟩:=n4 b' hm
     have hg1:unown own ns g=some b':=unown_out hg fun hm'=>by
      obtain ⟨p,hp,he⟩:=List.mem_map.1 hm'
      exact q3 p hp he
     simp only [own',ownM,hg1]
     rw [if_neg q2,invM_of (j:=0+k) hm (fun i hi=>by have:=q4 i (by omega);rwa [Nat.zero_add] at this) (by omega)]
     rfl
   · have hmem:Loc.b b∈keep ++ s.ab.map Loc.b:=List.mem_append_right _ (List.mem_map.2 ⟨b,hb',rfl⟩)
     have hg1:unown own ns g=some b:=unown_out hg fun hm'=>by
      obtain ⟨p,hp,he⟩:=List.mem_map.1 hm'
      exact hkeep p hp (by rw [he];exact hmem)
     simp only [own',ownM,hg1]
     rw [if_pos hmem]
 · rw [Shape.mk',List.append_assoc]
   refine s1 ns (fun p hp=>List.mem_map.2 ⟨p,by simp [hp],rfl⟩) hto _ (fun n=>?_) n
   rw [List.append_assoc,look_mkB_s,look_mkA_s]
   exact ks n
theorem iter_unique {X Y:Type} {f:X->Option (X ⊕ Y)}:∀ {n k:Nat} {x:X} {y z:Y},iter f n x=some y->iter f k x=some z->y=z
 | 0,_,_,_,_,h,_=>by simp [iter] at h
 | _,0,_,_,_,_,h=>by simp [iter] at h
 | n+1,k+1,x,y,z,h1,h2=>by
  simp only [iter] at h1 h2
  cases hf:f x with
  | none=>simp [hf] at h1
  | some r =>
   cases r with
   | inl x'=>simp only [hf] at h1 h2;exact iter_unique h1 h2
   | inr y'=>simp only [hf,Option.some.injEq] at h1 h2;rw [<-h1,<-h2]
theorem runLoop_some {X Y:Type} {f:X->Option (X ⊕ Y)} {x:X} {y:Y} (h:runLoop f x=some y):∃ n,iter f n x=some y:=by
 unfold runLoop at h
 split at h
 · rename_i hex
   simp only [Option.some.injEq] at h
   have:=Classical.choose_spec hex
   rw [h] at this
   exact this
 · cases h
theorem runLoop_of {X Y:Type} {f:X->Option (X ⊕ Y)} {x:X} {y:Y} {n:Nat} (h:iter f n x=some y):runLoop f x=some y:=by
 have hex:∃ y n,iter f n x=some y:=⟨y,n,h⟩
 unfold runLoop
 rw [dif_pos hex]
 obtain ⟨k,hk⟩:=Classical.choose_spec hex
 rw [iter_unique h hk]
def exOf:Ex->Exit
 | .normal=>.normal
 | .exit id=>.exit id
 | .ret=>.ret
theorem Ex.eqb_eq {a b:Ex} (h:Ex.eqb a b=true):a=b:=by
 cases a <;> cases b <;> simp_all [Ex.eqb]
theorem evs_of_run {α β:Type} {t:T α} {f:α × List Loc->Tree β} {b:β} (h:((T.run fs t []).bind f).ev=some b):∃ a rs,t.evs fs=some a/\(f (a,rs)).ev=some b:=by
 rw [Tree.ev_bind] at h
 cases hr:(T.run fs t []).ev with
 | none=>simp [hr] at h
 | some r =>
  obtain ⟨a,rs⟩:=r
  simp only [hr,Option.bind_some] at h
  exact ⟨a,rs,T.run_evs hr,h⟩
theorem look_none:∀ {st:List Wr} {l:Loc},l ∉ st.filterMap Wr.loc->look st l = .no
 | [],_,_=>rfl
 | .cut :: _,_,_=>rfl
 | .w k c :: st,l,h=>by
  simp only [List.filterMap_cons,Wr.loc,List.mem_cons,not_or] at h
  simp only [look]
  rw [eqb_ne (Ne.symm h.1),cond_false]
  exact look_none h.2
theorem look_kills:∀ {ks:List Loc} {st:List Wr} {l:Loc},look (ks.map (fun l=>Wr.w l .no) ++ st) l=if l∈ks then .no else look st l
 | [],st,l=>by simp
 | k :: ks,st,l=>by
  simp only [List.map_cons,List.cons_append,look]
  by_cases h:k=l
  · subst h;simp [eqb_refl]
  · rw [eqb_ne h,cond_false,look_kills]
    simp [Ne.symm h]
theorem look_gone {A:LoopAnn} {st a:List Wr}:look (a ++ (A.gone ++ st))=look (a ++ kept (A.keep st) st):=by
 have base:look (A.gone ++ st)=look (kept (A.keep st) st):=by
  funext l
  unfold LoopAnn.gone kept
  rw [look_kills,look_kept]
  by_cases h:l∈A.kills
  · rw [if_pos h,if_neg]
    intro hm
    have:=(List.mem_filter.1 hm).2
    simp only [Bool.not_eq_true',List.any_eq_false] at this
    exact this l h (eqb_refl _)
  · rw [if_neg h]
    by_cases hm:l∈st.filterMap Wr.loc
    · rw [if_pos]
      refine List.mem_filter.2 ⟨hm,?_⟩
      simp only [Bool.not_eq_true',List.any_eq_false]
      intro k hk he
      have:l=k:=Classical.byContradiction fun hne=>by rw [eqb_ne hne] at he;cases he
      exact h (this ▸ hk)
    · rw [look_none hm,if_neg]
      exact fun hq=>hm (List.mem_filter.1 hq).1
 rw [look_append a (A.gone ++ st),look_append a (kept (A.keep st) st),base]
theorem exit_ok {A:LoopAnn} {st:List Wr} {e:Ex} (hS:St cx nt fs act w N) (hk:∀ l∈(A.keep st),fs l=look st l) (hb:KeepOk nx (A.keep st) (look st)) (hfix:∀ b v,cx.fix b=some v->b < nx):∀ {es:List (Ex × Shape)} {y:Eden es} {o:Out},(∀ p∈es,∀ n∈p.2.ab,n < nx)->(exitT fs (A.keep st) e es).ev=some y->(loopT.outE A nx st es y).ev=some o ->
 o.1=e/\o.2.1=nx+64/\St cx nt (look (o.2.2 ++ st)) act w (· < nx+64)
 | [],y,_,_,h,_=>by simp [exitT,Tree.ev] at h
 | [p],y,o,hab,h,h2=>by
  simp only [exitT] at h
  cases he:Ex.eqb p.1 e with
  | false=>simp [he,Tree.ev] at h
  | true =>
   simp only [he,cond_true] at h
   obtain ⟨x,rs,h3,h4⟩:=evs_of_run h
   simp [Tree.ev] at h4;subst h4
   simp only [loopT.outE,Tree.ev,Option.some.injEq] at h2
   subst h2
   refine ⟨Ex.eqb_eq he,rfl,?_⟩
   have:=shT_ok h3 hS hk hb (hab p (by simp)) hfix
   simp only [List.append_assoc]
   rw [look_gone]
   exact this
 | p :: q :: r,y,o,hab,h,h2=>by
  simp only [exitT] at h
  cases he:Ex.eqb p.1 e with
  | false =>
   simp only [he,cond_false,Tree.ev_bind] at h
   cases hq:(exitT fs (A.keep st) e (q :: r)).ev with
   | none=>simp [hq] at h
   | some y' =>
    simp [hq,Tree.ev] at h;subst h
    simp only [loopT.outE,Tree.ev] at h2
    exact exit_ok hS hk hb hfix (fun p hp=>hab p (List.mem_cons_of_mem _ hp)) hq h2
  | true =>
   simp only [he,cond_true] at h
   obtain ⟨x,rs,h3,h4⟩:=evs_of_run h
   simp [Tree.ev] at h4;subst h4
   simp only [loopT.outE,Tree.ev,Option.some.injEq] at h2
   subst h2
   refine ⟨Ex.eqb_eq he,rfl,?_⟩
   have:=shT_ok h3 hS hk hb (hab p (by simp)) hfix
   simp only [List.append_assoc]
   rw [look_gone]
   exact this
theorem untouched_ok {keep:List Loc} {ws:List Wr} (h:untouched keep ws=true) {fs:FS}:∀ l∈keep,ovr fs ws l=fs l:=by
 intro l hl
 refine ovr_not (fun hm=>?_) (fun hm=>?_)
 · obtain ⟨y,hy,he⟩:=List.mem_filterMap.1 hm
   have:=(List.all_eq_true.1 h) y hy
   cases y with
   | w l' c =>
    simp only [Wr.loc,Option.some.injEq] at he
    subst he
    simp only [Bool.not_eq_true',List.any_eq_false] at this
    exact this _ hl (eqb_refl _)
   | cut=>simp [Wr.loc] at he
 · have:=(List.all_eq_true.1 h) _ hm
   simp at this
theorem head_kept {s:Shape} {nx:Nat} {x:s.den} {keep:List Loc} {st:List Wr} (hs:∀ n∈s.ss,Loc.s n ∉ keep) (hb:∀ j,j < s.bl.length->Loc.b (nx+j) ∉ keep) (ha:∀ n∈s.ab,Loc.b n ∉ keep):∀ l∈keep,look (s.mk' nx x ++ kept keep st) l=look st l:=by
 intro l hl
 have h1:∀ {ss:List Nat} {sl:List Sl} {v:Sden sl} {rest:List Wr},(∀ n∈ss,Loc.s n ∉ keep)->look (mkS nx ss sl v ++ rest) l=look rest l:=by
  intro ss
  induction ss with
  | nil=>intro sl v rest _;cases sl <;> rfl
  | cons n ss ih =>
   intro sl v rest h
   cases sl with
   | nil=>rfl
   | cons s sl =>
    simp only [mkS,List.cons_append,look]
    rw [eqb_ne (fun he=>h n (by simp) (by rw [he];exact hl)),cond_false]
    exact ih fun n hn=>h n (by simp [hn])
 have h2:∀ {bl:List Bl} {j:Nat} {v:Bden bl} {rest:List Wr},(∀ k,k < bl.length->Loc.b (nx+(j+k)) ∉ keep)->look (mkB nx j bl v ++ rest) l=look rest l:=by
  intro bl
  induction bl with
  | nil=>intro j v rest _;rfl
  | cons b bl ih =>
   intro j v rest h
   simp only [mkB,List.cons_append,look]
   rw [eqb_ne (fun he=>h 0 (by simp) (by rw [Nat.add_zero,he];exact hl)),cond_false]
   exact ih fun k hk=>by have:=h (k+1) (by simp;omega);rwa [show j+(k+1)=j+1+k by omega] at this
 have h3:∀ {as:List Nat} {bl:List Bl} {v:Bden bl} {rest:List Wr},(∀ n∈as,Loc.b n ∉ keep)->look (mkA nx as bl v ++ rest) l=look rest l:=by
  intro as
  induction as with
  | nil=>intro bl v rest _;cases bl <;> rfl
  | cons n as ih =>
   intro bl v rest h
   cases bl with
   | nil=>rfl
   | cons s bl =>
    simp only [mkA,List.cons_append,look]
    rw [eqb_ne (fun he=>h n (by simp) (by rw [he];exact hl)),cond_false]
    exact ih fun n hn=>h n (by simp [hn])
 rw [Shape.mk',List.append_assoc,h1 hs,List.append_assoc,h2 (j:=0) (fun k hk=>by rw [Nat.zero_add];exact hb k hk),h3 ha]
 show look (keep.map fun l=>Wr.w l (look st l)) l=_
 rw [look_kept,if_pos hl]
end
end Go.VI
namespace Go.VI
open Go Go.RowKit
section
variable {P:Program} {te:TE} {tbl:Tbl} {ann:Ann} {cx:Cx} {nt:Nat}
def BodyOk (P:Program) (cx:Cx) (nt:Nat) (c:Code) (nx:Nat) (body:List Wr->Tree Out):Prop :=
 ∀ (st:List Wr) (o:Out) (act:Act) (w:World) (Q:Exit->Act->World->Prop),(body st).ev=some o->St cx nt (look st) act w (· < nx)->(∀ act' w',St cx nt (look (o.2.2 ++ st)) act' w' (· < o.2.1)->Q (exOf o.1) act' w')->c.wp P Q act w
theorem loop_wp {c:Code} {nx:Nat} {body:List Wr->Tree Out} (hbody:BodyOk P cx nt c (nx+64) body) {A:LoopAnn} {st:List Wr} {o:Out} {act:Act} {w:World} {Q:Exit->Act->World->Prop} (h:(loopT A body nx st).ev=some o)
 (hS:St cx nt (look st) act w (· < nx)) (hQ:∀ act' w',St cx nt (look (o.2.2 ++ st)) act' w' (· < o.2.1)->Q (exOf o.1) act' w'):(Code.loop c).wp P Q act w:=by
 unfold loopT at h
 obtain ⟨x0,rs,h1,h2⟩:=evs_of_run h
 obtain ⟨_,h3,h4⟩:=evs_bind_some.1 (show T.evs (look st) (guardT (headOk A (A.keep st) nx) >>= fun _=>shT A.head (A.keep st))=some x0 from h1)
 have hok:=evs_guard.1 h3
 simp only [headOk,Bool.and_eq_true,List.all_eq_true,Bool.not_eq_true',List.any_eq_false] at hok
 obtain ⟨⟨⟨⟨k4,k5⟩,k1⟩,k2⟩,k3⟩:=hok
 have hfix:∀ b v,cx.fix b=some v->b < nx:=fun b v hb=>by
  obtain ⟨env,own,h1,_⟩:=hS.ex
  exact h1.names b (by simp [h1.fix b v hb])
 have hab:∀ n∈A.head.ab,n < nx:=fun n hn=>by have:=(k4 n hn).1;simpa using this
 have habx:∀ p∈A.exits,∀ n∈p.2.ab,n < nx:=fun p hp n hn=>by have:=k5 p hp n hn;simpa using this
 simp only [Tree.ev] at h2
 obtain ⟨y,h5,h6⟩:=Option.bind_eq_some_iff.1 h2
 obtain ⟨n,hn⟩:=runLoop_some h5
 have hkeep:=hS.keepOk (A.keep st)
 have hhead:∀ x,∀ l∈(A.keep st),look (A.head.mk' nx x ++ (A.gone ++ st)) l=look st l:=fun x l hl=>by
  rw [look_gone];exact head_kept (fun n hn hm=>k1 n hn _ hm (eqb_refl _)) (fun j _ hm=>by
   have:=k2 (.b (nx+j)) hm
   simp only [Nat.blt_eq] at this
   omega) (fun n hn hm=>(k4 n hn).2 _ hm (eqb_refl _)) l hl
 refine wp_loop_ghost (fun n a w=>∃ x,iter _ n x=some y/\St cx nt (look (A.head.mk' nx x ++ (A.gone ++ st))) a w (· < nx+64)) n ⟨x0,hn,by rw [look_gone];exact shT_ok h4 hS (fun _ _=>rfl) hkeep hab hfix⟩ ?_
 rintro n a w ⟨x,hx,hSx⟩
 cases n with
 | zero=>simp [iter] at hx
 | succ n =>
  simp only [iter] at hx
  cases hs:(stepT A body nx st x).ev with
  | none=>simp [hs] at hx
  | some r =>
   simp only [hs] at hx
   simp only [stepT,Tree.ev_bind] at hs
   cases hb:(body (A.head.mk' nx x ++ (A.gone ++ st))).ev with
   | none=>simp [hb] at hs
   | some ob =>
    obtain ⟨e,nx',W⟩:=ob
    simp only [hb,Option.bind_some] at hs
    refine hbody _ _ a w _ hb hSx fun a' w' hS'=>?_
    cases hu:untouched (A.keep st) W with
    | false=>simp [hu,Tree.ev] at hs
    | true =>
     simp only [hu,cond_true] at hs
     have hk:∀ l∈(A.keep st),look (W ++ (A.head.mk' nx x ++ (A.gone ++ st))) l=look st l:=fun l hl=>by
      rw [look_append,untouched_ok hu l hl,hhead x l hl]
     have leaves:∀ (e:Ex),((exitT (look (W ++ (A.head.mk' nx x ++ (A.gone ++ st)))) (A.keep st) e A.exits).bind fun y=>Tree.leaf (Sum.inr y:A.head.den ⊕ Eden A.exits)).ev=some r->Q (exOf e) a' w':=by
      intro e hy
      rw [Tree.ev_bind] at hy
      cases hy':(exitT (look (W ++ (A.head.mk' nx x ++ (A.gone ++ st)))) (A.keep st) e A.exits).ev with
      | none=>simp [hy'] at hy
      | some y' =>
       simp [hy',Tree.ev] at hy;subst hy
       simp only [Option.some.injEq] at hx;subst hx
       obtain ⟨q1,q2,q3⟩:=exit_ok hS' hk hkeep hfix habx hy' h6
       have:=hQ a' w' (by rw [q2];exact q3)
       rw [q1] at this;exact this
     cases e with
     | normal =>
      simp only at hs
      rw [Tree.ev_bind] at hs
      cases hr:((shT A.head (A.keep st)).run (look (W ++ (A.head.mk' nx x ++ (A.gone ++ st)))) []).ev with
      | none=>simp [hr] at hs
      | some r' =>
       obtain ⟨x',rs'⟩:=r'
       simp [hr,Tree.ev] at hs;subst hs
       exact ⟨n,by omega,x',hx,by rw [look_gone];exact shT_ok (T.run_evs hr) hS' hk hkeep hab hfix⟩
     | exit id=>exact leaves (.exit id) hs
     | ret=>exact leaves .ret hs
def Joined (st:List Wr) (m:Nat) (x:Option Out) (o:Out):Prop:=x=some o\/∃ n w' w,x=some (.normal,n,w')/\n<=m/\o=(.normal,m,w)/\FsLe (ovr (look st) w') (ovr (look st) w)
theorem joinR_ok {c:Bool} {m n:Nat} {st a:List Wr} (hn:n<=m):∀ {e:Tree Out} {o:Out},(joinR c m st a (.leaf (.normal,n,a)) e).ev=some o->(c=true/\Joined st m (some (.normal,n,a)) o)\/(c=false/\Joined st m e.ev o):=by
 intro e
 have hbr:∀ {e:Tree Out} {o:Out},(Tree.br c (.leaf (.normal,n,a)) e).ev=some o->(c=true/\Joined st m (some (.normal,n,a)) o)\/(c=false/\Joined st m e.ev o):=by
  intro e o h
  cases c with
  | true=>simp [Tree.ev] at h;exact .inl ⟨rfl,.inl (by rw [h])⟩
  | false=>simp [Tree.ev] at h;exact .inr ⟨rfl,.inl h⟩
 induction e with
 | leaf b =>
  intro o h
  obtain ⟨e,k,b⟩:=b
  cases e with
  | normal =>
   simp only [joinR] at h
   cases hm:mergeW c st a b with
   | none=>rw [hm] at h;exact hbr h
   | some w =>
    rw [hm] at h
    simp only at h
    cases hk:(Nat.ble k m && !lossy st a b w) with
    | false=>rw [hk] at h;exact hbr h
    | true =>
     rw [hk] at h
     simp [Tree.ev] at h;subst h
     have:=mergeW_le hm
     simp only [Bool.and_eq_true] at hk
     cases c with
     | true=>exact .inl ⟨rfl,.inr ⟨n,a,w,rfl,hn,rfl,this⟩⟩
     | false=>exact .inr ⟨rfl,.inr ⟨k,b,w,rfl,Nat.le_of_ble_eq_true hk.1,rfl,this⟩⟩
  | exit id=>exact hbr h
  | ret=>exact hbr h
 | need p e ih =>
  intro o h
  simp only [joinR,Tree.ev] at h
  cases c with
  | true=>exact .inl ⟨rfl,(ih h).elim (·.2) fun h=>by cases h.1⟩
  | false =>
   cases p with
   | true=>simpa [Tree.ev] using ih (by simpa using h)
   | false=>simp at h
 | bad=>intro w h;exact hbr h
 | br _ _ _ _ _=>intro w h;exact hbr h
 | bnd _ _ _=>intro w h;exact hbr h
 | sum _ _ _ _ _=>intro w h;exact hbr h
theorem join_ok {c:Bool} {m:Nat} {st:List Wr} {e:Tree Out}:∀ {t:Tree Out} {o:Out},(join c m st e t).ev=some o->Joined st m (cond c t e).ev o:=by
 intro t
 have hbr:∀ {t:Tree Out} {o:Out},(Tree.br c t e).ev=some o->Joined st m (cond c t e).ev o:=by
  intro t o h
  cases c <;> exact .inl (by simpa [Tree.ev] using h)
 induction t with
 | leaf a =>
  intro o h
  obtain ⟨x,n,a⟩:=a
  cases x with
  | normal =>
   simp only [join] at h
   cases hn:Nat.ble n m with
   | false=>rw [hn] at h;exact hbr h
   | true =>
    rw [hn] at h
    rcases joinR_ok (Nat.le_of_ble_eq_true hn) h with ⟨rfl,hl⟩ | ⟨rfl,h1⟩
    · exact hl
    · exact h1
  | exit id=>exact hbr h
  | ret=>exact hbr h
 | need p t ih =>
  intro w h
  simp only [join,Tree.ev] at h
  cases c with
  | true =>
   cases p with
   | true=>simpa [Tree.ev] using ih (by simpa using h)
   | false=>simp at h
  | false=>exact ih h
 | bad=>intro w h;exact hbr h
 | br _ _ _ _ _=>intro w h;exact hbr h
 | bnd _ _ _=>intro w h;exact hbr h
 | sum _ _ _ _ _=>intro w h;exact hbr h
theorem code_wp (ht:TEok P te) (hT:tbl.Sound P) (hmix:P.follows .mixedOrders=true):∀ (c:Code) (bid nx:Nat),BodyOk P cx nt c nx (runCode te tbl ann nt c bid nx)
 | .skip,bid,nx=>fun st o act w Q h hS hQ=>by
  simp only [runCode,Tree.ev,Option.some.injEq] at h;subst h
  exact wp_skip (hQ act w hS)
 | .region id ops draw,bid,nx=>fun st o act w Q h hS hQ=>by
  simp only [runCode,Tree.ev_bind] at h
  cases hr:(regionT te tbl nt nx ops draw st).ev with
  | none=>simp [hr] at h
  | some ws =>
   simp [hr,Tree.ev] at h;subst h
   exact region_wp ht hT hmix hr hS (fun _ h=>h) hQ
 | .seq a b,bid,nx=>fun st o act w Q h hS hQ=>by
  simp only [runCode,Tree.ev_bind] at h
  cases ha:(runCode te tbl ann nt a bid nx st).ev with
  | none=>simp [ha] at h
  | some oa =>
   obtain ⟨e,nx',W⟩:=oa
   simp only [ha,Option.bind_some] at h
   refine wp_seq (code_wp ht hT hmix a bid nx st _ act w _ ha hS fun a' w' hS'=>?_)
   cases e with
   | normal =>
    simp only [Tree.ev_bind] at h
    cases hle:Nat.ble nx' (nx+cnt a) with
    | false=>simp [hle,Tree.ev] at h
    | true =>
     simp only [hle,cond_true,Tree.ev_bind] at h
     have hle:=Nat.le_of_ble_eq_true hle
     cases hb:(runCode te tbl ann nt b bid (nx+cnt a) (W ++ st)).ev with
     | none=>simp [hb] at h
     | some ob =>
      obtain ⟨e2,nx2,W2⟩:=ob
      simp [hb,Tree.ev] at h;subst h
      refine code_wp ht hT hmix b bid (nx+cnt a) _ _ a' w' Q hb (hS'.mono fun k hk=>Nat.lt_of_lt_of_le hk hle) fun a2 w2 hS2=>hQ a2 w2 ?_
      simpa using hS2
   | exit id=>simp [Tree.ev] at h;subst h;exact hQ a' w' hS'
   | ret=>simp [Tree.ev] at h;subst h;exact hQ a' w' hS'
 | .cond c a b,bid,nx=>fun st o act w Q h hS hQ=>by
  obtain ⟨env,own,h1,h2,h3⟩:=hS.ex
  simp only [runCode] at h
  split at h
  · rename_i d
    have hd:=h3 d
    split at h
    · rename_i hc
      rw [hc] at hd
      exact wp_cond_true hd (code_wp ht hT hmix a bid nx st o act w Q h hS hQ)
    · rename_i hc
      rw [hc] at hd
      exact wp_cond_false hd (code_wp ht hT hmix b bid nx st o act w Q h hS hQ)
    · rename_i t hc
      rw [hc] at hd
      simp only [SlotR,AvR,A1R,LfR,Fits,List.cons.injEq,and_true] at hd
      have hj:=join_ok h
      refine wp_cond_split (t:=t) hd (fun he=>?_) fun he=>?_
      · subst he
        rcases hj with hj | ⟨n,w',w2,hj,hn,rfl,hle⟩
        · exact code_wp ht hT hmix a bid nx st o act w Q hj hS hQ
        · refine code_wp ht hT hmix a bid nx st _ act w Q hj hS fun a' w' hS'=>hQ a' w' ?_
          refine (St.le hS' ?_).mono fun k hk=>Nat.lt_of_lt_of_le hk hn
          intro l;rw [look_append,look_append];exact hle l
      · subst he
        rcases hj with hj | ⟨n,w',w2,hj,hn,rfl,hle⟩
        · exact code_wp ht hT hmix b bid nx st o act w Q hj hS hQ
        · refine code_wp ht hT hmix b bid nx st _ act w Q hj hS fun a' w' hS'=>hQ a' w' ?_
          refine (St.le hS' ?_).mono fun k hk=>Nat.lt_of_lt_of_le hk hn
          intro l;rw [look_append,look_append];exact hle l
    · simp [Tree.ev] at h
  · exact wp_cond_true rfl (code_wp ht hT hmix a bid nx st o act w Q h hS hQ)
  · exact wp_cond_false rfl (code_wp ht hT hmix b bid nx st o act w Q h hS hQ)
  · simp [Tree.ev] at h
 | .block id c,bid,nx=>fun st o act w Q h hS hQ=>by
  simp only [runCode,Tree.ev_bind] at h
  cases ha:(runCode te tbl ann nt c id nx st).ev with
  | none=>simp [ha] at h
  | some oa =>
   obtain ⟨e,nx',W⟩:=oa
   simp only [ha,Option.bind_some] at h
   refine wp_block (code_wp ht hT hmix c id nx st _ act w _ ha hS fun a' w' hS'=>?_)
   cases e with
   | normal=>simp [Tree.ev] at h;subst h;exact hQ a' w' hS'
   | exit id' =>
    simp only at h
    show Exit.inBlock id Q (.exit id') a' w'
    simp only [Exit.inBlock]
    cases hid:Nat.beq id' id with
    | true =>
     simp [hid,Tree.ev] at h;subst h
     rw [if_pos (Nat.eq_of_beq_eq_true hid)]
     exact hQ a' w' hS'
    | false =>
     simp [hid,Tree.ev] at h;subst h
     rw [if_neg (Nat.ne_of_beq_eq_false hid)]
     exact hQ a' w' hS'
   | ret=>simp [Tree.ev] at h;subst h;exact hQ a' w' hS'
 | .loop c,bid,nx=>fun st o act w Q h hS hQ=>by
  simp only [runCode] at h
  split at h
  · exact loop_wp (code_wp ht hT hmix c bid (nx+64)) h hS hQ
  · simp [Tree.ev] at h
 | .exit id,bid,nx=>fun st o act w Q h hS hQ=>by
  simp only [runCode,Tree.ev,Option.some.injEq] at h;subst h
  exact wp_exit (hQ act w hS)
 | .ret,bid,nx=>fun st o act w Q h hS hQ=>by
  simp only [runCode,Tree.ev,Option.some.injEq] at h;subst h
  exact wp_ret (hQ act w hS)
 | .rangeFunc _ _ _ _,bid,nx=>fun st o act w Q h hS hQ=>by simp [runCode,Tree.ev] at h
 | .scope c,bid,nx=>fun st o act w Q h hS hQ=>by
  simp only [runCode] at h
  refine wp_scope_straight (code_wp ht hT hmix c bid nx st o act w _ h hS fun a' w' hS'=>?_)
  obtain ⟨e,n,W⟩:=o
  have:=hQ a' w' hS'
  cases e <;> exact this
 | .label _,bid,nx=>fun st o act w Q h hS hQ=>by
  simp only [runCode,Tree.ev,Option.some.injEq] at h;subst h
  exact wp_label (hQ act w hS)
 | .goto _,bid,nx=>fun st o act w Q h hS hQ=>by simp [runCode,Tree.ev] at h
 | .refuse _,bid,nx=>fun st o act w Q h hS hQ=>by simp [runCode,Tree.ev] at h
end
end Go.VI
namespace Go.VI
open Go Go.RowKit
def lk {α:Type}:List (Nat × α)->Nat->Option α
 | [],_=>none
 | p :: l,k=>if p.1=k then some p.2 else lk l k
theorem lk_of {α:Type}:∀ {l:List (Nat × α)} {k:Nat} {v:α},(l.map (·.1)).Nodup->(k,v)∈l->lk l k=some v
 | p :: l,k,v,hn,hm=>by
  simp only [List.map_cons,List.nodup_cons] at hn
  simp only [lk]
  rcases List.mem_cons.1 hm with rfl | hm
  · simp
  · rw [if_neg fun he=>hn.1 (List.mem_map.2 ⟨_,hm,he.symm⟩)]
    exact lk_of hn.2 hm
theorem lk_mem {α:Type}:∀ {l:List (Nat × α)} {k:Nat} {v:α},lk l k=some v->(k,v)∈l
 | p :: l,k,v,h=>by
  simp only [lk] at h
  split at h
  · rename_i he;cases h;subst he;simp
  · exact List.mem_cons_of_mem _ (lk_mem h)
theorem lk_none {α:Type} {l:List (Nat × α)} {k:Nat} (h:∀ v,(k,v) ∉ l):lk l k=none:=by
 cases hl:lk l k with
 | none=>rfl
 | some v=>exact absurd (lk_mem hl) (h v)
def fixL:List PTy->List Nat->Nat->List (Nat × Nat)
 | .val _ :: ps,gs,i=>fixL ps gs (i+1)
 | .ptr _ _ :: ps,g :: gs,i=>(i,g) :: fixL ps gs (i+1)
 | _,_,_=>[]
theorem fixL_ge:∀ {ps:List PTy} {gs:List Nat} {i:Nat},∀ p∈fixL ps gs i,i<=p.1/\p.1 < i+ps.length
 | [],_,_=>by simp [fixL]
 | .val _ :: ps,gs,i=>fun p hp=>by
  have:=fixL_ge (ps:=ps) p hp
  simp;omega
 | .ptr _ _ :: ps,[],i=>by simp [fixL]
 | .ptr _ _ :: ps,g :: gs,i=>fun p hp=>by
  rcases List.mem_cons.1 hp with rfl | hp
  · simp
  · have:=fixL_ge (ps:=ps) p hp
    simp;omega
theorem fixL_mem:∀ {ps:List PTy} {gs:List Nat} {i:Nat},∀ p∈fixL ps gs i,p.2∈gs
 | [],_,_=>by simp [fixL]
 | .val _ :: ps,gs,i=>fixL_mem (ps:=ps)
 | .ptr _ _ :: ps,[],i=>by simp [fixL]
 | .ptr _ _ :: ps,g :: gs,i=>fun p hp=>by
  rcases List.mem_cons.1 hp with rfl | hp
  · simp
  · exact List.mem_cons_of_mem _ (fixL_mem (ps:=ps) p hp)
theorem fixL_nodup1:∀ {ps:List PTy} {gs:List Nat} {i:Nat},((fixL ps gs i).map (·.1)).Nodup
 | [],_,_=>by simp [fixL]
 | .val _ :: ps,gs,i=>fixL_nodup1 (ps:=ps)
 | .ptr _ _ :: ps,[],i=>by simp [fixL]
 | .ptr _ _ :: ps,g :: gs,i=>by
  simp only [fixL,List.map_cons,List.nodup_cons]
  refine ⟨fun hm=>?_,fixL_nodup1⟩
  obtain ⟨p,hp,he⟩:=List.mem_map.1 hm
  have:=fixL_ge p hp
  omega
section
variable {h:Array Obj} {ok:Nat->Prop}
theorem ArgsR.nodup:∀ {ps:List PTy} {d:Pden ps} {args:List Value} {gs:List Nat} {i:Nat},ArgsR h ok ps d args gs->((fixL ps gs i).map (·.2)).Nodup
 | [],_,_,_,_,_=>by simp [fixL]
 | .val _ :: ps,d,x :: xs,gs,i,ha=>ArgsR.nodup (ps:=ps) ha.2
 | .ptr _ _ :: ps,d,x :: xs,g :: gs,i,ha=>by
  obtain ⟨_,_,_,hg,ha⟩:=ha
  simp only [fixL,List.map_cons,List.nodup_cons]
  refine ⟨fun hm=>?_,ArgsR.nodup (ps:=ps) ha⟩
  obtain ⟨p,hp,he⟩:=List.mem_map.1 hm
  exact hg (he ▸ fixL_mem p hp)
 | .val _ :: _,_,[],_,_,ha=>ha.elim
 | .ptr _ _ :: _,_,[],_,_,ha=>ha.elim
 | .ptr _ _ :: _,_,_ :: _,[],_,ha=>ha.elim
theorem ArgsR.lt:∀ {ps:List PTy} {d:Pden ps} {args:List Value} {gs:List Nat},ArgsR h ok ps d args gs->(∀ g∈gs,g < h.size/\¬ok g)/\args.length=ps.length
 | [],_,[],[],_=>by simp
 | .val _ :: ps,d,x :: xs,gs,ha=>by
  have:=ArgsR.lt (ps:=ps) ha.2
  exact ⟨this.1,by simp [this.2]⟩
 | .ptr _ _ :: ps,d,x :: xs,g :: gs,ha=>by
  obtain ⟨_,⟨cs,hg,_⟩,hok,_,ha⟩:=ha
  have:=ArgsR.lt (ps:=ps) ha
  refine ⟨fun g' hg'=>?_,by simp [this.2]⟩
  rcases List.mem_cons.1 hg' with rfl | hg'
  · exact ⟨(Array.getElem?_eq_some_iff.1 hg).1,hok⟩
  · exact this.1 g' hg'
 | [],_,_ :: _,_,ha=>by simp [ArgsR] at ha
 | [],_,[],_ :: _,ha=>ha.elim
 | .val _ :: _,_,[],_,ha=>ha.elim
 | .ptr _ _ :: _,_,[],_,ha=>ha.elim
 | .ptr _ _ :: _,_,_ :: _,[],ha=>ha.elim
theorem capsL_ok {ok':Nat->Prop} {env:Nm} (hok:∀ c,ok c->ok' c):∀ {ps:List PTy} {d:Pden ps} {args:List Value} {gs:List Nat} {i:Nat},ArgsR h ok ps d args gs ->
 (∀ p∈fixL ps gs i,env p.1=some (.pointer (some ⟨p.2,0,none⟩)))->All2 (AvR h ok' env) (capsL ps d i) args
 | [],_,[],[],_,_,_=>trivial
 | .val t :: ps,d,x :: xs,gs,i,ha,hf=>by
  obtain ⟨⟨cs,hx,hfit⟩,ha⟩:=ha
  refine ⟨?_,capsL_ok hok (ps:=ps) (i:=i+1) ha hf⟩
  rw [hx]
  exact mk1_val (hfit.mono fun c hc _=>⟨hok c hc,rfl⟩)
 | .ptr tt t :: ps,d,x :: xs,g :: gs,i,ha,hf=>by
  obtain ⟨hx,_,_,_,ha⟩:=ha
  refine ⟨?_,capsL_ok hok (ps:=ps) (i:=i+1) ha fun p hp=>hf p (List.mem_cons_of_mem _ hp)⟩
  rw [hx]
  exact ⟨g,hf (i,g) (by simp [fixL]),rfl⟩
 | .val _ :: _,_,[],_,_,ha,_=>ha.elim
 | .ptr _ _ :: _,_,[],_,_,ha,_=>ha.elim
 | .ptr _ _ :: _,_,_ :: _,[],_,ha,_=>ha.elim
 | [],_,_ :: _,_,_,ha,_=>by simp [ArgsR] at ha
 | [],_,[],_ :: _,_,ha,_=>ha.elim
theorem blksW_slot:∀ {ps:List PTy} {d:Pden ps} {i n:Nat},look (blksW ps d i) (.s n) = .no
 | [],_,_,_=>rfl
 | .val _ :: ps,d,i,n=>blksW_slot (ps:=ps)
 | .ptr _ _ :: ps,d,i,n=>by
  simp only [blksW,look]
  rw [eqb_ne (show Loc.b i≠Loc.s n by simp),cond_false]
  exact blksW_slot (ps:=ps)
theorem blks_ok {B:Nat} {ok':Nat->Prop} {env:Nm} {own:Ow} (hok:∀ c,ok c->ok' c):∀ {ps:List PTy} {d:Pden ps} {args:List Value} {gs:List Nat} {i:Nat},ArgsR h ok ps d args gs ->
 (∀ p∈fixL ps gs i,env p.1=some (.pointer (some ⟨p.2,0,none⟩))/\own p.2=some p.1)->∀ b,CellR B h ok' env own b (look (blksW ps d i) (.b b))
 | [],_,_,_,_,_,_,_=>trivial
 | .val t :: ps,d,x :: xs,gs,i,ha,hf,b=>blks_ok hok (ps:=ps) (i:=i+1) ha.2 hf b
 | .ptr tt t :: ps,d,x :: xs,g :: gs,i,ha,hf,b=>by
  obtain ⟨hx,⟨cs,hg,hfit⟩,_,_,ha⟩:=ha
  have k1:=blks_ok (B:=B) hok (ps:=ps) (i:=i+1) ha (fun p hp=>hf p (List.mem_cons_of_mem _ hp)) b
  have hf0:=hf (i,g) (by simp [fixL])
  simp only [blksW,look]
  by_cases hib:i=b
  · subst hib
    rw [eqb_refl,cond_true]
    exact ⟨g,cs,hf0.1,hg,flat_ok (hfit.mono fun c hc _=>⟨hok c hc,rfl⟩),hf0.2⟩
  · rw [eqb_ne (show Loc.b i≠Loc.b b from fun e=>by cases e;exact hib rfl),cond_false]
    exact k1
 | .val _ :: _,_,[],_,_,ha,_,_=>ha.elim
 | .ptr _ _ :: _,_,[],_,_,ha,_,_=>ha.elim
 | .ptr _ _ :: _,_,_ :: _,[],_,ha,_,_=>ha.elim
theorem slotsW_blk {r:List Wr}:∀ {s:List AP} {as:List AV} {i b:Nat},look (slotsW s as i ++ r) (.b b)=look r (.b b)
 | [],as,_,_=>by cases as <;> rfl
 | .p :: s,[],_,_=>rfl
 | .p :: s,a :: as,i,b=>by
  simp only [slotsW,List.cons_append,look]
  rw [eqb_ne (show Loc.s i≠Loc.b b by simp),cond_false]
  exact slotsW_blk
 | .clo f n m :: s,as,i,b=>by
  simp only [slotsW,List.cons_append,look]
  rw [eqb_ne (show Loc.s i≠Loc.b b by simp),cond_false]
  exact slotsW_blk
theorem avCps_ok {ok':Nat->Prop} {env:Nm}:∀ {as:List AV} {cs:List Cp} {vs:List Value},avCps as=some cs->All2 (AvR h ok' env) as vs->All2 (CpR h ok' env) cs vs
 | [],cs,[],hc,_=>by simp [avCps] at hc;subst hc;trivial
 | a :: as,cs,v :: vs,hc,hv=>by
  simp only [avCps] at hc
  split at hc
  · rename_i c cs' h1 h2
    simp at hc;subst hc
    refine ⟨?_,avCps_ok h2 hv.2⟩
    unfold avCp at h1
    split at h1
    · simp at h1;subst h1;exact hv.1
    · simp at h1;subst h1;exact hv.1
    · cases h1
  · cases hc
 | [],_,_ :: _,_,hv=>hv.elim
 | _ :: _,_,[],_,hv=>hv.elim
theorem slots_ok {ok':Nat->Prop} {env:Nm} {tm:Array Value} {r:List Wr} (hr:∀ n,look r (.s n) = .no):∀ {s:List AP} {as:List AV} {vals:List Value} {i:Nat},All2 (AvR h ok' env) as vals ->
 (∀ k v,(groupV s vals)[k]?=some v->tm.getD (i+k) undef=v)->∀ n,SlotR h ok' env (look (slotsW s as i ++ r) (.s n)) (tm.getD n undef)
 | [],as,vals,i,_,_,n=>by
  have:slotsW [] as i=[]:=by cases as <;> rfl
  rw [this,List.nil_append,hr n];trivial
 | .p :: s,[],vals,i,_,_,n=>by rw [show slotsW (.p :: s) [] i=[] from rfl,List.nil_append,hr n];trivial
 | .p :: s,a :: as,v :: vals,i,hv,ht,n=>by
  simp only [slotsW,List.cons_append,look]
  by_cases hin:i=n
  · subst hin
    rw [eqb_refl,cond_true]
    have:=ht 0 v rfl
    rw [Nat.add_zero] at this
    rw [this]
    exact hv.1
  · rw [eqb_ne (show Loc.s i≠Loc.s n from fun e=>by cases e;exact hin rfl),cond_false]
    exact slots_ok hr (i:=i+1) hv.2 (fun k v hk=>by rw [show i+1+k=i+(k+1) by omega];exact ht (k+1) v (by simpa [groupV] using hk)) n
 | .clo f c m :: s,as,vals,i,hv,ht,n=>by
  simp only [slotsW,List.cons_append,look]
  by_cases hin:i=n
  · subst hin
    rw [eqb_refl,cond_true]
    have:=ht 0 _ rfl
    rw [Nat.add_zero] at this
    rw [this]
    unfold cloC
    split
    · rename_i fi ca h1 h2
      exact ⟨_,_,rfl,avCps_ok h1 (hv.take c),avCps_ok h2 ((hv.drop c).take m)⟩
    · trivial
  · rw [eqb_ne (show Loc.s i≠Loc.s n from fun e=>by cases e;exact hin rfl),cond_false]
    exact slots_ok hr (i:=i+1) (hv.drop (c+m)) (fun k v hk=>by rw [show i+1+k=i+(k+1) by omega];exact ht (k+1) v (by simpa [groupV] using hk)) n
 | .p :: _,_ :: _,[],_,hv,_,_=>hv.elim
theorem groupV_len:∀ {s:List AP} {vs:List Value},(groupV s vs).length<=s.length
 | [],vs=>by cases vs <;> simp [groupV]
 | .p :: s,[]=>by simp [groupV]
 | .p :: s,v :: vs=>by have:=groupV_len (s:=s) (vs:=vs);simp [groupV];omega
 | .clo f n m :: s,vs=>by have:=groupV_len (s:=s) (vs:=vs.drop (n+m));simp [groupV];omega
end
def ptrV (g:Nat):Value:=.pointer (some ⟨g,0,none⟩)
theorem start_ok {w:World} {ok:Nat->Prop} {ps:List PTy} {d:Pden ps} {args:List Value} {gs:List Nat} (ha:ArgsR w.heap ok ps d args gs) {nt:Nat} {sh:List AP} (hnt:sh.length<=nt) :
 St ⟨w,ok,(·∈gs),fun b=>(lk (fixL ps gs 0) b).map ptrV⟩ nt (look (entryW sh ps d)) ⟨(groupV sh args).toArray ++ Array.replicate (nt - (groupV sh args).toArray.size) undef,[]⟩ w (· < ps.length):=by
 obtain ⟨hg,hl⟩:=ha.lt
 have hgl:=groupV_len (s:=sh) (vs:=args)
 let own:Ow:=fun g=>lk ((fixL ps gs 0).map fun p=>(p.2,p.1)) g
 have hown:∀ c,c ∉ gs->own c=none:=fun c hc=>lk_none fun v hv=>by
  obtain ⟨p,hp,he⟩:=List.mem_map.1 hv
  cases he
  exact hc (fixL_mem p hp)
 have hn1:=fixL_nodup1 (ps:=ps) (gs:=gs) (i:=0)
 have hn2:(((fixL ps gs 0).map fun p=>(p.2,p.1)).map (·.1)).Nodup:=by
  have:=ha.nodup (i:=0)
  rw [List.map_map];exact this
 have hok:∀ c,ok c->(⟨w,ok,(·∈gs),fun b=>(lk (fixL ps gs 0) b).map ptrV⟩:Cx).ok own c:=fun c hc=>⟨hown c fun hm=>(hg c hm).2 hc,.inl hc⟩
 have hfx:∀ p∈fixL ps gs 0,(fun b=>(lk (fixL ps gs 0) b).map ptrV:Nm) p.1=some (.pointer (some ⟨p.2,0,none⟩))/\own p.2=some p.1:=fun p hp=>⟨by
  show (lk (fixL ps gs 0) p.1).map ptrV=_
  rw [lk_of hn1 (show (p.1,p.2)∈_ from hp)];rfl,lk_of hn2 (List.mem_map.2 ⟨p,hp,rfl⟩)⟩
 have k1:∀ b,CellR w.heap.size w.heap ((⟨w,ok,(·∈gs),fun b=>(lk (fixL ps gs 0) b).map ptrV⟩:Cx).ok own) (fun b=>(lk (fixL ps gs 0) b).map ptrV) own b (look (entryW sh ps d) (.b b)):=fun b=>by
  unfold entryW
  rw [slotsW_blk]
  exact blks_ok hok ha hfx b
 have k2:=slots_ok (s:=sh) (i:=0) (tm:=(groupV sh args).toArray ++ Array.replicate (nt - (groupV sh args).toArray.size) undef) (fun n=>blksW_slot (ps:=ps) (d:=d) (i:=0)) (capsL_ok (env:=fun b=>(lk (fixL ps gs 0) b).map ptrV) hok ha fun p hp=>(hfx p hp).1) fun k v hk=>by
  have hlt:=(List.getElem?_eq_some_iff.1 hk).1
  rw [Nat.zero_add,Array.getD_eq_getD_getElem?,Array.getElem?_append_left (by simpa using hlt)]
  simp [hk]
 refine ⟨rfl,by simp;omega,_,own,⟨rfl,rfl,rfl,Nat.le_refl _,fun c _ hc=>⟨hown c hc,rfl⟩,fun c hc=>hown c fun hm=>by have:=(hg c hm).1;omega,fun b hb=>?_,fun b v h=>h⟩,k1,k2⟩
 cases hl:lk (fixL ps gs 0) b with
 | none=>simp [hl] at hb
 | some g=>have:=fixL_ge _ (lk_mem hl);simpa using this.2
end Go.VI
namespace Go.VI
open Go Go.RowKit
inductive PR (fs:FS):Lf->Lf->Prop where
 | kb (b:Bool):PR fs (.kb b) (.imm .bool b)
 | imm (t:Ty) (v:t.den):PR fs (.imm t v) (.imm t v)
 | nil (e:Ty):PR fs .nil (.imm (.slice e) [])
 | own (b:Nat) (m:Bool) (T:TypeId) (e:Ty) (l:List e.den) (h:fs (.b b) = .arr m T e l):PR fs (.own b) (.imm (.slice e) l)
 | sub (b lo n:Nat) (m:Bool) (T:TypeId) (e:Ty) (l:List e.den) (h:fs (.b b) = .arr m T e l):PR fs (.sub b e.size lo n) (.imm (.slice e) ((l.drop lo).take n))
 | raw (x:Lf) (h:x.isRaw=true):PR fs x .undef
 | nili (K:Nat) (t:Ty):PR fs (.imm (.ifo 0 .unit) none) (.imm (.ifo K t) none)
theorem cast_eq {t t':Ty} {v:t.den} {v':t'.den} (h:Ty.cast t t' v=some v'):(Lf.imm t v) = .imm t' v':=by
 unfold Ty.cast at h
 split at h
 · rename_i he
   have:=Ty.eqb_eq he
   subst this
   simp at h
   rw [h]
 · cases h
def OwnIn (ws:Ws) (z:Lf):Prop:=∀ b,z.row=some b->∃ p∈ws,p.1=b
theorem OwnIn.mono {ws ws':Ws} {z:Lf} (h:OwnIn ws z) (hs:∀ p∈ws,p∈ws'):OwnIn ws' z:=fun b hb=>by
 obtain ⟨p,hp,he⟩:=h b hb
 exact ⟨p,hs p hp,he⟩
section
variable {P:Program} {te:TE} {cx:Cx} {fs:FS} {w:World} {env:Nm} {own:Ow}
theorem packT_rel:∀ {t:Ty} {zs:List Lf} {v:t.den} {rest:List Lf} {ws:Ws},(packT true t zs).evs fs=some (v,rest,ws)->∃ z1,zs=z1 ++ rest/\All2 (fun z x=>PR fs z x/\OwnIn ws z) z1 (flat t v)
 | .bool,x :: r,v,rest,ws,h=>by
  obtain ⟨b,h1,h2⟩:=evs_bind_some.1 h
  simp at h2
  obtain ⟨rfl,rfl,rfl⟩:=h2
  refine ⟨[x],rfl,⟨?_,?_⟩,trivial⟩
  · unfold asBool at h1
    split at h1
    · simp [T.evs] at h1;subst h1;exact .kb _
    · simp [T.evs] at h1;subst h1;exact .imm _ _
    · simp [T.evs] at h1
  · rintro b hb;cases x <;> simp [Lf.row] at hb <;> simp [asBool,T.evs] at h1
 | .int k,x :: r,v,rest,ws,h=>by
  simp only [packT] at h
  split at h
  · rename_i t0 v0
    obtain ⟨b,h1,h2⟩:=evs_bind_some.1 h
    simp at h2
    obtain ⟨rfl,rfl,rfl⟩:=h2
    simp only [castT,evs_opt] at h1
    refine ⟨[.imm t0 v0],rfl,⟨?_,fun b hb=>by cases hb⟩,trivial⟩
    rw [cast_eq h1];exact .imm _ _
  · simp [T.evs] at h
 | .slice e,x :: r,v,rest,ws,h=>by
  obtain ⟨⟨l,ws'⟩,h1,h2⟩:=evs_bind_some.1 h
  simp at h2
  obtain ⟨rfl,rfl,rfl⟩:=h2
  refine ⟨[x],rfl,?_,trivial⟩
  unfold packS at h1
  split at h1
  · simp [T.evs] at h1
    obtain ⟨rfl,rfl⟩:=h1
    exact ⟨.nil e,fun b hb=>by cases hb⟩
  · obtain ⟨l',h3,h4⟩:=evs_bind_some.1 h1
    simp only [castT,evs_opt] at h3
    simp at h4
    obtain ⟨rfl,rfl⟩:=h4
    exact ⟨by rw [cast_eq h3];exact .imm _ _,fun b hb=>by cases hb⟩
  · rename_i b
    obtain ⟨c,h3,h4⟩:=evs_bind_some.1 h1
    simp only [evs_rdB,Option.some.injEq] at h3
    subst h3
    split at h4
    · rename_i m TT e' l' hfs
      obtain ⟨l2,h5,h6⟩:=evs_bind_some.1 h4
      simp only [castT,evs_opt] at h5
      simp at h6
      obtain ⟨rfl,rfl⟩:=h6
      have:=cast_eq h5
      have he:e'=e:=by injection this with h;injection h
      subst he
      injection this with _ hv
      subst hv
      exact ⟨.own b m TT e' l' hfs,fun b' hb=>by cases hb;exact ⟨_,List.mem_singleton.2 rfl,rfl⟩⟩
    · simp [T.evs] at h4
  · rename_i b sz lo n
    obtain ⟨c,h3,h4⟩:=evs_bind_some.1 h1
    simp only [evs_rdB,Option.some.injEq] at h3
    subst h3
    split at h4
    · rename_i m TT e' l' hfs
      obtain ⟨l2,h5,h6⟩:=evs_bind_some.1 h4
      obtain ⟨_,h7,h8⟩:=evs_bind_some.1 h6
      simp only [castT,evs_opt] at h5
      have hsz:=Nat.eq_of_beq_eq_true (evs_guard.1 h7)
      subst hsz
      simp at h8
      obtain ⟨rfl,rfl⟩:=h8
      have:=cast_eq h5
      have he:e'=e:=by injection this with h;injection h
      subst he
      injection this with _ hv
      subst hv
      exact ⟨.sub b lo n m TT e' l' hfs,fun b' hb=>by cases hb;exact ⟨_,List.mem_singleton.2 rfl,rfl⟩⟩
    · simp [T.evs] at h4
  · simp [T.evs] at h1
 | .prod a b,zs,v,rest,ws,h=>by
  obtain ⟨⟨v1,r1,w1⟩,h1,h2⟩:=evs_bind_some.1 h
  obtain ⟨⟨v2,r2,w2⟩,h3,h4⟩:=evs_bind_some.1 h2
  simp at h4
  obtain ⟨rfl,rfl,rfl⟩:=h4
  obtain ⟨z1,rfl,q1⟩:=packT_rel h1
  obtain ⟨z2,rfl,q2⟩:=packT_rel h3
  refine ⟨z1 ++ z2,by simp,?_⟩
  exact (q1.mono fun _ _ h=>⟨h.1,h.2.mono fun p hp=>by simp [hp]⟩).append (q2.mono fun _ _ h=>⟨h.1,h.2.mono fun p hp=>by simp [hp]⟩)
 | .unit,zs,v,rest,ws,h=>by
  simp only [packT,T.evs_pure,Option.some.injEq,Prod.mk.injEq] at h
  obtain ⟨_,rfl,rfl⟩:=h
  exact ⟨[],rfl,trivial⟩
 | .raw k,x :: r,v,rest,ws,h=>by
  simp only [packT] at h
  obtain ⟨_,h1,h2⟩:=evs_bind_some.1 h
  simp at h2
  obtain ⟨rfl,rfl⟩:=h2
  have h1:=evs_guard.1 h1
  exact ⟨[x],rfl,⟨.raw x h1,fun b hb=>by cases x <;> simp [Lf.isRaw] at h1 <;> simp [Lf.row] at hb⟩,trivial⟩
 | .raw k,[],_,_,_,h=>by simp [packT,T.evs] at h
 | .ifo K t,x :: r,v,rest,ws,h=>by
  simp only [packT] at h
  split at h
  · rename_i t0 v0
    obtain ⟨b,h1,h2⟩:=evs_bind_some.1 h
    simp at h2
    obtain ⟨rfl,rfl,rfl⟩:=h2
    refine ⟨[.imm t0 v0],rfl,⟨?_,fun b hb=>by cases hb⟩,trivial⟩
    unfold ifoT at h1
    split at h1
    · split at h1
      · simp [T.evs] at h1;subst h1;exact .nili K t
      · simp [T.evs] at h1
    · simp only [castT,evs_opt] at h1
      rw [cast_eq h1];exact .imm _ _
  · simp [T.evs] at h
 | .ifo _ _,[],_,_,_,h=>by simp [packT,T.evs] at h
 | .bool,[],_,_,_,h=>by simp [packT,T.evs] at h
 | .int _,[],_,_,_,h=>by simp [packT,T.evs] at h
 | .slice _,[],_,_,_,h=>by simp [packT,T.evs] at h
theorem pr_frz (hB:RB cx fs w env own) {z x:Lf} {c:Value} {ns:List Nat} {ws:Ws} {ok':Nat->Prop} {env':Nm} (hto:To cx w own ns ok') (hp:PR fs z x) (ho:OwnIn ws z) (hns:∀ p∈ws,p.1∈ns) (hz:LfR w.heap (cx.ok own) env z c):LfR w.heap ok' env' x c:=by
 cases hp with
 | kb b=>simpa [LfR,Fits] using hz
 | imm t v=>exact hto.fits0 hz
 | nil e=>simp only [LfR] at hz;subst hz;exact ⟨none,0,rfl,fun _=>rfl,by simp,by simp⟩
 | raw x h=>exact LfR.one hz
 | nili K t =>
  rcases hz with ⟨_,h⟩ | ⟨_,_,h,_⟩
  · exact .inl ⟨rfl,h⟩
  · cases h
 | own b m T e l h =>
  obtain ⟨p,hp,he⟩:=ho b rfl
  have hbn:b∈ns:=he ▸ hns p hp
  have hb:=hB b
  rw [h] at hb
  obtain ⟨v',e1,e2⟩:=hb
  obtain ⟨hz1,_⟩:=hz
  rw [e1] at hz1
  simp at hz1;subst hz1
  rcases e2 with ⟨rfl,rfl⟩ | ⟨g,cap,cur,rfl,hg,q1,q2,q3,q4,q5,q6⟩
  · exact ⟨none,0,rfl,fun _=>rfl,by simp,by simp⟩
  · refine ⟨some ⟨g,0,none⟩,cap,rfl,by simp,fun y hy _=>?_,q1⟩
    simp at hy;subst hy
    refine ⟨rfl,hto.ok g ?_,cur,T,_,hg,by simp only [Nat.zero_add,q3];exact Nat.mul_le_mul_right _ q1,fun i hi=>?_⟩
    · cases m with
      | true=>exact ⟨unown_in (q5 rfl).1 hbn,.inr (q5 rfl).2⟩
      | false=>exact ok_unown (q6 rfl)
    · simpa using hto.fits0 (q4 i hi)
 | sub b lo n m T e l h =>
  obtain ⟨p,hp,he⟩:=ho b rfl
  have hbn:b∈ns:=he ▸ hns p hp
  have hb:=hB b
  rw [h] at hb
  obtain ⟨v',e1,e2⟩:=hb
  obtain ⟨p0,len,c0,hx1,hx2,hx3,rfl⟩:=hz
  rw [e1] at hx1
  simp at hx1;subst hx1
  rcases e2 with ⟨hr1,rfl⟩ | ⟨g,cap,cur,hr1,hg,q1,q2,q3,q4,q5,q6⟩
  · obtain ⟨rfl,rfl,rfl⟩:=Value.slice.inj hr1
    have hlo:lo=0:=by omega
    have hn0:n=0:=by omega
    subst hlo;subst hn0
    exact ⟨none,0,rfl,fun _=>rfl,by simp,by simp⟩
  · obtain ⟨rfl,rfl,rfl⟩:=Value.slice.inj hr1
    have hlen:((l.drop lo).take n).length=n:=by simp;omega
    refine ⟨_,c0 - lo,by rw [hlen],fun h0=>?_,fun y hy hne=>?_,by rw [hlen];omega⟩
    · split at h0 <;> cases h0
    · have hn:n≠0:=fun h0=>hne (by rw [h0];simp)
      rw [if_neg (by omega)] at hy
      simp only [Option.map_some,Option.some.injEq] at hy
      rw [Addr.add_lit,Nat.zero_add] at hy
      subst hy
      refine ⟨rfl,hto.ok g ?_,cur,T,_,hg,by rw [hlen,q3,<-Nat.add_mul];exact Nat.mul_le_mul_right _ (by omega),fun i hi=>?_⟩
      · cases m with
        | true=>exact ⟨unown_in (q5 rfl).1 hbn,.inr (q5 rfl).2⟩
        | false=>exact ok_unown (q6 rfl)
      · have:=q4 (lo+i) (by rw [hlen] at hi;omega)
        rw [Nat.add_mul] at this
        simpa [List.getElem_take,List.getElem_drop] using hto.fits0 this
def outV:List Lf->List (Option TypeId)->List Value->Nat->List (Nat × Value) × List (Nat × Nat) × Nat
 | y :: ys,some _ :: os,c :: cs,nm =>
  let r:=outV ys os cs (nm+1)
  ((nm,c) :: r.1,(match y with
   | .own b=>(b,nm) :: r.2.1
   | _=>r.2.1),r.2.2)
 | _ :: ys,none :: os,_ :: cs,nm=>outV ys os cs nm
 | _,_,_,nm=>([],[],nm)
def struck:Ws->List Nat
 | []=>[]
 | (b,.no) :: r=>b :: struck r
 | _ :: r=>struck r
structure Outs (own:Ow) (B:Nat) (V:List (Nat × Value)) (K:List (Nat × Nat)) (ec:Nm) (oc:Ow):Prop where
 val:∀ p∈V,ec p.1=some p.2
 row:∀ p∈K,∀ g,own g=some p.1->B<=g->oc g=some p.2
theorem leaf_out (hB:RB cx fs w env own) {ns:List Nat} {ok':Nat->Prop} {ec:Nm} {oc:Ow} (hto:To cx w own ns ok') {w2:Ws} (hns:∀ p∈w2,p.1∈ns):∀ {ys zs xs:List Lf} {os:List (Option TypeId)} {w1:Ws} {cs:List Value} {nm:Nat},(outL ys os).evs fs=some (zs,w1) ->
 All2 (fun z x=>PR fs z x/\OwnIn w2 z) zs xs->All2 (LfR w.heap (cx.ok own) env) ys cs->Outs own cx.w0.heap.size (outV ys os cs nm).1 (outV ys os cs nm).2.1 ec oc ->
 All2 (LfR w.heap ok' ec) (ownL xs os nm).1 cs/\(∀ p∈(ownL xs os nm).2.1,CellR cx.w0.heap.size w.heap ok' ec oc p.1 p.2)/\(ownL xs os nm).2.2=(outV ys os cs nm).2.2
 | [],zs,xs,os,w1,cs,nm,h,hp,hy,_=>by
  have h':zs=[]:=by cases os <;> (simp [outL,T.evs] at h;exact h.1.symm ▸ rfl)
  subst h'
  cases xs with
  | cons _ _=>exact hp.elim
  | nil =>
   cases cs with
   | cons _ _=>exact hy.elim
   | nil=>cases os <;> simp [ownL,outV,All2]
 | y :: ys,zs,xs,some tt :: os,w1,cs,nm,h,hp,hy,ho=>by
  simp only [outL] at h
  obtain ⟨⟨z,u1⟩,h1,h2⟩:=evs_bind_some.1 h
  obtain ⟨⟨zs',u2⟩,h3,h4⟩:=evs_bind_some.1 h2
  simp at h4
  obtain ⟨rfl,rfl⟩:=h4
  cases xs with
  | nil=>exact hp.elim
  | cons x xs =>
   cases cs with
   | nil=>exact hy.elim
   | cons c cs =>
    have ho':Outs own cx.w0.heap.size (outV ys os cs (nm+1)).1 (outV ys os cs (nm+1)).2.1 ec oc:=by
     refine ⟨fun p hp=>ho.val p (by simp [outV,hp]),fun p hp=>ho.row p ?_⟩
     simp only [outV]
     split
     · exact List.mem_cons_of_mem _ hp
     · exact hp
    obtain ⟨i1,i2,i3⟩:=leaf_out hB hto hns h3 hp.2 hy.2 ho'
    have hc:=ho.val (nm,c) (by simp [outV])
    have hsl:∃ p n k,c = .slice p n k:=by
     split at h1
     · exact hy.1.2
     · exact ⟨_,_,_,hy.1⟩
     · simp [T.evs] at h1
    have hx:∃ e l,x = .imm (.slice e) l/\CellR cx.w0.heap.size w.heap ok' ec oc nm (.arr true tt e l):=by
     split at h1
     · rename_i b
       obtain ⟨cl,h5,h6⟩:=evs_bind_some.1 h1
       simp only [evs_rdB,Option.some.injEq] at h5
       subst h5
       split at h6
       · rename_i T' e l hfs
         obtain ⟨_,h7,h8⟩:=evs_bind_some.1 h6
         simp at h8
         obtain ⟨rfl,rfl⟩:=h8
         have hT:=Nat.eq_of_beq_eq_true (evs_guard.1 h7)
         subst hT
         have hpr:=hp.1.1
         cases hpr with
         | raw x h=>simp [Lf.isRaw] at h
         | imm t v =>
          refine ⟨e,l,rfl,c,hc,?_⟩
          have hb:=hB b
          rw [hfs] at hb
          obtain ⟨v',e1,e2⟩:=hb
          obtain ⟨hz1,_⟩:=hy.1
          rw [e1] at hz1
          simp at hz1;subst hz1
          refine e2.imp id ?_
          rintro ⟨g,cap,cur,rfl,hg,q1,q2,q3,q4,q5,q6⟩
          exact ⟨g,cap,cur,rfl,hg,q1,q2,q3,fun i hi=>hto.fits0 (q4 i hi),fun _=>⟨ho.row (b,nm) (by simp [outV]) g (q5 rfl).1 (q5 rfl).2,(q5 rfl).2⟩,fun h=>by cases h⟩
       · simp [T.evs] at h6
     · simp [T.evs] at h1
       obtain ⟨rfl,rfl⟩:=h1
       have hpr:=hp.1.1
       cases hpr with
       | raw x h=>simp [Lf.isRaw] at h
       | nil e =>
        have hcn:c = .slice none 0 0:=hy.1
        exact ⟨e,[],rfl,c,hc,.inl ⟨hcn,rfl⟩⟩
     · simp [T.evs] at h1
    obtain ⟨e,l,rfl,hcell⟩:=hx
    simp only [ownL,outV]
    refine ⟨⟨⟨hc,hsl⟩,i1⟩,fun p hp=>?_,i3⟩
    rcases List.mem_cons.1 hp with rfl | hp
    · exact hcell
    · exact i2 p hp
 | y :: ys,zs,xs,none :: os,w1,cs,nm,h,hp,hy,ho=>by
  simp only [outL] at h
  obtain ⟨⟨zs',u2⟩,h3,h4⟩:=evs_bind_some.1 h
  simp at h4
  obtain ⟨rfl,rfl⟩:=h4
  cases xs with
  | nil=>exact hp.elim
  | cons x xs =>
   cases cs with
   | nil=>exact hy.elim
   | cons c cs =>
    obtain ⟨i1,i2,i3⟩:=leaf_out hB hto hns (nm:=nm) h3 hp.2 hy.2 (by simpa [outV] using ho)
    have hx:LfR w.heap ok' ec x c:=pr_frz hB hto hp.1.1 hp.1.2 hns hy.1
    have:ownL (x :: xs) (none :: os) nm=(x :: (ownL xs os nm).1,(ownL xs os nm).2):=by
     cases x <;> first | rfl | (rename_i t v;cases t <;> rfl)
    rw [this]
    exact ⟨⟨hx,i1⟩,i2,by simpa [outV] using i3⟩
 | _ :: _,_,_,[],_,_,_,h,_,_,_=>by simp [outL,T.evs] at h
theorem outV_names:∀ {ys zs:List Lf} {os:List (Option TypeId)} {w1:Ws} {cs:List Value} {nm:Nat},(outL ys os).evs fs=some (zs,w1)->ys.length=cs.length ->
 (outV ys os cs nm).1.map (·.1)=List.range' nm ((outV ys os cs nm).2.2 - nm)/\nm<=(outV ys os cs nm).2.2/\(outV ys os cs nm).2.1.map (·.1)=struck w1/\∀ p∈w1,p.2 = .no
 | [],zs,os,w1,cs,nm,h,hl=>by
  have:w1=[]:=by cases os <;> (simp [outL,T.evs] at h;exact h.2.symm ▸ rfl)
  subst this
  cases cs with
  | nil=>cases os <;> simp [outV,struck]
  | cons _ _=>simp at hl
 | y :: ys,zs,some tt :: os,w1,cs,nm,h,hl=>by
  simp only [outL] at h
  obtain ⟨⟨z,u1⟩,h1,h2⟩:=evs_bind_some.1 h
  obtain ⟨⟨zs',u2⟩,h3,h4⟩:=evs_bind_some.1 h2
  simp at h4
  obtain ⟨rfl,rfl⟩:=h4
  cases cs with
  | nil=>simp at hl
  | cons c cs =>
   obtain ⟨i1,i2,i3,i4⟩:=outV_names (nm:=nm+1) h3 (by simpa using hl)
   simp only [outV]
   refine ⟨?_,by omega,?_,?_⟩
   · rw [List.map_cons,i1,show (outV ys os cs (nm+1)).2.2 - nm=((outV ys os cs (nm+1)).2.2 - (nm+1))+1 by omega,List.range'_succ]
   · split at h1
     · obtain ⟨cl,h5,h6⟩:=evs_bind_some.1 h1
       split at h6
       · obtain ⟨_,h7,h8⟩:=evs_bind_some.1 h6
         simp at h8
         obtain ⟨rfl,rfl⟩:=h8
         simp [struck,i3]
       · simp [T.evs] at h6
     · simp [T.evs] at h1
       obtain ⟨rfl,rfl⟩:=h1
       simpa using i3
     · simp [T.evs] at h1
   · split at h1
     · obtain ⟨cl,h5,h6⟩:=evs_bind_some.1 h1
       split at h6
       · obtain ⟨_,h7,h8⟩:=evs_bind_some.1 h6
         simp at h8
         obtain ⟨rfl,rfl⟩:=h8
         intro p hp
         simp at hp
         rcases hp with rfl | hp
         · rfl
         · exact i4 p hp
       · simp [T.evs] at h6
     · simp [T.evs] at h1
       obtain ⟨rfl,rfl⟩:=h1
       simpa using i4
     · simp [T.evs] at h1
 | y :: ys,zs,none :: os,w1,cs,nm,h,hl=>by
  simp only [outL] at h
  obtain ⟨⟨zs',u2⟩,h3,h4⟩:=evs_bind_some.1 h
  simp at h4
  obtain ⟨rfl,rfl⟩:=h4
  cases cs with
  | nil=>simp at hl
  | cons c cs =>
   simp only [outV]
   exact outV_names h3 (by simpa using hl)
 | _ :: _,_,[],_,_,_,h,_=>by simp [outL,T.evs] at h
end
end Go.VI
namespace Go.VI
open Go Go.RowKit
theorem size_one {t:Ty} (h:t.isAgg=false):t.size=1:=by cases t <;> first | rfl | simp [Ty.isAgg] at h
theorem struck_append:∀ {a b:Ws},struck (a ++ b)=struck a ++ struck b
 | [],_=>rfl
 | (x,.no) :: a,b=>by simp [struck,struck_append (a:=a)]
 | (x,.av _) :: a,b=>by simp [struck,struck_append (a:=a)]
 | (x,.arr _ _ _ _) :: a,b=>by simp [struck,struck_append (a:=a)]
 | (x,.box _ _) :: a,b=>by simp [struck,struck_append (a:=a)]
 | (x,.ln _) :: a,b=>by simp [struck,struck_append (a:=a)]
theorem struck_frz {fs:FS} {a:Ws} (h:Frz fs a):struck a=[]:=by
 induction a with
 | nil=>rfl
 | cons p a ih =>
  obtain ⟨x,c⟩:=p
  obtain ⟨m,T,e,l,_,h2⟩:=h (x,c) (by simp)
  simp only at h2
  subst h2
  exact ih fun p hp=>h p (List.mem_cons_of_mem _ hp)
theorem mem_struck:∀ {a:Ws} {b:Nat},b∈struck a↔(b,Cell.no)∈a
 | [],b=>by simp [struck]
 | (x,.no) :: a,b=>by simp [struck,mem_struck (a:=a)]
 | (x,.av _) :: a,b=>by simp [struck,mem_struck (a:=a)]
 | (x,.arr _ _ _ _) :: a,b=>by simp [struck,mem_struck (a:=a)]
 | (x,.box _ _) :: a,b=>by simp [struck,mem_struck (a:=a)]
 | (x,.ln _) :: a,b=>by simp [struck,mem_struck (a:=a)]
theorem outOk_spec {ws:Ws} (h:outOk ws=true):(struck ws).Nodup/\∀ p∈ws,p.2≠.no->p.1 ∉ struck ws:=by
 induction ws with
 | nil=>simp [struck]
 | cons p r ih =>
  obtain ⟨b,c⟩:=p
  simp only [outOk,Bool.and_eq_true] at h
  obtain ⟨h1,h2⟩:=ih h.2
  cases hl:c.live with
  | false =>
   have hc:c = .no:=by cases c <;> simp_all [Cell.live]
   subst hc
   have h3:=h.1
   simp only [Cell.live,cond_false,Bool.not_eq_true',List.any_eq_false] at h3
   have hb:∀ p∈r,p.1≠b:=fun p hp he=>h3 p hp (by rw [he];exact Nat.beq_refl b)
   refine ⟨List.nodup_cons.2 ⟨fun hm=>hb _ (mem_struck.1 hm) rfl,h1⟩,fun p hp hne hm=>?_⟩
   rcases List.mem_cons.1 hp with rfl | hp
   · exact hne rfl
   · rcases List.mem_cons.1 hm with he | hm
     · exact hb p hp he
     · exact h2 p hp hne hm
  | true =>
   have hs:struck ((b,c) :: r)=struck r:=by cases c <;> first | rfl | simp [Cell.live] at hl
   have h3:=h.1
   simp only [hl,cond_true,List.all_eq_true] at h3
   rw [hs]
   refine ⟨h1,fun p hp hne hm=>?_⟩
   rcases List.mem_cons.1 hp with rfl | hp
   · have:=h3 _ (mem_struck.1 hm)
     simp [Cell.live] at this
   · exact h2 p hp hne hm
theorem packT_frz {fs:FS}:∀ {t:Ty} {zs:List Lf} {v:t.den} {rest:List Lf} {ws:Ws},(packT true t zs).evs fs=some (v,rest,ws)->Frz fs ws:=by
 intro t
 induction t with
 | bool =>
  intro zs v rest ws h
  cases zs with
  | nil=>simp [packT,T.evs] at h
  | cons x r=>obtain ⟨b,_,h2⟩:=evs_bind_some.1 h;simp at h2;obtain ⟨_,_,rfl⟩:=h2;exact Frz.nil
 | int k =>
  intro zs v rest ws h
  cases zs with
  | nil=>simp [packT,T.evs] at h
  | cons x r =>
   simp only [packT] at h
   split at h
   · obtain ⟨b,_,h2⟩:=evs_bind_some.1 h;simp at h2;obtain ⟨_,_,rfl⟩:=h2;exact Frz.nil
   · simp [T.evs] at h
 | ifo K t =>
  intro zs v rest ws h
  cases zs with
  | nil=>simp [packT,T.evs] at h
  | cons x r =>
   simp only [packT] at h
   split at h
   · obtain ⟨b,_,h2⟩:=evs_bind_some.1 h;simp at h2;obtain ⟨_,_,rfl⟩:=h2;exact Frz.nil
   · simp [T.evs] at h
 | raw k =>
  intro zs v rest ws h
  cases zs with
  | nil=>simp [packT,T.evs] at h
  | cons x r =>
   simp only [packT] at h
   obtain ⟨_,_,h2⟩:=evs_bind_some.1 h
   simp at h2;obtain ⟨_,rfl⟩:=h2;exact Frz.nil
 | unit=>intro zs v rest ws h;simp only [packT,T.evs_pure,Option.some.injEq,Prod.mk.injEq] at h;obtain ⟨_,_,rfl⟩:=h;exact Frz.nil
 | prod a b iha ihb =>
  intro zs v rest ws h
  obtain ⟨⟨v1,r1,u1⟩,q1,q2⟩:=evs_bind_some.1 h
  obtain ⟨⟨v2,r2,u2⟩,q3,q4⟩:=evs_bind_some.1 q2
  simp at q4
  obtain ⟨_,_,rfl⟩:=q4
  exact (iha q1).append (ihb q3)
 | slice e ih =>
  intro zs v rest ws h
  cases zs with
  | nil=>simp [packT,T.evs] at h
  | cons x r =>
   obtain ⟨⟨l,ws'⟩,q1,q2⟩:=evs_bind_some.1 h
   simp at q2
   obtain ⟨_,_,rfl⟩:=q2
   unfold packS at q1
   split at q1
   · simp [T.evs] at q1;obtain ⟨_,rfl⟩:=q1;exact Frz.nil
   · obtain ⟨_,_,q4⟩:=evs_bind_some.1 q1;simp at q4;obtain ⟨_,rfl⟩:=q4;exact Frz.nil
   · obtain ⟨c,q3,q4⟩:=evs_bind_some.1 q1
     simp only [evs_rdB,Option.some.injEq] at q3
     subst q3
     split at q4
     · rename_i m TT e' l' hfs
       obtain ⟨_,_,q6⟩:=evs_bind_some.1 q4
       simp at q6;obtain ⟨_,rfl⟩:=q6
       intro p hp
       simp at hp;subst hp
       exact ⟨m,TT,e',l',hfs,rfl⟩
     · simp [T.evs] at q4
   · obtain ⟨c,q3,q4⟩:=evs_bind_some.1 q1
     simp only [evs_rdB,Option.some.injEq] at q3
     subst q3
     split at q4
     · rename_i m TT e' l' hfs
       obtain ⟨_,_,q6⟩:=evs_bind_some.1 q4
       obtain ⟨_,_,q8⟩:=evs_bind_some.1 q6
       simp at q8;obtain ⟨_,rfl⟩:=q8
       intro p hp
       simp at hp;subst hp
       exact ⟨m,TT,e',l',hfs,rfl⟩
     · simp [T.evs] at q4
   · simp [T.evs] at q1
section
variable {P:Program} {te:TE} {cx:Cx} {fs:FS} {w:World} {env:Nm} {own:Ow} {act:Act}
def rvRun (tm:Array Value):ResultVar->Sem Value
 | .tmp t=>pure (tm.getD t undef)
 | .cell a t=>do loadVar t (<-asAddr (tm.getD a undef))
theorem resV_ok (ht:TEok P te) (hB:RB cx fs w env own) (hR:RS cx fs act.tmps w env own) {t:Ty} {x:ResultVar} {ys:List Lf} (h:(resV te t x).evs fs=some ys) :
 ∃ val,(rvRun act.tmps x).run P w = .ok val w/\All2 (LfR w.heap (cx.ok own) env) ys val.cells.toList/\val=mkVal t val.cells.toList:=by
 cases x with
 | tmp n =>
  simp only [resV] at h
  obtain ⟨a,h1,h2⟩:=evs_bind_some.1 h
  obtain ⟨k1,k2⟩:=leavesT_ok h2 (rdS_ok hR h1) (.inr trivial)
  exact ⟨_,rfl,k1,k2 _ rfl⟩
 | cell n tt =>
  simp only [resV] at h
  obtain ⟨r,h1,h2⟩:=evs_bind_some.1 h
  obtain ⟨_,h3,h4⟩:=evs_bind_some.1 h2
  obtain ⟨l,h5,h6⟩:=evs_bind_some.1 h4
  obtain ⟨htr,hr⟩:=tyT_ok ht h1
  have hagg:=evs_guard.1 h3
  split at h6
  · rename_i b
    obtain ⟨c,h7,h8⟩:=evs_bind_some.1 h6
    simp only [evs_rdB,Option.some.injEq] at h7
    subst h7
    split at h8
    · rename_i T xs hfs
      obtain ⟨_,h9,h10⟩:=evs_bind_some.1 h8
      simp at h10;subst h10
      have hb:=hB b
      rw [hfs] at hb
      obtain ⟨g,cs,e1,e2,e3,e4⟩:=hb
      obtain ⟨g',q1,q2⟩:=rd1_ok hR h5
      rw [e1] at q1
      simp at q1;subst q1
      have hlen:=Nat.eq_of_beq_eq_true (evs_guard.1 h9)
      rw [e3.len] at hlen
      have hrun:=run_loadVar_at (P:=P) hr htr e2 (off:=0) (by simp at hlen;omega)
      simp only [List.drop_zero] at hrun
      rw [List.take_of_length_le (by omega)] at hrun
      have hmk:mkVal r.ty cs.toList=mkVal t cs.toList:=by
       simp only [mkVal]
       cases hr1:r.ty.isAgg <;> cases ht1:t.isAgg <;> simp_all
      have hcells:=mkVal_cells hlen e3.ones
      refine ⟨mkVal r.ty cs.toList,?_,by rw [hcells];exact e3,by rw [hcells];exact hmk⟩
      simp only [rvRun,Sem.run_bind]
      rw [show act.tmps.getD n undef = .pointer (some ⟨g,0,none⟩) from q2]
      simpa [asAddr] using hrun
    · simp [T.evs] at h8
  · simp [T.evs] at h6
theorem boxesT_ok {N:Nat->Prop} (hw:RW cx w env own N) (hB:RB cx fs w env own) (hno:∀ g,¬cx.outer g):∀ {t:Ty} {Ts:List TypeId} {cs:List Cp} {v:t.den} {ws:Ws} {us:List Value},(boxesT t Ts cs).evs fs=some (v,ws)->All2 (CpR w.heap (cx.ok own) env) cs us ->
 Ts.length=cs.length/\(∀ p∈ws,p.2≠.no->∃ m T e l,fs (.b p.1) = .arr m T e l/\p.2 = .arr false T e l)/\∀ nm,∃ (V:List (Nat × Value)) (K:List (Nat × Nat)),V.map (·.1)=List.range' nm Ts.length/\K.map (·.1)=struck ws /\
  ∀ (ns:List Nat) (ok':Nat->Prop) (ec:Nm) (oc:Ow),(∀ p∈ws,p.2≠.no->p.1∈ns)->To cx w own ns ok'->Outs own cx.w0.heap.size V K ec oc ->
   All2 (CpR w.heap ok' ec) (capsN nm Ts.length) us/\∀ p∈boxesL t v Ts nm,CellR cx.w0.heap.size w.heap ok' ec oc p.1 p.2
 | .unit,[],[],v,ws,[],h,_=>by
  simp [boxesT,T.evs] at h
  subst h
  exact ⟨rfl,by simp,fun nm=>⟨[],[],by simp,by simp [struck],fun _ _ _ _ _ _ _=>⟨trivial,by simp [boxesL]⟩⟩⟩
 | .prod a b,tt :: Ts,.ptr b0 0 :: cs,v,ws,u :: us,h,hu=>by
  simp only [boxesT] at h
  obtain ⟨c,h1,h2⟩:=evs_bind_some.1 h
  simp only [evs_rdB,Option.some.injEq] at h1
  subst h1
  split at h2
  · rename_i T' xs hfs
    obtain ⟨_,h3,h4⟩:=evs_bind_some.1 h2
    obtain ⟨⟨v1,rest,w1⟩,h5,h6⟩:=evs_bind_some.1 h4
    obtain ⟨_,h7,h8⟩:=evs_bind_some.1 h6
    obtain ⟨⟨vs,w2⟩,h9,h10⟩:=evs_bind_some.1 h8
    simp at h10
    obtain ⟨rfl,rfl⟩:=h10
    have hT:=Nat.eq_of_beq_eq_true (evs_guard.1 h3)
    subst hT
    have:=rest_nil h7
    subst this
    obtain ⟨hl,hfz,hbx⟩:=boxesT_ok hw hB hno h9 hu.2
    have hbb:=hB b0
    rw [hfs] at hbb
    obtain ⟨g,cs1,e1,e2,e3,e4⟩:=hbb
    obtain ⟨g',q1,q2⟩:=hu.1
    rw [e1] at q1
    simp at q1;subst q1
    have hge:cx.w0.heap.size<=g:=(hw.ge e4).elim id fun h=>absurd h (hno g)
    obtain ⟨f1,f2⟩:=packT_all hB h5 e3
    refine ⟨by simp [hl],fun p hp hne=>?_,fun nm=>?_⟩
    · rcases List.mem_cons.1 hp with rfl | hp
      · exact absurd rfl hne
      · rcases List.mem_append.1 hp with hp | hp
        · exact f1 p hp
        · exact hfz p hp hne
    · obtain ⟨V,K,m1,m2,m3⟩:=hbx (nm+1)
      refine ⟨(nm,u) :: V,(b0,nm) :: K,?_,?_,fun ns ok' ec oc hns hto ho=>?_⟩
      · rw [List.map_cons,m1,List.length_cons,List.range'_succ]
      · rw [List.map_cons,m2,struck,struck_append,struck_frz f1,List.nil_append]
      · have ho2:Outs own cx.w0.heap.size V K ec oc:=⟨fun p hp=>ho.val p (List.mem_cons_of_mem _ hp),fun p hp=>ho.row p (List.mem_cons_of_mem _ hp)⟩
        obtain ⟨i1,i2⟩:=m3 ns ok' ec oc (fun p hp hne=>hns p (List.mem_cons_of_mem _ (List.mem_append_right _ hp)) hne) hto ho2
        have hec:=ho.val (nm,u) (by simp)
        simp only at hec
        rw [q2] at hec
        refine ⟨⟨⟨g,hec,q2⟩,i1⟩,fun p hp=>?_⟩
        rcases List.mem_cons.1 hp with rfl | hp
        · refine ⟨g,cs1,hec,e2,flat_ok (hto.fits (f2 ns fun p hp=>hns p (List.mem_cons_of_mem _ (List.mem_append_left _ hp)) ?_)),ho.row (b0,nm) (by simp) g e4 hge⟩
          obtain ⟨m,T,e,l,_,q⟩:=f1 p hp
          rw [q];intro hq;cases hq
        · exact i2 p hp
  · simp [T.evs] at h2
 | .prod _ _,_ :: _,.ptr _ (_+1) :: _,_,_,_,h,_=>by simp [boxesT,T.evs] at h
 | .prod _ _,_ :: _,.imm _ _ :: _,_,_,_,h,_=>by simp [boxesT,T.evs] at h
 | .unit,_ :: _,_,_,_,_,h,_=>by simp [boxesT,T.evs] at h
 | .unit,[],_ :: _,_,_,_,h,_=>by simp [boxesT,T.evs] at h
 | .prod _ _,[],_,_,_,_,h,_=>by simp [boxesT,T.evs] at h
 | .prod _ _,_ :: _,[],_,_,_,h,_=>by simp [boxesT,T.evs] at h
 | .bool,_,_,_,_,_,h,_=>by simp [boxesT,T.evs] at h
 | .int _,_,_,_,_,_,h,_=>by simp [boxesT,T.evs] at h
 | .slice _,_,_,_,_,_,h,_=>by simp [boxesT,T.evs] at h
 | .unit,[],[],_,_,_ :: _,_,hu=>hu.elim
 | .prod _ _,_ :: _,_ :: _,_,_,[],_,hu=>hu.elim
theorem resT_ok (ht:TEok P te) {N:Nat->Prop} (hw:RW cx w env own N) (hB:RB cx fs w env own) (hR:RS cx fs act.tmps w env own) {nop:Bool} (hno:nop=true->∀ g,¬cx.outer g):∀ {rs:List RTy} {rv:List ResultVar} {r:Rden rs} {ws:Ws},(resT te nop rs rv).evs fs=some (r,ws) ->
 ∃ vals,(rv.mapM (rvRun act.tmps)).run P w = .ok vals w/\(∀ p∈ws,p.2≠.no->∃ m T e l,fs (.b p.1) = .arr m T e l/\p.2 = .arr false T e l)/\∀ nm,∃ (V:List (Nat × Value)) (K:List (Nat × Nat)),V.map (·.1)=List.range' nm ((resL rs r nm).2.2 - nm)/\nm<=(resL rs r nm).2.2/\K.map (·.1)=struck ws /\
  ∀ (ns:List Nat) (ok':Nat->Prop) (ec:Nm) (oc:Ow),(∀ p∈ws,p.2≠.no->p.1∈ns)->To cx w own ns ok'->Outs own cx.w0.heap.size V K ec oc ->
   All2 (A1R w.heap ok' ec) (resL rs r nm).1 vals/\∀ p∈(resL rs r nm).2.1,CellR cx.w0.heap.size w.heap ok' ec oc p.1 p.2
 | [],[],r,ws,h=>by
  simp [resT,T.evs] at h
  subst h
  exact ⟨[],rfl,by simp,fun nm=>⟨[],[],by simp [resL],by simp [resL],by simp [struck],fun _ _ _ _ _ _ _=>by simp [resL,All2]⟩⟩
 | r0 :: rs,x :: rv,r,ws,h=>by
  cases hcl:r0.clo with
  | some gT =>
   obtain ⟨g0,Ts⟩:=gT
   simp only [resT,hcl] at h
   cases x with
   | cell n tt=>simp [T.evs] at h
   | tmp n =>
    obtain ⟨_,h1,h2⟩:=evs_bind_some.1 h
    obtain ⟨l,h3,h4⟩:=evs_bind_some.1 h2
    obtain ⟨⟨v,w1⟩,h5,h6⟩:=evs_bind_some.1 h4
    obtain ⟨⟨vs,w3⟩,h7,h8⟩:=evs_bind_some.1 h6
    simp at h8
    obtain ⟨rfl,rfl⟩:=h8
    obtain ⟨vals,hrun2,hfr,hrest⟩:=resT_ok ht hw hB hR hno h7
    have hnop:=evs_guard.1 h1
    have hl:=rd1_ok hR h3
    unfold cloT at h5
    split at h5
    · rename_i g' ca
      obtain ⟨_,h9,h10⟩:=evs_bind_some.1 h5
      have hg:=Nat.eq_of_beq_eq_true (evs_guard.1 h9)
      subst hg
      obtain ⟨us0,us,e0,q1,q2⟩:=hl
      have hus0:us0=#[]:=by
       have:=q1.len
       simpa using this.symm
      obtain ⟨hlen,hfz,hbx⟩:=boxesT_ok hw hB (hno hnop) h10 q2
      refine ⟨(.func (.func g0) #[] us) :: vals,?_,fun p hp hne=>?_,fun nm=>?_⟩
      · simp only [List.mapM_cons,Sem.run_bind,hrun2,Result.andThen_ok,Sem.run_pure,rvRun]
        rw [show act.tmps.getD n undef = .func (.func g0) #[] us from by
         have:act.tmps.getD n undef = .func (.func g0) us0 us:=e0
         rw [this,hus0]]
      · rcases List.mem_append.1 hp with hp | hp
        · exact hfz p hp hne
        · exact hfr p hp hne
      · obtain ⟨V,K,m1,m2,m3,m4⟩:=hrest (nm+Ts.length)
        obtain ⟨V0,K0,n1,n2,n3⟩:=hbx nm
        have hres:(resL (r0 :: rs) (v,vs) nm)=(.one (.clo g0 [] (capsN nm Ts.length)) :: (resL rs vs (nm+Ts.length)).1,boxesL r0.t v Ts nm ++ (resL rs vs (nm+Ts.length)).2.1,(resL rs vs (nm+Ts.length)).2.2):=by simp only [resL,hcl]
        rw [hres]
        refine ⟨V0 ++ V,K0 ++ K,?_,?_,?_,fun ns ok' ec oc hns hto ho=>?_⟩
        · rw [List.map_append,n1,m1]
          simp only
          rw [show (resL rs vs (nm+Ts.length)).2.2 - nm=Ts.length+((resL rs vs (nm+Ts.length)).2.2 - (nm+Ts.length)) by omega,<-List.range'_append_1]
        · simp only;omega
        · rw [List.map_append,n2,m3,struck_append]
        · have ho1:Outs own cx.w0.heap.size V0 K0 ec oc:=⟨fun p hp=>ho.val p (List.mem_append_left _ hp),fun p hp=>ho.row p (List.mem_append_left _ hp)⟩
          have ho2:Outs own cx.w0.heap.size V K ec oc:=⟨fun p hp=>ho.val p (List.mem_append_right _ hp),fun p hp=>ho.row p (List.mem_append_right _ hp)⟩
          obtain ⟨j1,j2⟩:=m4 ns ok' ec oc (fun p hp=>hns p (List.mem_append_right _ hp)) hto ho2
          obtain ⟨i1,i2⟩:=n3 ns ok' ec oc (fun p hp=>hns p (List.mem_append_left _ hp)) hto ho1
          refine ⟨⟨⟨#[],us,rfl,trivial,i1⟩,j1⟩,fun p hp=>?_⟩
          rcases List.mem_append.1 hp with hp | hp
          · exact i2 p hp
          · exact j2 p hp
    · simp [T.evs] at h5
  | none =>
   simp only [resT,hcl] at h
   obtain ⟨ys,h1,h2⟩:=evs_bind_some.1 h
   obtain ⟨⟨zs,w1⟩,h3,h4⟩:=evs_bind_some.1 h2
   obtain ⟨⟨v,rest,w2⟩,h5,h6⟩:=evs_bind_some.1 h4
   obtain ⟨_,h7,h8⟩:=evs_bind_some.1 h6
   obtain ⟨⟨vs,w3⟩,h9,h10⟩:=evs_bind_some.1 h8
   simp at h10
   obtain ⟨rfl,rfl⟩:=h10
   have:=rest_nil h7
   subst this
   obtain ⟨val,hrun,hys,hval⟩:=resV_ok ht hB hR h1
   obtain ⟨z1,hz,hrel⟩:=packT_rel h5
   rw [List.append_nil] at hz
   subst hz
   obtain ⟨vals,hrun2,hfr,hrest⟩:=resT_ok ht hw hB hR hno h9
   have hno:=fun nm=>(outV_names (nm:=nm) h3 hys.len)
   have hf2:Frz fs w2:=by
    exact packT_frz h5
   refine ⟨val :: vals,?_,fun p hp hne=>?_,fun nm=>?_⟩
   · simp only [List.mapM_cons,Sem.run_bind,hrun,Result.andThen_ok,hrun2,Sem.run_pure]
   · rcases List.mem_append.1 hp with hp | hp
     · exact absurd ((hno 0).2.2.2 p hp) hne
     · rcases List.mem_append.1 hp with hp | hp
       · exact hf2 p hp
       · exact hfr p hp hne
   · obtain ⟨n1,n2,n3,n4⟩:=hno nm
     have hk:(ownL (flat r0.t v) r0.own nm).2.2=(outV ys r0.own val.cells.toList nm).2.2:=by
      have:∀ {ys zs xs:List Lf} {os:List (Option TypeId)} {w1:Ws} {cs:List Value} {nm:Nat},(outL ys os).evs fs=some (zs,w1)->All2 (fun z x=>PR fs z x/\OwnIn w2 z) zs xs->ys.length=cs.length->(ownL xs os nm).2.2=(outV ys os cs nm).2.2:=by
       intro ys
       induction ys with
       | nil =>
        intro zs xs os w1 cs nm h hp hl
        have h':zs=[]:=by cases os <;> (simp [outL,T.evs] at h;exact h.1.symm ▸ rfl)
        subst h'
        cases xs with
        | cons _ _=>exact hp.elim
        | nil=>cases cs with
         | cons _ _=>simp at hl
         | nil=>cases os <;> simp [ownL,outV]
       | cons y ys ih =>
        intro zs xs os w1 cs nm h hp hl
        cases cs with
        | nil=>simp at hl
        | cons c cs =>
        cases os with
        | nil=>simp [outL,T.evs] at h
        | cons o os =>
         cases o with
         | none =>
          simp only [outL] at h
          obtain ⟨⟨zs',u2⟩,q3,q4⟩:=evs_bind_some.1 h
          simp at q4
          obtain ⟨rfl,rfl⟩:=q4
          cases xs with
          | nil=>exact hp.elim
          | cons x xs =>
           have:ownL (x :: xs) (none :: os) nm=(x :: (ownL xs os nm).1,(ownL xs os nm).2):=by
            cases x <;> first | rfl | (rename_i t v;cases t <;> rfl)
           rw [this]
           simp only [outV]
           exact ih q3 hp.2 (by simpa using hl)
         | some tt =>
          simp only [outL] at h
          obtain ⟨⟨z,u1⟩,q1,q2⟩:=evs_bind_some.1 h
          obtain ⟨⟨zs',u2⟩,q3,q4⟩:=evs_bind_some.1 q2
          simp at q4
          obtain ⟨rfl,rfl⟩:=q4
          cases xs with
          | nil=>exact hp.elim
          | cons x xs =>
           have hx:∃ e l,x = .imm (.slice e) l:=by
            split at q1
            · obtain ⟨cl,h5,h6⟩:=evs_bind_some.1 q1
              split at h6
              · obtain ⟨_,h7,h8⟩:=evs_bind_some.1 h6
                simp at h8
                obtain ⟨rfl,rfl⟩:=h8
                have:=hp.1.1
                cases this with
                | raw x h=>simp [Lf.isRaw] at h
                | imm t v=>exact ⟨_,_,rfl⟩
              · simp [T.evs] at h6
            · simp [T.evs] at q1
              obtain ⟨rfl,rfl⟩:=q1
              have:=hp.1.1
              cases this with
              | raw x h=>simp [Lf.isRaw] at h
              | nil e=>exact ⟨_,_,rfl⟩
            · simp [T.evs] at q1
           obtain ⟨e,l,rfl⟩:=hx
           simp only [ownL,outV]
           exact ih q3 hp.2 (by simpa using hl)
      exact this h3 hrel hys.len
     obtain ⟨V,K,m1,m2,m3,m4⟩:=hrest (ownL (flat r0.t v) r0.own nm).2.2
     have hres:(resL (r0 :: rs) (v,vs) nm).2.2=(resL rs vs (ownL (flat r0.t v) r0.own nm).2.2).2.2:=by simp only [resL,hcl]
     refine ⟨(outV ys r0.own val.cells.toList nm).1 ++ V,(outV ys r0.own val.cells.toList nm).2.1 ++ K,?_,?_,?_,fun ns ok' ec oc hns hto ho=>?_⟩
     · rw [hres,List.map_append,n1,m1,hk]
       rw [hk] at m2
       rw [show (resL rs vs (outV ys r0.own val.cells.toList nm).2.2).2.2 - nm=((outV ys r0.own val.cells.toList nm).2.2 - nm)+((resL rs vs (outV ys r0.own val.cells.toList nm).2.2).2.2 - (outV ys r0.own val.cells.toList nm).2.2) by omega,<-List.range'_append_1]
       congr 2
       omega
     · rw [hres];rw [hk] at m2 ⊢;omega
     · rw [List.map_append,n3,m3,struck_append,struck_append (a:=w2),struck_frz hf2,List.nil_append]
     · have ho1:Outs own cx.w0.heap.size (outV ys r0.own val.cells.toList nm).1 (outV ys r0.own val.cells.toList nm).2.1 ec oc:=⟨fun p hp=>ho.val p (List.mem_append_left _ hp),fun p hp=>ho.row p (List.mem_append_left _ hp)⟩
       have ho2:Outs own cx.w0.heap.size V K ec oc:=⟨fun p hp=>ho.val p (List.mem_append_right _ hp),fun p hp=>ho.row p (List.mem_append_right _ hp)⟩
       obtain ⟨i1,i2,_⟩:=leaf_out hB hto (w2:=w2) (fun p hp=>hns p (List.mem_append_right _ (List.mem_append_left _ hp)) (by obtain ⟨m,T,e,l,_,q⟩:=hf2 p hp;rw [q];intro hq;cases hq)) h3 hrel hys ho1
       obtain ⟨j1,j2⟩:=m4 ns ok' ec oc (fun p hp=>hns p (List.mem_append_right _ (List.mem_append_right _ hp))) hto ho2
       simp only [resL,hcl]
       refine ⟨⟨?_,j1⟩,fun p hp=>?_⟩
       · rw [hval]
         simp only [mkVal]
         cases hagg:r0.t.isAgg with
         | true=>exact ⟨_,rfl,i1⟩
         | false =>
          have hsz:r0.t.size=1:=size_one hagg
          have hone:val.cells.toList.length=1:=by
           have h1:=i1.len
           have h2:=hrel.len
           have h3':zs.length=ys.length:=by
            have:∀ {ys zs:List Lf} {os:List (Option TypeId)} {w1:Ws},(outL ys os).evs fs=some (zs,w1)->zs.length=ys.length:=by
             intro ys
             induction ys with
             | nil=>intro zs os w1 h;cases os <;> (simp [outL,T.evs] at h;simp [<-h.1])
             | cons y ys ih =>
              intro zs os w1 h
              cases os with
              | nil=>simp [outL,T.evs] at h
              | cons o os =>
               cases o with
               | none =>
                simp only [outL] at h
                obtain ⟨⟨zs',u2⟩,q3,q4⟩:=evs_bind_some.1 h
                simp at q4
                rw [<-q4.1];simp [ih q3]
               | some tt =>
                simp only [outL] at h
                obtain ⟨⟨z,u1⟩,q1,q2⟩:=evs_bind_some.1 h
                obtain ⟨⟨zs',u2⟩,q3,q4⟩:=evs_bind_some.1 q2
                simp at q4
                rw [<-q4.1];simp [ih q3]
            exact this h3
           have h4:=hys.len
           rw [flat_len,hsz,h3',h4] at h2
           exact h2
          match hcs:val.cells.toList,hone with
          | [c],_ =>
           rw [hcs] at i1
           match hys':(ownL (flat r0.t v) r0.own nm).1,i1 with
           | [y],i1=>simpa [A1R] using i1.1
       · rcases List.mem_append.1 hp with hp | hp
         · exact i2 p hp
         · exact j2 p hp
 | [],_ :: _,_,_,h=>by simp [resT,T.evs] at h
 | _ :: _,[],_,_,h=>by simp [resT,T.evs] at h
end
end Go.VI
namespace Go.VI
open Go Go.RowKit
section
variable {P:Program} {te:TE} {tbl:Tbl} {ann:Ann}
theorem oT_ok {cx:Cx} {fs:FS} {w:World} {env:Nm} {own:Ow} (hB:RB cx fs w env own) {ok':Nat->Prop} {ns:List Nat} (hto:To cx w own ns ok'):∀ {ps:List PTy} {gs:List Nat} {i:Nat} {u:Oden ps} {ws:Ws},(oT ps i).evs fs=some (u,ws)->BsOk ps gs ->
 (∀ p∈fixL ps gs i,env p.1=some (ptrV p.2))->(∀ p∈ws,p.1∈ns)->Frz fs ws/\OutR w.heap ok' ps u gs
 | [],gs,i,u,ws,h,_,_,_=>by
  simp [oT,T.evs] at h
  subst h
  exact ⟨Frz.nil,trivial⟩
 | .val _ :: ps,gs,i,u,ws,h,hb,hf,hn=>oT_ok hB hto (ps:=ps) h hb hf hn
 | .ptr tt t :: ps,g :: gs,i,u,ws,h,hb,hf,hn=>by
  simp only [oT] at h
  obtain ⟨c,h1,h2⟩:=evs_bind_some.1 h
  simp only [evs_rdB,Option.some.injEq] at h1
  subst h1
  split at h2
  · rename_i T' xs hfs
    obtain ⟨_,h3,h4⟩:=evs_bind_some.1 h2
    obtain ⟨⟨v,rest,w1⟩,h5,h6⟩:=evs_bind_some.1 h4
    obtain ⟨_,h7,h8⟩:=evs_bind_some.1 h6
    obtain ⟨⟨vs,w2⟩,h9,h10⟩:=evs_bind_some.1 h8
    simp at h10
    obtain ⟨rfl,rfl⟩:=h10
    have:=rest_nil h7
    subst this
    have hT:=Nat.eq_of_beq_eq_true (evs_guard.1 h3)
    subst hT
    have hbb:=hB i
    rw [hfs] at hbb
    obtain ⟨g',cs,e1,e2,e3,e4⟩:=hbb
    have he:=hf (i,g) (by simp [fixL])
    rw [e1] at he
    simp [ptrV] at he;subst he
    obtain ⟨f1,f2⟩:=packT_all hB h5 e3
    obtain ⟨f3,f4⟩:=oT_ok hB hto (ps:=ps) h9 hb (fun p hp=>hf p (List.mem_cons_of_mem _ hp)) (fun p hp=>hn p (by simp [hp]))
    exact ⟨f1.append f3,⟨cs,e2,hto.fits (f2 ns fun p hp=>hn p (by simp [hp]))⟩,f4⟩
  · simp [T.evs] at h2
 | .ptr _ _ :: _,[],_,_,_,_,hb,_,_=>hb.elim
theorem oT_frz {fs:FS}:∀ {ps:List PTy} {i:Nat} {u:Oden ps} {ws:Ws},(oT ps i).evs fs=some (u,ws)->∀ p∈ws,p.2≠.no
 | [],i,u,ws,h=>by
  simp [oT,T.evs] at h
  subst h
  simp
 | .val _ :: ps,i,u,ws,h=>oT_frz (ps:=ps) h
 | .ptr tt t :: ps,i,u,ws,h=>by
  simp only [oT] at h
  obtain ⟨c,h1,h2⟩:=evs_bind_some.1 h
  split at h2
  · obtain ⟨_,h3,h4⟩:=evs_bind_some.1 h2
    obtain ⟨⟨v,rest,w1⟩,h5,h6⟩:=evs_bind_some.1 h4
    obtain ⟨_,h7,h8⟩:=evs_bind_some.1 h6
    obtain ⟨⟨vs,w2⟩,h9,h10⟩:=evs_bind_some.1 h8
    simp at h10
    obtain ⟨rfl,rfl⟩:=h10
    intro p hp
    rcases List.mem_append.1 hp with hp | hp
    · obtain ⟨m,T,e,l,_,q⟩:=packT_frz h5 p hp
      rw [q];intro hq;cases hq
    · exact oT_frz (ps:=ps) h9 p hp
  · simp [T.evs] at h2
theorem results_eq (fn:Func) (tm:Array Value):results fn tm=(fn.results.mapM (rvRun tm) >>= fun vs=>pure (if h:vs.size=1 then vs[0] else .tuple vs)):=by
 unfold results
 congr 1
def finT (te:TE) (rs:List RTy) (rv:List ResultVar) (ps:List PTy) (st:List Wr):Tree (Rden rs × Oden ps) :=
 (T.run (look st) (do
  let (r,w1) <-resT te (ps.all PTy.isVal) rs rv
  let (u,w2) <-oT ps 0
  guardT (outOk (w1 ++ w2))
  pure (r,u)) []).bind fun x=>.leaf x.1
theorem fun_any (ht:TEok P te) (E:Entry) {fn:Func} {c:Code} (hf:P.funcs[E.f]?=some fn) (hb:fn.body=some c) (hps:E.sh.length<=fn.ntmps)
 (hC:∀ d r,E.F d=some r->∀ (cx:Cx) (act:Act) (w:World) (Q:Exit->Act->World->Prop),St cx fn.ntmps (look (entryW E.sh E.ps d)) act w (· < E.ps.length) ->
  (∀ e nx W act' w',(∀ id,e≠Ex.exit id)->(finT te E.rs fn.results.toList E.ps (W ++ entryW E.sh E.ps d)).ev=some r->St cx fn.ntmps (look (W ++ entryW E.sh E.ps d)) act' w' (· < nx)->Q (exOf e) act' w')->c.wp P Q act w):E.Sound P:=by
 intro w ok d args gs r ha _ hr nm
 have hlen:=ha.lt.2
 have hbs:BsOk E.ps gs:=by
  have:∀ {ps:List PTy} {d:Pden ps} {args:List Value} {gs:List Nat},ArgsR w.heap ok ps d args gs->BsOk ps gs:=by
   intro ps
   induction ps with
   | nil=>intro d args gs h;cases args <;> cases gs <;> first | trivial | exact h.elim
   | cons p ps ih =>
    intro d args gs h
    cases args with
    | nil=>cases p <;> exact h.elim
    | cons a args =>
     cases p with
     | val t=>exact ih h.2
     | ptr T t=>cases gs with
      | nil=>exact h.elim
      | cons g gs=>exact ih h.2.2.2.2
  exact this ha
 have hS:=start_ok ha hps
 generalize hcx:(⟨w,ok,(·∈gs),fun b=>(lk (fixL E.ps gs 0) b).map ptrV⟩:Cx)=cx at hS
 refine calls_of_wp hf hb (hC d r hr cx _ w _ hS fun e nx W act w' hne hfin hS'=>?_)
 have fin:((T.run (look (W ++ entryW E.sh E.ps d)) (do
  let (r,w1) <-resT te (E.ps.all PTy.isVal) E.rs fn.results.toList
  let (u,w2) <-oT E.ps 0
  guardT (outOk (w1 ++ w2))
  pure (r,u)) []).bind fun x=>Tree.leaf x.1).ev=some r->act.defers=[]/\∃ v,(results fn act.tmps).run P w' = .ok v w'/\∃ vals env own,Ending.returned v = .returned (packV vals)/\Returns E w ok gs r nm w' vals env own:=by
  intro hfin
  obtain ⟨x,rs,q1,q2⟩:=evs_of_run hfin
  simp [Tree.ev] at q2;subst q2
  obtain ⟨⟨rr,w1⟩,q3,q4⟩:=evs_bind_some.1 q1
  obtain ⟨⟨u,w2⟩,q5,q6⟩:=evs_bind_some.1 q4
  obtain ⟨_,q7,q8⟩:=evs_bind_some.1 q6
  simp at q8;subst q8
  have hout:=outOk_spec (evs_guard.1 q7)
  obtain ⟨env,own,hw,hB,hR⟩:=hS'.ex
  have hno:E.ps.all PTy.isVal=true->∀ g,¬cx.outer g:=fun hv g hg=>by
   rw [<-hcx] at hg
   have:∀ {ps:List PTy} {gs:List Nat},ps.all PTy.isVal=true->BsOk ps gs->gs=[]:=by
    intro ps
    induction ps with
    | nil=>intro gs _ h;cases gs with
     | nil=>rfl
     | cons _ _=>exact h.elim
    | cons p ps ih=>intro gs hv h;cases p with
     | val t=>exact ih (by simpa [PTy.isVal] using hv) h
     | ptr T t=>simp [PTy.isVal] at hv
   rw [this hv hbs] at hg
   cases hg
  obtain ⟨vals,hvals,hfr,hres⟩:=resT_ok ht hw hB hR hno q3
  obtain ⟨V,K,hV,hVle,hK,hres⟩:=hres nm
  have hw0:cx.w0=w:=by rw [<-hcx]
  have hok0:cx.ok0=ok:=by rw [<-hcx]
  let ec:Nm:=lk V
  let oc:Ow:=fun g=>if w.heap.size<=g then (own g).bind (lk K) else none
  let ns:List Nat:=(w1 ++ w2).filterMap fun p=>if p.2.live then some p.1 else none
  have hlive:∀ c:Cell,c≠.no->c.live=true:=fun c hc=>by cases c <;> first | rfl | exact absurd rfl hc
  have hns:∀ p∈w1 ++ w2,p.2≠.no->p.1∈ns:=fun p hp hne=>List.mem_filterMap.2 ⟨p,hp,by rw [if_pos (hlive _ hne)]⟩
  have hKn:(K.map (·.1)).Nodup:=by
   rw [hK]
   have:=hout.1
   rw [struck_append] at this
   exact (List.nodup_append.1 this).1
  have hVn:(V.map (·.1)).Nodup:=by rw [hV];exact List.nodup_range'
  have hnsK:∀ b∈ns,lk K b=none:=fun b hb=>lk_none fun v hv=>by
   obtain ⟨p,hp,he⟩:=List.mem_filterMap.1 hb
   split at he
   · rename_i hl
     simp only [Option.some.injEq] at he
     have hne:p.2≠.no:=fun h0=>by rw [h0] at hl;cases hl
     refine hout.2 p hp hne ?_
     rw [struck_append,he]
     have:b∈K.map (·.1):=List.mem_map.2 ⟨_,hv,rfl⟩
     rw [hK] at this
     exact List.mem_append_left _ this
   · cases he
  have hto:To cx w' own ns (okAt ok oc w.heap.size):=⟨fun c hc=>by
   refine ⟨?_,by rw [<-hok0,<-hw0];exact hc.2⟩
   simp only [oc]
   split
   · cases ho:own c with
     | none=>rfl
     | some b =>
      by_cases hm:b∈ns
      · exact hnsK b hm
      · have:=hc.1
        rw [unown_out ho hm] at this
        cases this
   · rfl⟩
  have houts:Outs own cx.w0.heap.size V K ec oc:=⟨fun p hp=>lk_of hVn hp,fun p hp g hg hB=>by
   simp only [oc]
   rw [hw0] at hB
   rw [if_pos hB,hg]
   exact lk_of hKn hp⟩
  obtain ⟨r1,r2⟩:=hres ns (okAt ok oc w.heap.size) ec oc (fun p hp=>hns p (List.mem_append_left _ hp)) hto houts
  obtain ⟨_,r3⟩:=oT_ok hB hto q5 hbs (fun p hp=>hw.fix p.1 (ptrV p.2) (by
   rw [<-hcx]
   simp only
   rw [lk_of (fixL_nodup1) (show (p.1,p.2)∈_ from hp)];rfl)) (fun p hp=>hns p (List.mem_append_right _ hp) (oT_frz q5 p hp))
  rw [hw0] at r2
  refine ⟨hS'.defers,packV vals,?_,vals,ec,oc,rfl,⟨⟨by rw [<-hw0];exact hw.os,by rw [<-hw0];exact hw.tape,by rw [<-hw0];exact hw.output,by rw [<-hw0];exact hw.size,fun c hc hg=>?_⟩,fun c hc=>?_,fun b hb=>?_,r1,r2,r3⟩⟩
  · have hm:(fn.results.toList.mapM (rvRun act.tmps)).run P w' = .ok vals w':=hvals
    rw [results_eq,Array.mapM_eq_mapM_toList]
    simp only [Sem.run_bind,Sem.run_map,hm,Result.andThen_ok,Sem.run_pure]
    congr 1
    match vals with
    | []=>rfl
    | [v]=>rfl
    | _ :: _ :: _=>rfl
  · rw [<-hw0] at hc ⊢
    exact (hw.old c hc (by rw [<-hcx];exact hg)).2
  · simp only [oc] at hc
    split at hc
    · rename_i hle
      refine ⟨hle,?_⟩
      cases ho:own c with
      | none=>simp [ho] at hc
      | some b=>exact hw.lt ho
    · exact absurd rfl hc
  · cases hl:lk V b with
    | none=>exact absurd hl hb
    | some v =>
     have:b∈V.map (·.1):=List.mem_map.2 ⟨_,lk_mem hl,rfl⟩
     rw [hV] at this
     have:=List.mem_range'_1.1 this
     show nm<=b/\b < (resL E.rs rr nm).2.2
     omega
 cases e with
 | normal=>exact fin hfin
 | exit id=>exact absurd rfl (hne id)
 | ret=>exact fin hfin
theorem fun_sound (ht:TEok P te) (hT:tbl.Sound P) (hmix:P.follows .mixedOrders=true) (E:Entry) {fn:Func} {c:Code} (hf:P.funcs[E.f]?=some fn) (hb:fn.body=some c) (hps:E.sh.length<=fn.ntmps)
 (hF:∀ d r,E.F d=some r->(funT te tbl ann fn.ntmps c fn.results.toList E.sh E.ps E.rs d).ev=some r):E.Sound P:=by
 refine fun_any (te:=te) ht E hf hb hps fun d r hr cx act w Q hS hQ=>?_
 have hr:=hF d r hr
 unfold funT at hr
 rw [Tree.ev_bind] at hr
 cases hrun:(runCode te tbl ann fn.ntmps c 0 E.ps.length (entryW E.sh E.ps d)).ev with
 | none=>simp [hrun] at hr
 | some o =>
  obtain ⟨e,nx,W⟩:=o
  simp only [hrun,Option.bind_some] at hr
  refine code_wp ht hT hmix c 0 E.ps.length _ _ _ w _ hrun hS fun act' w' hS'=>?_
  cases e with
  | normal=>exact hQ .normal nx W act' w' (fun _ h=>by cases h) hr hS'
  | exit id=>simp [Tree.ev] at hr
  | ret=>exact hQ .ret nx W act' w' (fun _ h=>by cases h) hr hS'
end
end Go.VI
namespace Go.VI
open Go Go.RowKit
def zB:Ty->List Value->Option (List Value)
 | .bool,.bool false :: r=>some r
 | .int k,.int k' n :: r=>cond (decide (k=k') && n == 0) (some r) none
 | .slice _,.slice none 0 0 :: r=>some r
 | .prod a b,xs=>(zB a xs).bind fun r=>zB b r
 | .unit,xs=>some xs
 | .raw .fn,.nilFunc :: r=>some r
 | .raw .map,.map none :: r=>some r
 | .raw .ifc,.nilIface :: r=>some r
 | .raw .ptr,.pointer none :: r=>some r
 | .ifo _ _,.nilIface :: r=>some r
 | _,_=>none
theorem zB_ok:∀ {t:Ty} {xs r:List Value},zB t xs=some r->xs=zeroV t ++ r
 | .bool,xs,r,h=>by
  unfold zB at h
  split at h <;> simp_all [zeroV]
 | .int k,xs,r,h=>by
  match xs,h with
  | .int k' n :: r',h =>
   simp only [zB] at h
   cases hc:(decide (k=k') && n == 0) with
   | false=>simp [hc] at h
   | true =>
    simp [hc] at h;subst h
    simp only [Bool.and_eq_true,decide_eq_true_eq,beq_iff_eq] at hc
    obtain ⟨rfl,rfl⟩:=hc
    rfl
  | [],h=>simp [zB] at h
 | .slice _,xs,r,h=>by
  unfold zB at h
  split at h <;> simp_all [zeroV]
 | .prod a b,xs,r,h=>by
  simp only [zB] at h
  obtain ⟨r1,h1,h2⟩:=Option.bind_eq_some_iff.1 h
  rw [zB_ok h1,zB_ok h2]
  simp [zeroV]
 | .unit,xs,r,h=>by simp [zB] at h;simp [zeroV,h]
 | .raw k,xs,r,h=>by
  cases k <;> (unfold zB at h;split at h <;> simp_all [zeroV])
 | .ifo _ _,xs,r,h=>by
  unfold zB at h;split at h <;> simp_all [zeroV]
def infoB (P:Program) (t:TypeId) (ty:Ty) (f:TypeInfo->Bool):Bool:=match P.info? t with
 | some i=>Nat.beq i.size ty.size && f i
 | none=>false
def zeroB (ty:Ty) (i:TypeInfo):Bool:=match i.zero with
 | some z=>match zB ty z.cells.toList with
  | some []=>true
  | _=>false
 | none=>false
def aggB (P:Program) (t:TypeId) (ty:Ty):Bool:=match P.underlying t with
 | some d=>aggD d == ty.isAgg
 | none=>false
def fieldsB (P:Program):List Field->List (Nat × Ty)->Bool
 | [],[]=>true
 | f :: fs,p :: ps=>Nat.beq f.offset p.1 && infoB P f.type p.2 (fun _=>true) && Nat.blt 0 p.2.size && aggB P f.type p.2 && fieldsB P fs ps
 | _,_=>false
def placesB (e:Ty):Nat->Nat->List (Nat × Ty)->Bool
 | 0,_,[]=>true
 | n+1,k,p :: ps=>Nat.beq p.1 (k*e.size) && Ty.eqb p.2 e && placesB e n (k+1) ps
 | _,_,_=>false
def arrB (P:Program) (r:Row):Bool:=match r.arr with
 | none=>true
 | some (n,e)=>r.ty.isAgg && (match P.underlying r.t with
  | some (.array m t)=>Nat.beq m n && Nat.beq t r.elem
  | _=>false) && infoB P r.elem e (fun _=>true) && Nat.blt 0 e.size && aggB P r.elem e && placesB e n 0 r.fields
def rowB (P:Program) (r:Row):Bool :=
 infoB P r.t r.ty (zeroB r.ty) && aggB P r.t r.ty &&
 (match r.ty with
  | .int k=>(match P.underlying r.t with
   | some (.int k')=>decide (k'=k)
   | _=>false)
  | .slice e=>(match P.underlying r.t with
   | some (.slice t)=>Nat.beq t r.elem
   | _=>false) && infoB P r.elem e (fun i=>Nat.beq i.bytes r.bytes && zeroB e i) && Nat.blt 0 e.size && Nat.blt 0 r.bytes
  | _=>true) &&
 cond r.isStruct (match P.underlying r.t with
  | some (.struct fs)=>fieldsB P fs.toList r.fields
  | _=>false) true &&
 arrB P r &&
 cond r.cmp (!P.eqGuardType P.depth r.t && compB P 20 r.t r.ty) true
section
variable {P:Program} {te:TE}
theorem infoB_ok {t:TypeId} {ty:Ty} {f:TypeInfo->Bool} (h:infoB P t ty f=true):∃ i,P.info? t=some i/\i.size=ty.size/\f i=true:=by
 unfold infoB at h
 split at h
 · rename_i i hi
   simp only [Bool.and_eq_true] at h
   exact ⟨i,hi,Nat.eq_of_beq_eq_true h.1,h.2⟩
 · cases h
theorem zeroB_ok {ty:Ty} {i:TypeInfo} (h:zeroB ty i=true):∃ z,i.zero=some z/\z.cells.toList=zeroV ty:=by
 unfold zeroB at h
 split at h
 · rename_i z hz
   split at h
   · rename_i h2
     exact ⟨z,hz,by simpa using zB_ok h2⟩
   · cases h
 · cases h
theorem aggB_ok {t:TypeId} {ty:Ty} (h:aggB P t ty=true):∃ d,P.underlying t=some d/\aggD d=ty.isAgg:=by
 unfold aggB at h
 split at h
 · rename_i d hd
   exact ⟨d,hd,by simpa using h⟩
 · cases h
theorem fieldsB_ok:∀ {fs:List Field} {ps:List (Nat × Ty)},fieldsB P fs ps=true->fs.length=ps.length/\∀ (j:Nat) f,fs[j]?=some f->∃ p,ps[j]?=some p/\f.offset=p.1/\∃ i d,P.info? f.type=some i/\i.size=p.2.size/\0 < p.2.size/\P.underlying f.type=some d/\aggD d=p.2.isAgg
 | [],[],_=>⟨rfl,fun j f h=>by simp at h⟩
 | f :: fs,p :: ps,h=>by
  simp only [fieldsB,Bool.and_eq_true] at h
  obtain ⟨⟨⟨⟨h1,h2⟩,h3⟩,h4⟩,h5⟩:=h
  obtain ⟨e,k⟩:=fieldsB_ok h5
  refine ⟨by simp [e],fun j g hg=>?_⟩
  cases j with
  | zero =>
   simp at hg;subst hg
   obtain ⟨i,hi,hs,_⟩:=infoB_ok h2
   obtain ⟨d,hd,ha⟩:=aggB_ok h4
   exact ⟨p,rfl,Nat.eq_of_beq_eq_true h1,i,d,hi,hs,by simpa using h3,hd,ha⟩
  | succ j=>exact k j g (by simpa using hg)
 | [],_ :: _,h=>by simp [fieldsB] at h
 | _ :: _,[],h=>by simp [fieldsB] at h
theorem placesB_ok {e:Ty}:∀ {n k:Nat} {ps:List (Nat × Ty)},placesB e n k ps=true->ps=(List.range' k n).map fun j=>(j*e.size,e)
 | 0,k,[],_=>rfl
 | n+1,k,(a,b) :: ps,h=>by
  simp only [placesB,Bool.and_eq_true] at h
  rw [List.range'_succ,List.map_cons,<-placesB_ok h.2,Nat.eq_of_beq_eq_true h.1.1,Ty.eqb_eq h.1.2]
 | 0,_,_ :: _,h=>by simp [placesB] at h
 | _+1,_,[],h=>by simp [placesB] at h
theorem rowB_ok {r:Row} (h:rowB P r=true):RowOk P te r:=by
 unfold rowB at h
 simp only [Bool.and_eq_true] at h
 obtain ⟨⟨⟨⟨⟨h1,h2⟩,h3⟩,h4⟩,h6⟩,h5⟩:=h
 obtain ⟨i,hi,hs,hz⟩:=infoB_ok h1
 obtain ⟨z,hz1,hz2⟩:=zeroB_ok hz
 refine ⟨⟨i,z,hi,hs,hz1,hz2⟩,aggB_ok h2,fun k hk=>?_,fun e he=>?_,fun ha hna=>?_,fun n e hra=>?_,fun hc=>?_⟩
 · rw [hk] at h3
   simp only at h3
   split at h3
   · rename_i k' hu
     rw [hu,of_decide_eq_true h3]
   · cases h3
 · rw [he] at h3
   simp only [Bool.and_eq_true] at h3
   obtain ⟨⟨⟨q1,q2⟩,q3⟩,q4⟩:=h3
   obtain ⟨j,hj,hjs,hjf⟩:=infoB_ok q2
   simp only [Bool.and_eq_true] at hjf
   obtain ⟨y,hy1,hy2⟩:=zeroB_ok hjf.2
   split at q1
   · rename_i t hu
     exact ⟨by rw [hu,Nat.eq_of_beq_eq_true q1],j,y,hj,hjs,Nat.eq_of_beq_eq_true hjf.1,by simpa using q3,by simpa using q4,hy1,hy2⟩
   · cases q1
 · rw [show r.isStruct=true by simp [Row.isStruct,ha,hna],cond_true] at h4
   split at h4
   · rename_i fs hu
     obtain ⟨e,k⟩:=fieldsB_ok h4
     exact ⟨fs,hu,by simpa using e,fun j f hf=>k j f (by simpa using hf)⟩
   · cases h4
 · unfold arrB at h6
   rw [hra] at h6
   simp only [Bool.and_eq_true] at h6
   obtain ⟨⟨⟨⟨⟨q1,q2⟩,q3⟩,q4⟩,q5⟩,q6⟩:=h6
   obtain ⟨j,hj,hjs,_⟩:=infoB_ok q3
   obtain ⟨d,hd,hda⟩:=aggB_ok q5
   split at q2
   · rename_i m t hu
     simp only [Bool.and_eq_true] at q2
     refine ⟨q1,by rw [hu,Nat.eq_of_beq_eq_true q2.1,Nat.eq_of_beq_eq_true q2.2],j,d,hj,hjs,by simpa using q4,hd,hda,?_⟩
     rw [placesB_ok q6,List.range_eq_range']
   · cases q2
 · rw [hc,cond_true] at h5
   simpa using h5
theorem TEok.of (h:te.all (rowB P)=true):TEok P te:=by
 have:∀ te':TE,(∀ r∈te',r∈te)->∀ t r,te'.find t=some r->r.t=t/\r∈te:=by
  intro te'
  induction te' with
  | nil=>intro _ t r h;simp [TE.find] at h
  | cons r' te' ih =>
   intro hm t r hf
   simp only [TE.find] at hf
   cases hb:Nat.beq r'.t t with
   | true =>
    simp [hb] at hf;subst hf
    exact ⟨Nat.eq_of_beq_eq_true hb,hm _ (by simp)⟩
   | false =>
    simp [hb] at hf
    exact ih (fun r hr=>hm r (by simp [hr])) t r hf
 intro t r hf
 obtain ⟨h1,h2⟩:=this te (fun _ h=>h) t r hf
 exact ⟨h1,rowB_ok (List.all_eq_true.1 h r h2)⟩
theorem Tbl.sound_nil:Tbl.Sound P []:=fun E h=>by cases h
theorem Tbl.sound_more {E:Ent} {tbl:Tbl} (h1:Enters P E.f) (h2:E.Sound P) (h3:Tbl.Sound P tbl):Tbl.Sound P (E :: tbl):=fun E' h=>by
 rcases List.mem_cons.1 h with rfl | h
 · exact ⟨h1,h2⟩
 · exact h3 E' h
theorem Tbl.sound_cons {E:Entry} {tbl:Tbl} (h1:Enters P E.f) (h2:E.Sound P) (h3:Tbl.Sound P tbl):Tbl.Sound P (E.ent :: tbl):=Tbl.sound_more h1 h2.ent h3
def bodyOf (f:Func):Code:=f.body.getD .skip
def okF (fn : Func) (n k : Nat) : Bool := !(fn.name == "runtime.NumGoroutine") && fn.body.isSome && Nat.beq k fn.ntmps && Nat.ble n k
theorem ent_ok {tbl:Tbl} {ann:Ann} (ht:TEok P te) (hmix:P.follows .mixedOrders=true) (hT:tbl.Sound P) {fn:Func} {f k:Nat} {sh:List AP} {ps:List PTy} {rs:List RTy} (hf:P.funcs[f]?=some fn) (hk:okF fn sh.length k=true)
 {F:Pden ps->Option (Rden rs × Oden ps)} (hF:F=fun d=>(funT te tbl ann k (bodyOf fn) fn.results.toList sh ps rs d).ev):Enters P f/\(⟨f,sh,ps,rs,F⟩:Entry).Sound P:=by
 simp only [okF,Bool.and_eq_true,Bool.not_eq_true'] at hk
 obtain ⟨⟨⟨h1,h2⟩,h3⟩,h4⟩:=hk
 obtain ⟨c,hc⟩:=Option.isSome_iff_exists.1 h2
 have h3:=Nat.eq_of_beq_eq_true h3
 subst h3
 have hb:bodyOf fn=c:=by simp [bodyOf,hc]
 refine ⟨fun args w=>?_,fun_sound (ann:=ann) ht hT hmix ⟨f,sh,ps,rs,F⟩ hf hc (Nat.le_of_ble_eq_true h4) fun d r h=>?_⟩
 · simp only [beq_eq_false_iff_ne,ne_eq] at h1
   simp [callFunc,hf,h1,hc]
 · subst hF;rw [hb] at h;exact h
end
end Go.VI
namespace Go.VI
open Go Go.RowKit
section
variable {P:Program} {te:TE} {tbl:Tbl} {ann:Ann}
theorem St.put {cx:Cx} {nt:Nat} {st:List Wr} {act:Act} {w:World} {N:Nat->Prop} (hS:St cx nt (look st) act w N) {q:Nat} {v:Value} {c:Cell} (hq:q < nt) (hv:∀ h ok env,SlotR h ok env c v):St cx nt (look (.w (.s q) c :: st)) (act.put (some q) v) w N:=by
 obtain ⟨env,own,h1,h2,h3⟩:=hS.ex
 refine ⟨by rw [defers_put];exact hS.defers,by rw [size_put];exact hS.size,env,own,h1,fun b=>?_,fun n=>?_⟩
 · simp only [look,Loc.eqb,cond_false];exact h2 b
 · rw [getD_put _ _ _ _ (by simp [dstOk,hS.size,hq])]
   by_cases hn:q=n
   · subst hn
     simp only [look,eqb_refl,cond_true,if_true]
     exact hv _ _ _
   · simp only [look]
     rw [eqb_ne (fun e=>hn (by injection e)),cond_false,if_neg (fun e=>hn (by injection e))]
     exact h3 n
theorem nil_test (ht:TEok P te) (hT:tbl.Sound P) (hmix:P.follows .mixedOrders=true) (E:Entry) {fn:Func} {r0 cnd rest:Code} {i1:Nat} {o1 o2:Oper} (hf:P.funcs[E.f]?=some fn) (hb:fn.body=some (.seq r0 (.seq (.seq (.region i1 #[o1,o2] false) cnd) rest))) (hps:E.sh.length<=fn.ntmps)
 {t t' e:TypeId} {s q:Nat} (ho:o2.op = .binOp .eql t (.tmp s) (.const (.slice none 0 0)) t') (hg:o2.guard=none) (hd:o2.dst=some q) (hq:q < fn.ntmps) (hu:P.underlying t=some (.slice e))
 (hrun:∀ d r,E.F d=some r->∃ (W0 W1 Wa W2 W3:List Wr) (n1 na n2 n3:Nat) (ee:Ty) (l:List ee.den),
  (runCode te tbl ann fn.ntmps r0 0 E.ps.length (entryW E.sh E.ps d)).ev=some (.normal,n1,W0)/\(opT te tbl #[o1,o2] fn.ntmps n1 0).evs (look (W0 ++ entryW E.sh E.ps d))=some W1 /\
  look (W1 ++ (W0 ++ entryW E.sh E.ps d)) (.s s) = .av (.v (.one (.imm (.slice ee) l))) /\
  (l=[]->(runCode te tbl ann fn.ntmps cnd 0 (n1+128) (.w (.s q) (.av (.v (.one (.kb true)))) :: (W1 ++ (W0 ++ entryW E.sh E.ps d)))).ev=some (.ret,na,Wa) /\
   (finT te E.rs fn.results.toList E.ps (Wa ++ (.w (.s q) (.av (.v (.one (.kb true)))) :: (W1 ++ (W0 ++ entryW E.sh E.ps d))))).ev=some r) /\
  (runCode te tbl ann fn.ntmps cnd 0 (n1+128) (.w (.s q) (.av (.v (.one (.kb false)))) :: (W1 ++ (W0 ++ entryW E.sh E.ps d)))).ev=some (.normal,n2,W2) /\
  (runCode te tbl ann fn.ntmps rest 0 n2 (W2 ++ (.w (.s q) (.av (.v (.one (.kb false)))) :: (W1 ++ (W0 ++ entryW E.sh E.ps d))))).ev=some (.ret,n3,W3) /\
  (finT te E.rs fn.results.toList E.ps (W3 ++ (W2 ++ (.w (.s q) (.av (.v (.one (.kb false)))) :: (W1 ++ (W0 ++ entryW E.sh E.ps d)))))).ev=some r):E.Sound P:=by
 refine fun_any (te:=te) ht E hf hb hps fun d r hr cx act w Q hS hQ=>?_
 obtain ⟨W0,W1,Wa,W2,W3,n1,na,n2,n3,ee,l,h0,h1,h2,h3,h4,h5,h6⟩:=hrun d r hr
 refine wp_seq (code_wp ht hT hmix r0 0 _ _ _ act w _ h0 hS fun a1 w1 hS1=>?_)
 refine wp_seq (wp_seq (wp_region ?_))
 rw [show List.range (#[o1,o2]:Array Oper).size=[0,1] from rfl,wpOps_cons]
 refine opT_wp ht hT hS1 (N:=(· < n1)) (nx:=n1) (fun b hb _ h=>by omega) h1 (gs:=[]) (.inl ⟨by
  unfold decides
  split <;> simp,rfl⟩) fun a2 w2 hS2=>?_
 rw [wpOps_cons]
 have hS2':St cx fn.ntmps (look (W1 ++ (W0 ++ entryW E.sh E.ps d))) a2 w2 (· < n1+128):=by
  rw [look_append]
  exact hS2.mono fun b hb=>by rcases hb with hb | hb <;> omega
 obtain ⟨env,own,k1,k2,k3⟩:=hS2'.ex
 have hs:=k3 s
 rw [h2] at hs
 obtain ⟨p,c,hv,hp,_,_⟩:=(show Fits _ _ (.slice ee) l [a2.tmps.getD s undef] from hs)
 simp at hv
 have hrunop:(execOp a2.eval o2).run P w2 = .ok (.value (.bool p.isNone)) w2:=by
  simp only [execOp,ho]
  simp [Act.eval,hv,eqGuard,binOp,run_equal_slice_nil w2 t e p l.length c hu]
 unfold wpOp
 simp only [show (#[o1,o2]:Array Oper)[1]?=some o2 from rfl,Region.wanted,hg,if_true]
 refine .inl (wp_val hrunop ?_)
 rw [hd]
 simp only [wpOps]
 cases p with
 | none =>
  have hl:=hp rfl
  obtain ⟨q1,q2⟩:=h3 hl
  have hS3:=hS2'.put (v:=.bool true) (c:=.av (.v (.one (.kb true)))) hq fun _ _ _=>rfl
  exact code_wp ht hT hmix cnd 0 _ _ _ _ w2 _ q1 hS3 fun a3 w3 hS3=>hQ .ret na (Wa ++ (.w (.s q) (.av (.v (.one (.kb true)))) :: (W1 ++ W0))) a3 w3 (fun _ h=>by cases h) (by simpa using q2) (by simpa using hS3)
 | some x =>
  have hS3:=hS2'.put (v:=.bool false) (c:=.av (.v (.one (.kb false)))) hq fun _ _ _=>rfl
  refine code_wp ht hT hmix cnd 0 _ _ _ _ w2 _ h4 hS3 fun a3 w3 hS3=>?_
  exact code_wp ht hT hmix rest 0 _ _ _ a3 w3 _ h5 hS3 fun a4 w4 hS4=>hQ .ret n3 (W3 ++ (W2 ++ (.w (.s q) (.av (.v (.one (.kb false)))) :: (W1 ++ W0)))) a4 w4 (fun _ h=>by cases h) (by simpa using h6) (by simpa using hS4)
noncomputable def nilT (te:TE) (tbl:Tbl) (ann:Ann) (nt:Nat) (r0 cnd rest:Code) (o1 o2:Oper) (s q:Nat) (rs:List RTy) (rv:List ResultVar) (sh:List AP) (ps:List PTy) (d:Pden ps):Option (Bool × Option (Rden rs × Oden ps) × Option (Rden rs × Oden ps)) :=
 match (runCode te tbl ann nt r0 0 ps.length (entryW sh ps d)).ev with
 | some (.normal,n1,W0)=>match (opT te tbl #[o1,o2] nt n1 0).evs (look (W0 ++ entryW sh ps d)) with
  | some W1=>match look (W1 ++ (W0 ++ entryW sh ps d)) (.s s) with
   | .av (.v (.one (.imm (.slice _) l)))=>some (l.isEmpty,
    ((runCode te tbl ann nt cnd 0 (n1+128) (.w (.s q) (.av (.v (.one (.kb true)))) :: (W1 ++ (W0 ++ entryW sh ps d)))).bind fun o=>match o.1 with
     | .ret=>finT te rs rv ps (o.2.2 ++ (.w (.s q) (.av (.v (.one (.kb true)))) :: (W1 ++ (W0 ++ entryW sh ps d))))
     | _=>.bad).ev,
    ((runCode te tbl ann nt cnd 0 (n1+128) (.w (.s q) (.av (.v (.one (.kb false)))) :: (W1 ++ (W0 ++ entryW sh ps d)))).bind fun o=>match o.1 with
     | .normal=>(runCode te tbl ann nt rest 0 o.2.1 (o.2.2 ++ (.w (.s q) (.av (.v (.one (.kb false)))) :: (W1 ++ (W0 ++ entryW sh ps d))))).bind fun o2=>match o2.1 with
      | .ret=>finT te rs rv ps (o2.2.2 ++ (o.2.2 ++ (.w (.s q) (.av (.v (.one (.kb false)))) :: (W1 ++ (W0 ++ entryW sh ps d)))))
      | _=>.bad
     | _=>.bad).ev)
   | _=>none
  | none=>none
 | _=>none
theorem nil_sound (ht:TEok P te) (hT:tbl.Sound P) (hmix:P.follows .mixedOrders=true) (E:Entry) {fn:Func} {r0 cnd rest:Code} {i1:Nat} {o1 o2:Oper} (hf:P.funcs[E.f]?=some fn) (hb:fn.body=some (.seq r0 (.seq (.seq (.region i1 #[o1,o2] false) cnd) rest))) (hps:E.sh.length<=fn.ntmps)
 {t t' e:TypeId} {s q:Nat} (ho:o2.op = .binOp .eql t (.tmp s) (.const (.slice none 0 0)) t') (hg:o2.guard=none) (hd:o2.dst=some q) (hq:q < fn.ntmps) (hu:P.underlying t=some (.slice e))
 (hrun:∀ d r,E.F d=some r->∃ x rt,nilT te tbl ann fn.ntmps r0 cnd rest o1 o2 s q E.rs fn.results.toList E.sh E.ps d=some (x,rt,some r)/\(x=true->rt=some r)):E.Sound P:=by
 refine nil_test (ann:=ann) ht hT hmix E hf hb hps ho hg hd hq hu fun d r hr=>?_
 obtain ⟨x,rt,h,hx⟩:=hrun d r hr
 unfold nilT at h
 split at h
 · rename_i n1 W0 h0
   split at h
   · rename_i W1 h1
     split at h
     · rename_i ee l h2
       simp only [Option.some.injEq,Prod.mk.injEq] at h
       obtain ⟨rfl,rfl,h⟩:=h
       rw [Tree.ev_bind] at h
       obtain ⟨⟨ex,n2,W2⟩,h4,h⟩:=Option.bind_eq_some_iff.1 h
       cases ex with
       | normal =>
        simp only at h
        rw [Tree.ev_bind] at h
        obtain ⟨⟨ex,n3,W3⟩,h5,h⟩:=Option.bind_eq_some_iff.1 h
        cases ex with
        | ret =>
         simp only at h
         cases hta:(runCode te tbl ann fn.ntmps cnd 0 (n1+128) (.w (.s q) (.av (.v (.one (.kb true)))) :: (W1 ++ (W0 ++ entryW E.sh E.ps d)))).ev with
         | none =>
          refine ⟨W0,W1,[],W2,W3,n1,0,n2,n3,ee,l,h0,h1,h2,fun hl=>?_,h4,h5,h⟩
          have:=hx (by simp [hl])
          rw [Tree.ev_bind,hta] at this
          cases this
         | some o =>
          obtain ⟨ex,na,Wa⟩:=o
          refine ⟨W0,W1,Wa,W2,W3,n1,na,n2,n3,ee,l,h0,h1,h2,fun hl=>?_,h4,h5,h⟩
          have:=hx (by simp [hl])
          rw [Tree.ev_bind,hta] at this
          cases ex with
          | ret=>exact ⟨by rw [hta],this⟩
          | normal=>cases this
          | exit id=>cases this
        | normal=>cases h
        | exit id=>cases h
       | ret=>cases h
       | exit id=>cases h
     · cases h
   · cases h
 · cases h
def seqL:Code->Code
 | .seq a _=>a
 | c=>c
def seqR:Code->Code
 | .seq _ b=>b
 | c=>c
def regId:Code->Nat
 | .region i _ _=>i
 | _=>0
def regOps:Code->Array Oper
 | .region _ ops _=>ops
 | _=>#[]
theorem enters_ok {fn : Func} {f : Nat} (hf : P.funcs[f]? = some fn) (hk : (!(fn.name == "runtime.NumGoroutine") && fn.body.isSome) = true) : Enters P f := by
 simp only [Bool.and_eq_true,Bool.not_eq_true'] at hk
 obtain ⟨h1,h2⟩:=hk
 obtain ⟨c,hc⟩:=Option.isSome_iff_exists.1 h2
 intro args w
 simp only [beq_eq_false_iff_ne,ne_eq] at h1
 simp [callFunc,hf,h1,hc]
def cloneF (e:Ty) (T:TypeId) (bytes:Nat) (d:Pden [.val (.slice e)]):Option (Rden [⟨.slice e,[some T],none⟩] × Oden [.val (.slice e)]):=cond (small (0+d.1.length) bytes) (some ((d.1,()),())) none
theorem clone_ok (ht : TEok P te) (hmix : P.follows .mixedOrders = true) {f : Nat} {e : Ty} {T bytes : Nat} {fn : Func} {c : Code} {o1 o2 : Oper} {t t' u : TypeId} {s q : Nat} (hf : P.funcs[f]? = some fn) (hk : (!(fn.name == "runtime.NumGoroutine") && fn.body.isSome) = true)
 (hb:fn.body=some (.seq (seqL c) (.seq (.seq (.region (regId (seqL (seqL (seqR c)))) #[o1,o2] false) (seqR (seqL (seqR c)))) (seqR (seqR c)))))
 (hps:1<=fn.ntmps) (ho:o2.op = .binOp .eql t (.tmp s) (.const (.slice none 0 0)) t') (hg:o2.guard=none) (hd:o2.dst=some q) (hq:q < fn.ntmps) (hu:P.underlying t=some (.slice u))
 (hkey:∀ d:Pden [.val (.slice e)],nilT te [] [] fn.ntmps (seqL c) (seqR (seqL (seqR c))) (seqR (seqR c)) o1 o2 s q [⟨.slice e,[some T],none⟩] fn.results.toList [.p] [.val (.slice e)] d=some (d.1.isEmpty,some ((([]:List e.den),()),()),cloneF e T bytes d)) :
 Enters P f/\(⟨f,[.p],[.val (.slice e)],[⟨.slice e,[some T],none⟩],cloneF e T bytes⟩:Entry).Sound P:=by
 refine ⟨enters_ok hf hk,nil_sound (ann:=[]) ht Tbl.sound_nil hmix ⟨f,[.p],[.val (.slice e)],[⟨.slice e,[some T],none⟩],cloneF e T bytes⟩ hf hb hps ho hg hd hq hu fun d r h=>⟨d.1.isEmpty,_,(hkey d).trans (by rw [show cloneF e T bytes d=some r from h]),fun hx=>?_⟩⟩
 have hnil:d.1=[]:=by simpa using hx
 have h:cloneF e T bytes d=some r:=h
 unfold cloneF at h
 cases hc:small (0+d.1.length) bytes with
 | false=>rw [hc,cond_false] at h;cases h
 | true =>
  rw [hc,cond_true] at h
  rw [<-h,hnil]
end
end Go.VI
namespace Go.VI
open Go Go.RowKit
def wfD:(t:Ty)->t.den->Prop
 | .bool,_=>True
 | .int k,n=>(Lit.int k n).wf=true
 | .slice e,l=>l.length<=maxLen/\∀ y∈l,wfD e y
 | .prod a b,v=>wfD a v.1/\wfD b v.2
 | .unit,_=>True
 | .raw _,_=>False
 | .ifo _ _,_=>False
def readF (P:Program) (c:TypeId->Ty->Bool):List Field->Nat->Ty->Bool
 | [],_,.unit=>true
 | f :: fs,off,.prod a b=>Nat.beq f.offset off && Nat.beq (P.cellsOf f.type) a.size && c f.type a && readF P c fs (off+a.size) b
 | _,_,_=>false
def readB (P:Program):Nat->TypeId->Ty->Bool
 | 0,_,_=>false
 | _+1,t,.bool=>match P.underlying t with
  | some .bool=>true
  | _=>false
 | _+1,t,.int k=>match P.underlying t with
  | some (.int k')=>decide (k'=k)
  | _=>false
 | d+1,t,.slice e=>match P.underlying t with
  | some (.slice u)=>Nat.beq (P.cellsOf u) e.size && Nat.blt 0 e.size && readB P d u e
  | _=>false
 | d+1,t,ty=>match P.underlying t with
  | some (.struct fs)=>Nat.beq (P.cellsOf t) ty.size && readF P (readB P d) fs.toList 0 ty
  | _=>false
section
variable {H:Type} {enc:TypeId × Value->H} {P:Program} {w:World} {spare:Nat->Bool} {held:Bool}
def Reads (P:Program) (enc:TypeId × Value->H) (w:World) (spare:Nat->Bool) (held:Bool) (t:TypeId) (ty:Ty):Prop :=
 ∀ n cs x,DataW.trod enc P w 0 spare held n t cs=some x->∃ v:ty.den,Fits w.heap (fun c=>c < w.heap.size) ty v cs/\wfD ty v
theorem cells_of {a:Addr} {n:Nat} {cs:List Value} (h:w.cells? 0 a n=some cs) (hn:0 < n):a.spot=none/\∃ cur T fz,w.heap[a.block]?=some (.cells cur T fz)/\a.off+n<=cur.size/\cs=(cur.toList.drop a.off).take n:=by
 unfold World.cells? at h
 rw [if_pos (Nat.zero_le _)] at h
 have hlen:=mapM_some_length h
 have hget:=fun (i:Nat) (hi:i < n)=>mapM_some_get h i i (by simp [hi])
 simp at hlen
 have h0:=hget 0 hn
 have hs0:∃ v,cs[0]?=some v:=⟨cs[0]'(by omega),List.getElem?_eq_getElem _⟩
 obtain ⟨v0,hv0⟩:=hs0
 rw [hv0] at h0
 obtain ⟨ab,ao,as⟩:=a
 unfold World.cell? at h0
 cases hh:w.heap[ab]? with
 | none=>simp [Addr.add,hh] at h0
 | some o =>
  cases o with
  | cells cur T fz =>
   have hsp:as=none:=by
    cases as with
    | none=>rfl
    | some s=>simp [Addr.add,hh] at h0
   subst hsp
   refine ⟨rfl,cur,T,fz,rfl,?_,?_⟩
   · have hl:=hget (n - 1) (by omega)
     have:∃ v,cs[n - 1]?=some v:=⟨cs[n - 1]'(by omega),List.getElem?_eq_getElem _⟩
     obtain ⟨v,hv⟩:=this
     rw [hv,Addr.add_lit] at hl
     simp [World.cell?,hh] at hl
     have:=(Array.getElem?_eq_some_iff.1 hl).1
     simp only
     omega
   · apply List.ext_getElem?
     intro i
     by_cases hi:i < n
     · have:=hget i hi
       rw [Addr.add_lit] at this
       simp [World.cell?,hh] at this
       rw [<-this,List.getElem?_take,if_pos hi]
       simp
     · rw [List.getElem?_eq_none (by omega),List.getElem?_eq_none (by simp;omega)]
  | _=>simp [Addr.add,hh] at h0
theorem readF_ok {c:TypeId->Ty->Bool} (hc:∀ t ty,c t ty=true->Reads P enc w spare held t ty):∀ (fs:List Field) (off:Nat) (ty:Ty) (n:Nat) (cs:List Value),readF P c fs off ty=true->cs.length=off+ty.size ->
 (∀ (i:Nat) (f:Field),fs[i]?=some f->∃ x,DataW.trod enc P w 0 spare held n f.type ((cs.drop f.offset).take (P.cellsOf f.type))=some x)->∃ v:ty.den,Fits w.heap (fun c=>c < w.heap.size) ty v (cs.drop off)/\wfD ty v
 | [],off,.unit,n,cs,_,hl,_=>⟨(),by simp only [Ty.size] at hl;simp [Fits];omega,trivial⟩
 | f :: fs,off,.prod a b,n,cs,h,hl,hx=>by
  simp only [readF,Bool.and_eq_true] at h
  obtain ⟨⟨⟨h1,h2⟩,h3⟩,h4⟩:=h
  have h1:=Nat.eq_of_beq_eq_true h1
  have h2:=Nat.eq_of_beq_eq_true h2
  simp only [Ty.size] at hl
  obtain ⟨x,hx0⟩:=hx 0 f rfl
  obtain ⟨v1,f1,w1⟩:=hc f.type a h3 n _ _ hx0
  rw [h1,h2] at f1
  obtain ⟨v2,f2,w2⟩:=readF_ok hc fs (off+a.size) b n cs h4 (by omega) fun i g hg=>hx (i+1) g (by simpa using hg)
  refine ⟨(v1,v2),⟨_,_,?_,f1,f2⟩,w1,w2⟩
  rw [<-List.drop_drop,List.take_append_drop]
 | [],_,.prod _ _,_,_,h,_,_=>by simp [readF] at h
 | [],_,.bool,_,_,h,_,_=>by simp [readF] at h
 | [],_,.int _,_,_,h,_,_=>by simp [readF] at h
 | [],_,.slice _,_,_,h,_,_=>by simp [readF] at h
 | _ :: _,_,.unit,_,_,h,_,_=>by simp [readF] at h
 | _ :: _,_,.bool,_,_,h,_,_=>by simp [readF] at h
 | _ :: _,_,.int _,_,_,h,_,_=>by simp [readF] at h
 | _ :: _,_,.slice _,_,_,h,_,_=>by simp [readF] at h
 | [],_,.raw _,_,_,h,_,_=>by simp [readF] at h
 | _ :: _,_,.raw _,_,_,h,_,_=>by simp [readF] at h
 | [],_,.ifo _ _,_,_,h,_,_=>by simp [readF] at h
 | _ :: _,_,.ifo _ _,_,_,h,_,_=>by simp [readF] at h
theorem list_read {α:Type} {Q:Nat->α->Prop}:∀ (n:Nat),(∀ i,i < n->∃ x,Q i x)->∃ l:List α,l.length=n/\∀ i (hi:i < l.length),Q i l[i]
 | 0,_=>⟨[],rfl,fun i hi=>by simp at hi⟩
 | n+1,h=>by
  obtain ⟨l,hl,hq⟩:=list_read n fun i hi=>h i (by omega)
  obtain ⟨x,hx⟩:=h n (by omega)
  refine ⟨l ++ [x],by simp [hl],fun i hi=>?_⟩
  by_cases hin:i < l.length
  · rw [List.getElem_append_left hin];exact hq i hin
  · have:i=l.length:=by simp at hi;omega
    subst this
    have e1:(l ++ [x])[l.length]'hi=x:=by simp
    rw [e1,hl];exact hx
theorem read_ok:∀ (d:Nat) (t:TypeId) (ty:Ty),readB P d t ty=true->Reads P enc w spare held t ty
 | 0,_,_,h=>by simp [readB] at h
 | d+1,t,.raw k,h=>fun n cs x hx=>by
  simp only [readB] at h
  split at h
  · rename_i fs hu
    simp only [Bool.and_eq_true] at h
    have h2:=h.2
    cases hfs:fs.toList <;> (rw [hfs] at h2;simp [readF] at h2)
  · cases h
 | d+1,t,.ifo k s,h=>fun n cs x hx=>by
  simp only [readB] at h
  split at h
  · rename_i fs hu
    simp only [Bool.and_eq_true] at h
    have h2:=h.2
    cases hfs:fs.toList <;> (rw [hfs] at h2;simp [readF] at h2)
  · cases h
 | d+1,t,.bool,h=>fun n cs x hx=>by
  simp only [readB] at h
  split at h
  · rename_i hu
    obtain ⟨b,rfl,_⟩:=DataW.trod_bool hu hx
    exact ⟨b,rfl,trivial⟩
  · cases h
 | d+1,t,.int k,h=>fun n cs x hx=>by
  simp only [readB] at h
  split at h
  · rename_i k' hu
    have:=of_decide_eq_true h
    subst this
    obtain ⟨m,rfl,_,hw⟩:=DataW.trod_int hu hx
    exact ⟨m,rfl,hw⟩
  · cases h
 | d+1,t,.slice e,h=>fun n cs x hx=>by
  simp only [readB] at h
  split at h
  · rename_i u hu
    simp only [Bool.and_eq_true] at h
    obtain ⟨⟨h1,h2⟩,h3⟩:=h
    have h1:=Nat.eq_of_beq_eq_true h1
    simp only [Nat.blt_eq] at h2
    have ih:=read_ok d u e h3
    rcases DataW.trod_slice hu hx with ⟨rfl,_⟩ | ⟨a,len,cap,elems,rest,m,_,rfl,_,_,hl,hc,hlen,hel,_⟩
    · exact ⟨([]:List e.den),⟨none,0,rfl,fun _=>rfl,by simp,by simp⟩,by simp [maxLen],by simp⟩
    · rw [h1] at hel
      have hsp:0 < len->a.spot=none:=fun h0=>by
       have:=hel 0 h0
       rw [Nat.zero_mul,show a.add 0=a by simp [Addr.add]] at this
       have hsome:∃ y,elems[0]?=some y:=⟨elems[0]'(by omega),List.getElem?_eq_getElem _⟩
       obtain ⟨y,hy⟩:=hsome
       rw [hy] at this
       obtain ⟨cs',q1,_⟩:=Option.bind_eq_some_iff.1 this
       exact (cells_of q1 h2).1
      obtain ⟨l,hll,hq⟩:=list_read (α:=e.den) (Q:=fun i (v:e.den)=>(a.spot=none/\a.block < w.heap.size/\∃ cur T fz,w.heap[a.block]?=some (.cells cur T fz)/\a.off+(i+1)*e.size<=cur.size/\Fits w.heap (fun c=>c < w.heap.size) e v ((cur.toList.drop (a.off+i*e.size)).take e.size))/\wfD e v) len fun i hi=>by
       have:=hel i hi
       have hsome:∃ y,elems[i]?=some y:=⟨elems[i]'(by omega),List.getElem?_eq_getElem _⟩
       obtain ⟨y,hy⟩:=hsome
       rw [hy] at this
       obtain ⟨cs',q1,q2⟩:=Option.bind_eq_some_iff.1 this
       obtain ⟨s1,cur,T,fz,s2,s3,s4⟩:=cells_of q1 h2
       obtain ⟨v,f1,w1⟩:=ih m cs' y q2
       obtain ⟨ab,ao,asp⟩:=a
       have hasp:asp=none:=hsp (by omega)
       subst hasp
       rw [Addr.add_lit] at s2 s3 s4
       simp only at s2 s3 s4
       refine ⟨v,⟨rfl,(Array.getElem?_eq_some_iff.1 s2).1,cur,T,fz,s2,?_,?_⟩,w1⟩
       · rw [Nat.add_mul,Nat.one_mul,<-Nat.add_assoc];exact s3
       · rw [<-s4];exact f1
      refine ⟨l,⟨some a,cap,by rw [hll],by simp,fun y hy hne=>?_,by omega⟩,by omega,fun y hy=>?_⟩
      · simp at hy;subst hy
        have hpos:0 < l.length:=List.length_pos_iff.2 hne
        obtain ⟨⟨s1,s2,cur,T,fz,s3,_,_⟩,_⟩:=hq (l.length - 1) (by omega)
        refine ⟨s1,s2,cur,T,fz,s3,?_,fun i hi=>?_⟩
        · obtain ⟨⟨_,_,cur',_,_,s3',s4',_⟩,_⟩:=hq (l.length - 1) (by omega)
          rw [s3] at s3';cases s3'
          rwa [Nat.sub_add_cancel hpos] at s4'
        · obtain ⟨⟨_,_,cur',_,_,s3',_,s5⟩,_⟩:=hq i hi
          rw [s3] at s3';cases s3'
          exact s5
      · obtain ⟨i,hi,rfl⟩:=List.getElem_of_mem hy
        exact (hq i hi).2
  · cases h
 | d+1,t,.prod a b,h=>fun n cs x hx=>by
  simp only [readB] at h
  split at h
  · rename_i fs hu
    simp only [Bool.and_eq_true] at h
    obtain ⟨xs,m,_,_,hl,hlen,hf⟩:=DataW.trod_struct hu hx
    have:=readF_ok (n:=m) (cs:=cs) (fun t ty h=>read_ok d t ty h) fs.toList 0 (.prod a b) h.2 (by rw [hl,Nat.eq_of_beq_eq_true h.1];simp) fun i f hf'=>by
     have:=hf i f (by simpa using hf')
     have hi:i < xs.length:=by rw [hlen];simpa using (List.getElem?_eq_some_iff.1 hf').1
     exact ⟨xs[i],by rw [this,List.getElem?_eq_getElem hi]⟩
    simpa using this
  · cases h
 | d+1,t,.unit,h=>fun n cs x hx=>by
  simp only [readB] at h
  split at h
  · rename_i fs hu
    simp only [Bool.and_eq_true] at h
    obtain ⟨xs,m,_,_,hl,hlen,hf⟩:=DataW.trod_struct hu hx
    have:=readF_ok (n:=m) (cs:=cs) (fun t ty h=>read_ok d t ty h) fs.toList 0 .unit h.2 (by rw [hl,Nat.eq_of_beq_eq_true h.1];simp) fun i f hf'=>by
     have:=hf i f (by simpa using hf')
     have hi:i < xs.length:=by rw [hlen];simpa using (List.getElem?_eq_some_iff.1 hf').1
     exact ⟨xs[i],by rw [this,List.getElem?_eq_getElem hi]⟩
    simpa using this
  · cases h
end
end Go.VI
namespace Go.VI
open Go Go.RowKit Go.WideShapes
section
variable {H:Type} {enc:TypeId × Value->H} {P:Program} {w:World} {spare:Nat->Bool} {held:Bool}
def argsB (P:Program):List PTy->List TypeId->Bool
 | [],[]=>true
 | .val ty :: ps,t :: ts=>readB P 30 t ty && argsB P ps ts
 | _,_=>false
def wfP:(ps:List PTy)->Pden ps->Prop
 | [],_=>True
 | .val t :: ps,d=>wfD t d.1/\wfP ps d.2
 | .ptr _ t :: ps,d=>wfD t d.1/\wfP ps d.2
theorem value_read {t:TypeId} {ty:Ty} {v:Value} {d:Nat} {r:Reach} {base:Nat} (hr:readB P (d+1) t ty=true) (hv:Value.okWide P w r base t v):v=mkVal ty v.cells.toList:=by
 cases ty with
 | bool =>
  simp only [readB] at hr
  split at hr
  · rename_i hu;obtain ⟨b,rfl⟩:=okWide_bool hu hv;rfl
  · cases hr
 | int k =>
  simp only [readB] at hr
  split at hr
  · rename_i hu;obtain ⟨b,rfl⟩:=okWide_int hu hv;rfl
  · cases hr
 | raw k =>
  simp only [readB] at hr
  split at hr
  · rename_i fs hu
    simp only [Bool.and_eq_true] at hr
    have h2:=hr.2
    cases hfs:fs.toList <;> (rw [hfs] at h2;simp [readF] at h2)
  · cases hr
 | ifo k s =>
  simp only [readB] at hr
  split at hr
  · rename_i fs hu
    simp only [Bool.and_eq_true] at hr
    have h2:=hr.2
    cases hfs:fs.toList <;> (rw [hfs] at h2;simp [readF] at h2)
  · cases hr
 | slice e =>
  simp only [readB] at hr
  split at hr
  · rename_i hu;obtain ⟨a,n,c,rfl⟩:=okWide_slice hu hv;rfl
  · cases hr
 | prod a b =>
  simp only [readB] at hr
  split at hr
  · rename_i hu
    unfold Value.okWide at hv
    rw [hu] at hv
    obtain ⟨cs,rfl,_⟩:=hv
    simp [mkVal,Ty.isAgg,Value.cells]
  · cases hr
 | unit =>
  simp only [readB] at hr
  split at hr
  · rename_i hu
    unfold Value.okWide at hv
    rw [hu] at hv
    obtain ⟨cs,rfl,_⟩:=hv
    simp [mkVal,Ty.isAgg,Value.cells]
  · cases hr
theorem args_read {r:Reach} {base:Nat}:∀ {ps:List PTy} {ts:List TypeId} {vs:List Value} {ds:List (DataW H)} {p:List MemPlace},argsB P ps ts=true->DataW.TrodAll enc P w 0 spare held ts vs ds p ->
 (∀ (j:Nat) t v,ts[j]?=some t->vs[j]?=some v->Value.okWide P w r base t v)->∃ d:Pden ps,ArgsR w.heap (fun c=>c < w.heap.size) ps d vs []/\wfP ps d
 | [],[],[],_,_,_,_,_=>⟨(),trivial,trivial⟩
 | .val ty :: ps,t :: ts,v :: vs,d :: ds,p,hb,ht,hv=>by
  simp only [argsB,Bool.and_eq_true] at hb
  obtain ⟨q1,q2,⟨n,h1⟩,h2,_⟩:=ht
  obtain ⟨x,hx,hw⟩:=read_ok (enc:=enc) (w:=w) (spare:=spare) (held:=held) 30 t ty hb.1 n _ _ h1
  obtain ⟨xs,hxs,hws⟩:=args_read (ps:=ps) hb.2 h2 fun j t v a b=>hv (j+1) t v (by simpa using a) (by simpa using b)
  exact ⟨(x,xs),⟨⟨_,value_read hb.1 (hv 0 t v rfl rfl),hx⟩,hxs⟩,hw,hws⟩
 | .ptr _ _ :: _,_,_,_,_,hb,_,_=>by simp [argsB] at hb
 | .val _ :: _,[],_,_,_,hb,_,_=>by simp [argsB] at hb
 | [],_ :: _,_,_,_,hb,_,_=>by simp [argsB] at hb
 | [],[],_ :: _,_,_,_,ht,_=>by simp [DataW.TrodAll] at ht
 | .val _ :: _,_ :: _,[],_,_,_,ht,_=>by simp [DataW.TrodAll] at ht
 | .val _ :: _,_ :: _,_ :: _,[],_,_,ht,_=>by simp [DataW.TrodAll] at ht
theorem groupV_plain:∀ {n:Nat} {vs:List Value},vs.length=n->groupV (List.replicate n .p) vs=vs
 | 0,[],_=>rfl
 | n+1,v :: vs,h=>by simp [List.replicate_succ,groupV,groupV_plain (n:=n) (vs:=vs) (by simpa using h)]
theorem law_ok {f:FuncId} {ps:List PTy} {F:Pden ps->Option (Rden [⟨.bool,[none],none⟩] × Oden ps)} {sh:List AP} (hsh:sh=List.replicate ps.length .p) (hs:(⟨f,sh,ps,[⟨.bool,[none],none⟩],F⟩:Entry).Sound P) (hF:∀ d,wfP ps d->∃ o,F d=some ((true,()),o))
 {ts:List TypeId} {vs:List Value} {ds:List (DataW H)} {p:List MemPlace} {r:Reach} {base:Nat} (hb:argsB P ps ts=true) (ht:DataW.TrodAll enc P w 0 spare held ts vs ds p)
 (hv:∀ (j:Nat) t v,ts[j]?=some t->vs[j]?=some v->Value.okWide P w r base t v) :
 Calls P f vs.toArray w fun e w'=>e = .returned (.bool true)/\Below w.heap.size w w':=by
 obtain ⟨d,ha,hw⟩:=args_read hb ht hv
 obtain ⟨o,ho⟩:=hF d hw
 have hcall:=hs w _ d vs [] _ ha (fun _ h=>h) ho 0
 subst hsh
 rw [show groupV (⟨f,List.replicate ps.length .p,ps,[⟨.bool,[none],none⟩],F⟩:Entry).sh vs=vs from groupV_plain ha.lt.2] at hcall
 refine hcall.mono ?_
 rintro e w' ⟨vals,env,own,rfl,hr⟩
 have hres:=hr.res
 simp only [resL,flat,ownL,Ty.isAgg,cond_false] at hres
 obtain ⟨v,rfl,hv⟩:=All2.one hres
 simp only [A1R,LfR,Fits,List.cons.injEq,and_true] at hv
 subst hv
 exact ⟨rfl,hr.behind.os,hr.behind.tape,hr.behind.output,hr.behind.size,fun k hk=>hr.behind.old k hk (by simp)⟩
end
end Go.VI
