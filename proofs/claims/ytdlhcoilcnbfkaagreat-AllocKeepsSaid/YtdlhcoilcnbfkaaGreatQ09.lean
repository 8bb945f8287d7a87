import Derived.Test.YtdlhcoilcnbfkaaGreatQ07
import Derived.Test.YtdlhcoilcnbfkaaGreatQ08
set_option linter.unusedSimpArgs false
set_option linter.unusedVariables false
set_option maxRecDepth 100000
set_option maxHeartbeats 4000000
namespace Go.VI
open Go
namespace P
end P
theorem set_mid {α:Type} {A C:List α} {b v:α} {i:Nat} (hA:A.length=i):(A ++ b :: C).set i v=A ++ v :: C:=by
 subst hA
 rw [List.set_append_right _ _ (Nat.le_refl _),Nat.sub_self,List.set_cons_zero]
theorem FreeAt.nat {ps:List PgD} {j n:Nat} (h:FreeAt ps j n):j+n<=ps.length/\∀ m,j<=m->m < j+n->(ps.getD m PG0).1=0:=by
 obtain ⟨-,-,h3,h4⟩:=h
 exact ⟨by omega,fun m a b=>by have:=h4 (m:Int) (by omega) (by omega);rwa [Int.toNat_natCast] at this⟩
theorem free_slice {ps:List PgD} {j n:Nat} (hf:FreeAt ps j n):P.inUse (((ps.take (j+n)).drop j).map toPg)=0:=by
 rw [P.inUse_all,List.all_eq_true]
 intro x hx
 obtain ⟨y,hy,rfl⟩:=List.mem_map.1 hx
 obtain ⟨m,hm,e⟩:=List.mem_iff_getElem.1 hy
 rw [List.length_drop,List.length_take] at hm
 rw [List.getElem_drop,List.getElem_take] at e
 have:=hf.nat.2 (j+m) (by omega) (by omega)
 rw [List.getD_eq_getElem?_getD,List.getElem?_eq_getElem (by omega),Option.getD_some,e] at this
 exact decide_eq_true this
theorem T_page_InUse (ps:List PgD) (hl:ps.length<=100000000):Tot (fun r=>r.1.1=(P.inUse (ps.map toPg):Int)) (F_page_InUse (ps,())):=by
 rw [nf_page_InUse];dsimp only
 refine tot_bind (P:=fun r=>r.1.1=(P.inUse (ps.map toPg):Int)) (tot_loop (fun x=>∃ k:Nat,x.1.2.1=(k:Int)/\k<=ps.length/\x.1.1=(P.inUse ((ps.map toPg).take k):Int)) (fun x=>((ps.length:Int) - x.1.2.1).toNat) ⟨0,rfl,by omega,by simp [P.inUse]⟩ ?_) fun r hr=>tot_some hr
 rintro ⟨⟨(n:Int),(i:Int),_⟩,_⟩ ⟨k,e,hk,e2⟩
 dsimp only at e e2 ⊢
 subst e e2
 have hle:=P.inUse_le ((ps.map toPg).take k)
 rw [List.length_take] at hle
 refine tot_cond (fun h=>?_) fun h=>tot_some ?_
 · simp only [decide_eq_true_eq] at h
   have hk:k < ps.length:=by omega
   have w2:W ((k:Int)+1)=k+1:=W_id (by omega)
   have w1:W ((P.inUse ((ps.map toPg).take k):Int)+1)=P.inUse ((ps.map toPg).take k)+1:=W_id (by omega)
   refine tot_need (inB_iff.2 ⟨by omega,h⟩) (tot_some ?_)
   rw [w1,w2,Int.toNat_natCast]
   simp only [Sum.elim_inl]
   refine ⟨⟨k+1,by omega,by omega,?_⟩,by omega⟩
   rw [P.inUse_take (map_at hk)]
   have:(toPg (ps.getD k PG0)).kind=(ps.getD k PG0).1:=rfl
   rw [this]
   cases hc:((ps.getD k PG0).1 != 0)
   · simp only [bne_eq_false_iff_eq] at hc
     rw [if_pos hc];simp
   · simp only [bne_iff_ne,ne_eq] at hc
     rw [if_neg hc];simp
 · simp only [decide_eq_false_iff_not] at h
   simp only [Sum.elim_inr]
   rw [List.take_of_length_le (by rw [List.length_map];omega)]
theorem T_page_freeFrom (ps:List PgD) (i:Int) (h0:0<=i) (hi:i<=ps.length) (hl:ps.length<=1000000):Tot (fun r=>FreeAt ps i r.1.1) (F_page_freeFrom (ps,i,())):=by
 rw [nf_page_freeFrom];dsimp only
 refine tot_bind (P:=fun r=>FreeAt ps i r.1.1) (tot_loop (fun x=>FreeAt ps i x.1.1) (fun x=>((ps.length:Int) - i - x.1.1).toNat) ⟨h0,by dsimp only;omega,by dsimp only;omega,fun j a b=>by dsimp only at b;omega⟩ ?_) fun r hr=>tot_some hr
 rintro ⟨⟨(n:Int),_⟩,_⟩ ⟨f1,f2,f3,f4⟩
 dsimp only at f1 f2 f3 f4 ⊢
 rw [W_id (n:=i+n) (by omega),W_id (n:=n+1) (by omega)]
 refine tot_need (need_if fun h=>?_) (tot_cond (fun h=>tot_some ?_) fun h=>tot_some ?_)
 · simp only [decide_eq_true_eq] at h;exact inB_iff.2 ⟨by omega,h⟩
 · simp only [cand,Bool.and_eq_true,decide_eq_true_eq,beq_iff_eq] at h
   simp only [Sum.elim_inl]
   exact ⟨⟨f1,by omega,by omega,fun j a b=>if c:j < i+n then f4 j a c else by rw [show j=i+n by omega];exact h.2⟩,by omega⟩
 · simp only [Sum.elim_inr];exact ⟨f1,f2,f3,f4⟩
theorem T_page_Runs (ps:List PgD) (hl:ps.length<=1000000):Tot (fun r=>RunsP ps r.1.1/\r.1.1.length<=ps.length+1) (F_page_Runs (ps,())):=by
 rw [nf_page_Runs];dsimp only
 refine tot_bind (P:=fun r=>RunsP ps r.2.1.1/\r.2.1.1.length<=ps.length+1) (tot_loop (fun x=>0<=x.1.2.1/\x.1.2.1<=(ps.length:Int)+1/\(x.2.1.1.length:Int)<=x.1.2.1/\RunsP ps x.2.1.1) (fun x=>((ps.length:Int)+1 - x.1.2.1).toNat) ⟨by simp,by dsimp only;omega,by simp,fun r hr=>by simp at hr⟩ ?_) fun r hr=>tot_some hr
 rintro ⟨⟨_,(i:Int),_⟩,⟨(rs:List (Int × Int × Unit)),_⟩,_⟩ ⟨h0,h1,h2,h3⟩
 dsimp only at h0 h1 h2 h3 ⊢
 refine tot_cond (fun h=>?_) fun _=>tot_some (by simp only [Sum.elim_inr];exact ⟨h3,by omega⟩)
 simp only [decide_eq_true_eq] at h
 refine tot_bind (T_page_freeFrom ps i h0 (by omega) hl) ?_
 rintro ⟨⟨(n:Int),_⟩,_⟩ hf
 obtain ⟨f1,f2,f3,f4⟩:=id hf
 dsimp only at f1 f2 f3 f4 hf ⊢
 rw [W_id (n:=i+n) (by omega),W_id (n:=i+n+1) (by omega)]
 refine tot_need (need_if fun _=>small_iff.2 (by simp only [List.length_cons,List.length_nil];omega)) (tot_cond (fun h4=>tot_some ?_) fun h4=>tot_some ?_)
 · simp only [decide_eq_true_eq] at h4
   simp only [Sum.elim_inl]
   refine ⟨⟨by omega,by omega,by simp;omega,fun r hr=>?_⟩,by omega⟩
   rcases List.mem_append.1 hr with hr | hr
   · exact h3 r hr
   · simp at hr;subst hr;exact ⟨by dsimp only;omega,hf⟩
 · simp only [Sum.elim_inl]
   exact ⟨⟨by omega,by omega,by omega,h3⟩,by omega⟩
theorem T_page_First (ps:List PgD) (k:Int) (hl:ps.length<=1000000):Tot (fun r=>r.1.1 = -1\/1<=k/\FreeAt ps r.1.1 k) (F_page_First (ps,k,())):=by
 rw [nf_page_First];dsimp only
 refine tot_cond (fun _=>tot_some (.inl rfl)) fun hk=>?_
 simp only [decide_eq_false_iff_not] at hk
 refine tot_bind (T_page_Runs ps hl) ?_
 rintro ⟨⟨(rs:List (Int × Int × Unit)),_⟩,_⟩ ⟨h0,hr⟩
 dsimp only at h0 hr ⊢
 refine tot_bind (P:=fun r=>match r with
  | .inl x=>1<=k/\FreeAt ps x.1.1 k
  | .inr _=>True) (tot_loop (fun x=>0<=x.1.2.1/\x.1.2.1<=(rs.length:Int)) (fun x=>((rs.length:Int) - x.1.2.1).toNat) (by simp) ?_) ?_
 · rintro ⟨⟨(a:Int),(i:Int),_⟩,_⟩ ⟨i0,i1⟩
   dsimp only at i0 i1 ⊢
   refine tot_cond (fun h=>?_) fun _=>tot_some trivial
   simp only [decide_eq_true_eq] at h
   have w1:W (i+1)=i+1:=W_id (by omega)
   rw [w1]
   have hb:inB i rs.length=true:=inB_iff.2 ⟨i0,h⟩
   refine tot_need hb (tot_cond (fun hc=>tot_some ?_) fun _=>tot_some ?_)
   · simp only [decide_eq_true_eq] at hc
     obtain ⟨k1,k2,k3,k4,k5⟩:=h0 _ (getD_mem (d:=(0,0,())) (show i.toNat < rs.length by omega))
     simp only [Sum.elim_inr]
     exact ⟨by omega,k2,by omega,by omega,fun j a b=>k5 j a (by omega)⟩
   · simp only [Sum.elim_inl];omega
 · rintro r hr
   refine tot_sum (fun a ha=>?_) fun b hb=>tot_some (.inl rfl)
   subst ha
   exact tot_some (.inr hr)
theorem T_page_take (ps:List PgD) (j n:Nat) (a1 a2 a3 a4:Int) (hl:ps.length<=1000000) (h1:1<=n) (hf:FreeAt ps j n) :
 Tot (fun r=>r.1.2.1=0/\r.1.1=ps.take j ++ ((a1,a2,a3,a4,()) :: List.replicate (n - 1) (3,a2,0,0,())) ++ ps.drop (j+n)) (F_page_take (ps,(j:Int),(n:Int),(a1,a2,a3,a4,()),())):=by
 obtain ⟨g1,g2⟩:=hf.nat
 rw [nf_page_take];dsimp only
 have w1:W ((ps.length:Int) - n)=ps.length - n:=W_id (by omega)
 have w2:W ((j:Int)+n)=((j+n:Nat):Int):=by rw [W_id (by omega)];omega
 have w3:W ((j:Int)+1)=j+1:=W_id (by omega)
 rw [w1,w2,w3,T_page_within,Option.bind_some,Int.toNat_natCast,Int.toNat_natCast]
 refine tot_cond (fun h=>?_) fun _=>tot_need (decide_eq_true (by omega)) (tot_bind (T_page_InUse _ (by rw [List.length_drop,List.length_take];omega)) ?_)
 · have:decide (0<=(j:Int)/\(j:Int)<=(ps.length:Int) - n)=true:=decide_eq_true (by omega)
   rw [this] at h;cases h
 rintro ⟨⟨(u:Int),_⟩,_⟩ hu
 have hu:u=(P.inUse (((ps.take (j+n)).drop j).map toPg):Int):=hu
 rw [free_slice hf] at hu
 subst hu
 refine tot_cond (fun h=>by simp at h) fun _=>?_
 rw [T_slices_Clone_api_Page ps (by omega),Option.bind_some]
 dsimp only
 refine tot_need (inB_iff.2 ⟨by omega,by omega⟩) (tot_bind (P:=fun r=>r.2.2.1=ps.take j ++ ((a1,a2,a3,a4,()) :: List.replicate (n - 1) (3,a2,0,0,())) ++ ps.drop (j+n)) (tot_loop (fun x=>∃ m:Nat,x.1.1=(j:Int)+1+m/\m+1<=n/\x.2.2.1=ps.take j ++ ((a1,a2,a3,a4,()) :: List.replicate m (3,a2,0,0,())) ++ ps.drop (j+1+m)) (fun x=>((j:Int)+n - x.1.1).toNat) ?_ ?_) fun r hr=>tot_some ⟨rfl,hr⟩)
 · refine ⟨0,by dsimp only;omega,h1,?_⟩
   dsimp only
   have e:ps=ps.take j ++ ps[j]'(by omega) :: ps.drop (j+1):=by rw [<-List.drop_eq_getElem_cons,List.take_append_drop]
   have e2:=congrArg (fun l=>l.set j (a1,a2,a3,a4,())) e
   rw [set_mid (by rw [List.length_take];omega)] at e2
   rw [e2];simp
 · rintro ⟨⟨(i:Int),_⟩,_,(qs:List PgD),_⟩ ⟨m,e1,e2,e3⟩
   dsimp only at e1 e2 e3 ⊢
   subst e1
   have hq:qs.length=ps.length:=by rw [e3];simp only [List.length_append,List.length_take,List.length_cons,List.length_replicate,List.length_drop];omega
   refine tot_cond (fun h=>?_) fun h=>tot_some ?_
   · simp only [decide_eq_true_eq] at h
     rw [W_id (n:=(j:Int)+1+m+1) (by omega)]
     refine tot_need (inB_iff.2 ⟨by omega,by omega⟩) (tot_some ?_)
     simp only [Sum.elim_inl]
     refine ⟨⟨m+1,by omega,by omega,?_⟩,by omega⟩
     rw [e3,show ((j:Int)+1+m).toNat=j+1+m by omega,List.drop_eq_getElem_cons (show j+1+m < ps.length by omega),set_mid (by simp only [List.length_append,List.length_take,List.length_cons,List.length_replicate];omega),List.replicate_succ']
     simp [Nat.add_assoc]
   · simp only [decide_eq_false_iff_not] at h
     simp only [Sum.elim_inr]
     obtain rfl:m=n - 1:=by omega
     rw [e3,show j+1+(n - 1)=j+n by omega]
theorem T_page_Large (pw np:Int) (ps:List PgD) (j n:Nat) (sp w:Int) (hl:ps.length<=1000000) (hn:P.needV pw np w=n) (h1:1<=n) (hf:FreeAt ps j n) (hs:0<=sp/\sp<=1) :
 Tot (fun r=>r.1.2.1=0/\r.1.1=ps.take j ++ ((2,sp,w,0,()) :: List.replicate (n - 1) (3,sp,0,0,())) ++ ps.drop (j+n)) (F_page_Large ((pw,np,()),ps,(j:Int),sp,w,())):=by
 rw [nf_page_Large];dsimp only
 rw [T_page_Need,Option.bind_some,hn]
 dsimp only
 refine tot_cond (fun h=>?_) fun _=>?_
 · simp only [decide_eq_true_eq] at h;omega
 rw [T_page_isSpace,Option.bind_some]
 have:P.spaceB sp=true:=decide_eq_true (by omega)
 rw [this]
 refine tot_cond (fun h=>by cases h) fun _=>tot_bind (T_page_take ps j n 2 sp w 0 hl h1 hf) fun r hr=>tot_some hr
end Go.VI
namespace Go.VI
open Go
abbrev FiD:=Int × Int × Unit
def toFi (f:Int × Nat):FiD:=(f.1,(f.2:Int),())
theorem bits_or (a b:Nat) (ha:a < 18446744073709551616) (hb:b < 18446744073709551616):bits2 IntKind.u64 (fun (x1 x2:BitVec IntKind.u64.bits)=>x1 ||| x2) (a:Int) (b:Int)=((a ||| b:Nat):Int):=by
 have hx:a ||| b < 2 ^ 64:=Nat.or_lt_two_pow (by omega) (by omega)
 show IntKind.u64.wrap ((BitVec.ofInt 64 (a:Int) ||| BitVec.ofInt 64 (b:Int)).toNat:Int)=_
 have e:∀ c:Nat,c < 18446744073709551616->(BitVec.ofInt 64 (c:Int)).toNat=c:=fun c hc=>by
  rw [BitVec.toNat_ofInt];omega
 rw [BitVec.toNat_or,e a ha,e b hb,IntKind.wrap_u64]
 omega
theorem fi_at (fs:List (Int × Nat)) {k:Nat} (hk:k < fs.length):∃ x,fs[k]?=some x/\(fs.map toFi).getD k (0,0,())=toFi x:=by
 refine ⟨fs[k],List.getElem?_eq_getElem hk,?_⟩
 rw [List.getD_eq_getElem?_getD,List.getElem?_map,List.getElem?_eq_getElem hk];rfl
theorem T_bits_Pack_S1_c (fs:List (Int × Nat)) (k:Nat) (x:Int × Nat) (hx:fs[k]?=some x):F_bits_Pack_S1_c ((k:Int),fs.map toFi,())=some ((x.1,()),fs.map toFi,()):=by
 obtain ⟨hk,-⟩:=List.getElem?_eq_some_iff.1 hx
 obtain ⟨y,hy,e⟩:=fi_at fs hk
 obtain rfl:x=y:=by rw [hx] at hy;exact Option.some.inj hy
 rw [nf_bits_Pack_S1_c];dsimp only
 rw [inB_iff.2 ⟨by omega,by rw [List.length_map];omega⟩,Int.toNat_natCast,e];rfl
theorem T_bits_fit_Pack (fs:List (Int × Nat)) (hl:fs.length<=100000000):Tot (fun r=>r.1.1=P.fitL 64 (fs.map (·.1))/\r.2.1=fs.map toFi) (F_bits_fit_c_bits_Pack_S1 (((fs.map toFi).length:Int),fs.map toFi,())):=by
 rw [nf_bits_fit_c_bits_Pack_S1];dsimp only
 rw [List.length_map]
 have hlm:(fs.map (·.1)).length=fs.length:=List.length_map ..
 refine tot_bind (P:=fun r=>match r with
  | .inl x=>(x.1.1=false/\P.fitL 64 (fs.map (·.1))=false)/\x.2.2.1.1=fs.map toFi
  | .inr x=>P.fitL 64 (fs.map (·.1))=true/\x.2.2.1.1=fs.map toFi) (tot_loop (fun x=>∃ k:Nat,x.1.2.2.1=(k:Int)/\k<=fs.length/\x.2.2.1.1=fs.map toFi/\0<=x.1.2.1/\x.1.2.1<=64/\P.fitL x.1.2.1 ((fs.map (·.1)).drop k)=P.fitL 64 (fs.map (·.1))) (fun x=>((fs.length:Int) - x.1.2.2.1).toNat) ⟨0,rfl,by omega,rfl,by dsimp only;omega,by dsimp only;omega,rfl⟩ ?_) fun r hr=>tot_sum (fun x hx=>?_) fun x hx=>?_
 · rintro ⟨⟨(q:Bool),(lf:Int),(i:Int),_⟩,_,⟨(l:List FiD),_⟩,_⟩ ⟨k,e,hk,el,h0,h64,hp⟩
   dsimp only at e el h0 h64 hp ⊢
   rw [e,el]
   refine tot_cond (fun h1=>?_) fun h1=>tot_some ?_
   · simp only [decide_eq_true_eq] at h1
     have hk':k < fs.length:=by omega
     obtain ⟨x,hx,-⟩:=fi_at fs hk'
     have hx':(fs.map (·.1))[k]?=some x.1:=by rw [List.getElem?_map,hx];rfl
     rw [T_bits_Pack_S1_c fs k x hx,Option.bind_some]
     dsimp only
     refine tot_cond (fun h2=>tot_some ⟨⟨rfl,?_⟩,rfl⟩) fun h2=>?_
     · rw [<-hp];exact P.fitL_no hx' (.inl (by simpa using h2))
     simp only [decide_eq_false_iff_not] at h2
     rw [T_bits_Pack_S1_c fs k x hx,Option.bind_some]
     dsimp only
     refine tot_cond (fun h3=>tot_some ⟨⟨rfl,?_⟩,rfl⟩) fun h3=>?_
     · rw [<-hp];exact P.fitL_no hx' (.inr (by simpa using h3))
     simp only [decide_eq_false_iff_not] at h3
     rw [T_bits_Pack_S1_c fs k x hx,Option.bind_some]
     dsimp only
     rw [W_id (n:=lf - x.1) (by omega),W_id (n:=(k:Int)+1) (by omega)]
     refine tot_some ⟨⟨k+1,by dsimp only;omega,by omega,rfl,by dsimp only;omega,by dsimp only;omega,?_⟩,by dsimp only;omega⟩
     rw [<-hp];exact (P.fitL_yes hx' h2 (by omega)).symm
   · simp only [decide_eq_false_iff_not] at h1
     refine ⟨?_,rfl⟩
     rw [<-hp];exact P.fitL_end (by omega)
 · subst hx;exact tot_some ⟨hr.1.1.trans hr.1.2.symm,hr.2⟩
 · subst hx;exact tot_some ⟨hr.1.symm,hr.2⟩
theorem T_bits_Pack (fs:List (Int × Nat)) (hl:fs.length<=1000) (hv:∀ f∈fs,f.2 < 18446744073709551616):Tot (fun r=>r.1.1=(P.packB fs).1/\r.1.2.1=(P.packB fs).2) (F_bits_Pack (fs.map toFi,())):=by
 rw [nf_bits_Pack];dsimp only
 refine tot_bind (T_bits_fit_Pack fs (by omega)) ?_
 rintro ⟨⟨(b:Bool),_⟩,(l:List FiD),_⟩ ⟨hb,el⟩
 dsimp only at hb el ⊢
 rw [hb,el,List.length_map]
 refine tot_cond (fun h1=>tot_some ?_) fun h1=>?_
 · simp only [Bool.not_eq_true'] at h1
   rw [P.packB_no (by rw [h1];decide)];exact ⟨rfl,rfl⟩
 simp only [Bool.not_eq_false'] at h1
 rw [W_id (n:=(fs.length:Int) - 1) (by omega)]
 refine tot_bind (P:=fun r=>match r with
  | .inl x=>P.okF fs=false/\x.1.1=0/\x.1.2.1=2
  | .inr y=>P.okF fs=true/\y.1.2.2.1=((P.packR fs:Nat):Int)) (tot_loop (fun y=>∃ j:Nat,y.1.2.2.2.1=(j:Int)/\j<=fs.length/\P.okF (fs.drop (fs.length - j))=true/\y.1.2.2.1=((P.packR (fs.drop (fs.length - j)):Nat):Int)) (fun y=>((fs.length:Int) - y.1.2.2.2.1).toNat) ⟨0,rfl,by omega,by rw [List.drop_of_length_le (by omega)];rfl,by rw [List.drop_of_length_le (by omega)];rfl⟩ ?_) ?_
 · rintro ⟨⟨(y1:Int),(y2:Int),(v:Int),(i:Int),_⟩,_⟩ ⟨j,e,hj,ho,ev⟩
   dsimp only at e ev ⊢
   rw [e]
   refine tot_cond (fun h2=>?_) fun h2=>tot_some ?_
   · simp only [decide_eq_true_eq] at h2
     obtain ⟨k,hk⟩:∃ k:Nat,k+1+j=fs.length:=⟨fs.length - 1 - j,by omega⟩
     have w1:W ((fs.length:Int) - 1 - j)=(k:Nat):=by rw [W_id (by omega)];omega
     have hk':k < fs.length:=by omega
     obtain ⟨x,hx,hg⟩:=fi_at fs hk'
     rw [w1,Int.toNat_natCast,hg]
     rw [show fs.length - j=k+1 from by omega] at ho ev
     have hin:inB (k:Int) fs.length=true:=inB_iff.2 ⟨by omega,by omega⟩
     refine tot_need hin ?_
     have hx1:(toFi x).1=x.1:=rfl
     have hx2:(toFi x).2.1=(x.2:Int):=rfl
     rw [hx1,hx2,T_bits_Ones,Option.bind_some]
     dsimp only
     refine tot_cond (fun h3=>tot_some ⟨?_,rfl,rfl⟩) fun h3=>?_
     · simp only [decide_eq_true_eq] at h3
       exact P.pack_bad hx (by omega)
     simp only [decide_eq_false_iff_not] at h3
     obtain ⟨fa1,fa2⟩:=P.fits_all h1 k
     rw [drop_at' hx] at fa1 fa2
     have hxb:=fa1 x.1 (by simp)
     refine tot_need (by simp;omega) (tot_some ?_)
     have hlt:=P.packR_lt (fs.drop (k+1)) ho (fun z hz=>(P.fits_all h1 (k+1)).1 z hz)
     simp only [List.map_cons,P.sumW] at fa2
     generalize hR:P.packR (fs.drop (k+1))=R at *
     generalize hS:P.sumW ((fs.drop (k+1)).map (·.1))=S at *
     have hpow:R*2 ^ x.1.toNat < 18446744073709551616:=by
      calc R*2 ^ x.1.toNat < 2 ^ S*2 ^ x.1.toNat:=Nat.mul_lt_mul_of_pos_right hlt (Nat.pow_pos (by omega))
       _=2 ^ (S+x.1.toNat):=(Nat.pow_add ..).symm
       _<=2 ^ 64:=Nat.pow_le_pow_right (by omega) (by omega)
       _=_:=by decide
     have hu:U (v*2 ^ min x.1.toNat IntKind.u64.bits)=((R <<< x.1.toNat:Nat):Int):=by
      have hb:IntKind.u64.bits=64:=rfl
      rw [hb,show min x.1.toNat 64=x.1.toNat from by omega,ev,<-P.ipow_cast,<-Int.natCast_mul,Nat.shiftLeft_eq]
      exact U_id (by omega)
     have hp:P.packR (fs.drop k)=R <<< x.1.toNat ||| x.2:=by rw [drop_at' hx,P.packR,hR]
     have hx3:=hv x (List.mem_of_getElem? hx)
     rw [hu,bits_or _ _ (by rw [Nat.shiftLeft_eq];exact hpow) hx3]
     rw [W_id (n:=(j:Int)+1) (by omega)]
     refine ⟨⟨j+1,by dsimp only;omega,by omega,?_,?_⟩,by dsimp only;omega⟩
     · rw [show fs.length - (j+1)=k from by omega,drop_at' hx]
       unfold P.okF at ho ⊢
       rw [List.all_cons,ho,Bool.and_true]
       exact decide_eq_true (by omega)
     · rw [show fs.length - (j+1)=k from by omega,hp]
   · simp only [decide_eq_false_iff_not] at h2
     obtain rfl:j=fs.length:=by omega
     rw [Nat.sub_self,List.drop_zero] at ho ev
     exact ⟨ho,ev⟩
 · intro r hr
   refine tot_sum (fun x hx=>?_) fun x hx=>?_
   · subst hx
     obtain ⟨h2,h3,h4⟩:=hr
     rw [P.packB_bad h1 h2]
     exact tot_some ⟨h3,h4⟩
   · subst hx
     obtain ⟨h2,h3⟩:=hr
     rw [P.packB_ok h1 h2]
     exact tot_some ⟨h3,rfl⟩
theorem T_header_Encode (k n m:Int) (hm:0<=m/\m < 4294967296):F_header_Encode ((k,n,m,()),())=some ((P.encV k n m,P.encE k n m,()),()):=by
 have key:∀ {o:Option ((Int × Int × Unit) × Unit)},Tot (fun r=>r.1.1=P.encV k n m/\r.1.2.1=P.encE k n m) o->o=some ((P.encV k n m,P.encE k n m,()),()):=fun h=>by
  obtain ⟨⟨⟨(a:Int),(b:Int),_⟩,_⟩,rfl,e1,e2⟩:=h
  dsimp only at e1 e2
  rw [e1,e2]
 refine key ?_
 rw [nf_header_Encode];dsimp only
 rw [T_header_Valid k n m hm,Option.bind_some]
 dsimp only
 cases hv:P.validB k n m
 · obtain ⟨e1,e2⟩:=P.enc_no hv
   rw [e1,e2];exact tot_some ⟨rfl,rfl⟩
 · obtain ⟨e1,e2⟩:=P.enc_ok hv
   have vp:=P.valid_parts hv
   obtain ⟨k,rfl⟩:=Int.eq_ofNat_of_zero_le vp.1
   obtain ⟨n,rfl⟩:=Int.eq_ofNat_of_zero_le vp.2.2.1
   obtain ⟨m,rfl⟩:=Int.eq_ofNat_of_zero_le hm.1
   rw [e1,e2,U_id (n:=(k:Int)) (by omega),U_id (n:=(n:Int)) (by omega),U_id (n:=(m:Int)) (by omega)]
   have hp:=P.pack_head (k:=k) (n:=n) (m:=m) (by omega) (by omega) (by omega)
   have ht:=T_bits_Pack [(2,1),(2,k),(12,n),(32,m)] (by simp) (by
    intro f hf
    simp only [List.mem_cons,List.not_mem_nil,or_false] at hf
    rcases hf with e | e | e | e <;> rw [e] <;> dsimp only <;> omega)
   rw [hp] at ht
   have e:([(2,1,()),(2,(k:Int),()),(12,(n:Int),()),(32,(m:Int),())]:List FiD)=([(2,1),(2,k),(12,n),(32,m)]:List (Int × Nat)).map toFi:=rfl
   rw [e]
   refine tot_cond (fun c=>by simp at c) fun _=>tot_bind ht ?_
   rintro ⟨⟨(a:Int),(b:Int),_⟩,_⟩ hr
   exact tot_some hr
theorem T_object_Init (h:HpD) (hw:HpW h) (a k n m:Int) (ha:0<=a/\a < 18446744073709551616) (hm:0<=m/\m < 4294967296):Tot (fun r=>r.1.2.1=P.initE (toHp h) a k n m/\toHp r.1.1=P.initV (toHp h) a k n m) (F_object_Init (h,a,(k,n,m,()),())):=by
 rw [nf_object_Init];dsimp only
 rw [toHp_eta]
 have bad:P.initE (toHp h) a k n m=1->Tot (fun r:(HpD × Int × Unit) × Unit=>r.1.2.1=P.initE (toHp h) a k n m/\toHp r.1.1=P.initV (toHp h) a k n m) (some ((H0,1,()),())):=fun e=>by
  unfold P.initV
  rw [e]
  exact tot_some ⟨rfl,rfl⟩
 refine tot_bind (T_page_Proper h hw) ?_
 rintro ⟨⟨(b:Bool),_⟩,_⟩ hb
 have hb:b=P.okH (toHp h):=hb
 subst hb
 refine tot_cond (fun h1=>bad ?_) fun h1=>?_
 · simp only [Bool.not_eq_true'] at h1
   unfold P.initE
   rw [if_neg (by rw [h1];simp)]
 simp only [Bool.not_eq_false'] at h1
 rw [T_header_Encode k n m hm,Option.bind_some]
 dsimp only
 cases hv:P.validB k n m
 · obtain ⟨e1,e2⟩:=P.enc_no hv
   rw [e2]
   refine bad ?_
   unfold P.initE
   rw [if_neg (by rw [hv];simp)]
 obtain ⟨e1,e2⟩:=P.enc_ok hv
 have vp:=P.valid_parts hv
 rw [e1,e2,T_header_Size k n m hm,Option.bind_some,P.size_ok hv]
 dsimp only
 refine tot_cond (fun c=>by simp at c) fun _=>tot_need (decide_eq_true (by omega)) (tot_need (small_iff.2 (by omega)) (tot_need (inB_iff.2 ⟨by omega,by rw [List.length_replicate];omega⟩) ?_))
 have el:(List.replicate (n+1).toNat (0:Int)).set (Int.toNat 0) (P.wordV k n m)=P.initL k n m:=by
  rw [show (n+1).toNat=n.toNat+1 from by omega,List.replicate_succ];rfl
 rw [el,T_object_write h hw a (P.initL k n m) (by rw [P.initL_len];omega) ha,Option.bind_some]
 refine tot_some ?_
 have hE:P.initE (toHp h) a k n m=P.writeE h.2.1 a (P.initL k n m):=by unfold P.initE;rw [if_pos ⟨hv,h1⟩];rfl
 unfold P.initV
 rw [hE]
 by_cases hz:P.writeE h.2.1 a (P.initL k n m)=0
 · rw [if_pos hz,if_pos hz];exact ⟨rfl,rfl⟩
 · rw [if_neg hz,if_neg hz];exact ⟨rfl,rfl⟩
end Go.VI
namespace Go.VI
open Go
theorem tot_and {α:Type} {P Q:α->Prop} {o:Option α} (h:Tot P o) (k:Tot Q o):Tot (fun r=>P r/\Q r) o:=by
 obtain ⟨r,rfl,h⟩:=h
 obtain ⟨s,e,k⟩:=k
 cases e
 exact ⟨r,rfl,h,k⟩
namespace P
theorem runs_more {ps:List Pg} {i:Nat} (hg:∀ r∈runsTo ps i,r.1+r.2 < (i:Int)):∀ m:Nat,(∀ t:Nat,t < m->∃ x,ps[i+t]?=some x/\x.kind=0)->runsTo ps (i+m)=if m=0 then runsTo ps i else runsTo ps i ++ [((i:Int),(m:Int))]:=by
 intro m
 induction m with
 | zero=>intro _;rfl
 | succ m ih =>
  intro hfree
  obtain ⟨x,hx,h0⟩:=hfree m (by omega)
  rw [show i+(m+1)=i+m+1 from by omega,runsTo_step hx,ih (fun t ht=>hfree t (by omega)),if_neg (show ¬(m+1=0) from by omega)]
  rcases Nat.eq_zero_or_pos m with hz | hp
  · subst hz
    rw [if_pos rfl]
    rcases runs_cases (runsTo ps i) with e | ⟨pre,r,e⟩
    · rw [e,runStep_nil h0];simp
    · have:=hg r (by rw [e];simp)
      rw [e,runStep_new h0 (by omega)];simp
  · rw [if_neg (show ¬(m=0) from by omega),runStep_bump h0 (by simp only;omega)]
    simp
end P
theorem X_page_freeFrom (ps:List PgD) (i:Int) (h0:0<=i) (hi:i<=ps.length) (hl:ps.length<=1000000):Tot (fun r=>FreeAt ps i r.1.1/\(i+r.1.1 < ps.length->¬(ps.getD (i+r.1.1).toNat PG0).1=0)) (F_page_freeFrom (ps,i,())):=by
 rw [nf_page_freeFrom];dsimp only
 refine tot_bind (P:=fun r=>FreeAt ps i r.1.1/\(i+r.1.1 < ps.length->¬(ps.getD (i+r.1.1).toNat PG0).1=0)) (tot_loop (fun x=>FreeAt ps i x.1.1) (fun x=>((ps.length:Int) - i - x.1.1).toNat) ⟨h0,by dsimp only;omega,by dsimp only;omega,fun j a b=>by dsimp only at b;omega⟩ ?_) fun r hr=>tot_some hr
 rintro ⟨⟨(n:Int),_⟩,_⟩ ⟨f1,f2,f3,f4⟩
 dsimp only at f1 f2 f3 f4 ⊢
 rw [W_id (n:=i+n) (by omega),W_id (n:=n+1) (by omega)]
 refine tot_need (need_if fun h=>?_) (tot_cond (fun h=>tot_some ?_) fun h=>tot_some ?_)
 · simp only [decide_eq_true_eq] at h;exact inB_iff.2 ⟨by omega,h⟩
 · simp only [cand,Bool.and_eq_true,decide_eq_true_eq,beq_iff_eq] at h
   simp only [Sum.elim_inl]
   exact ⟨⟨f1,by omega,by omega,fun j a b=>if c:j < i+n then f4 j a c else by rw [show j=i+n by omega];exact h.2⟩,by omega⟩
 · simp only [cand,Bool.and_eq_false_iff,decide_eq_false_iff_not,beq_eq_false_iff_ne,ne_eq] at h
   simp only [Sum.elim_inr]
   exact ⟨⟨f1,f2,f3,f4⟩,fun c=>h.resolve_left (fun q=>q c)⟩
theorem X_page_Runs (ps:List PgD) (hl:ps.length<=1000000):Tot (fun r=>r.1.1.map toR=P.runsV (ps.map toPg)) (F_page_Runs (ps,())):=by
 rw [nf_page_Runs];dsimp only
 have hlm:(ps.map toPg).length=ps.length:=List.length_map ..
 refine tot_bind (P:=fun r=>r.2.1.1.map toR=P.runsV (ps.map toPg)) (tot_loop (fun x=>∃ j k:Nat,x.1.2.1=(k:Int)/\k<=ps.length+1/\j<=ps.length/\(j=k\/j=ps.length)/\j<=k/\(∀ r∈P.runsTo (ps.map toPg) j,r.1+r.2 < (k:Int))/\x.2.1.1.map toR=P.runsTo (ps.map toPg) j) (fun x=>((ps.length:Int)+1 - x.1.2.1).toNat) ⟨0,0,rfl,by omega,by omega,.inl rfl,by omega,fun r hr=>by simp [P.runsTo] at hr,rfl⟩ ?_) fun r hr=>tot_some hr
 rintro ⟨⟨_,(i:Int),_⟩,⟨(rs:List (Int × Int × Unit)),_⟩,_⟩ ⟨j,k,e1,e2,e3,e4,e5,e6,e7⟩
 dsimp only at e1 e7 ⊢
 subst e1
 have hrl:=P.runs_len (ps.map toPg) j
 rw [<-e7,List.length_map] at hrl
 refine tot_cond (fun h=>?_) fun h=>tot_some ?_
 · simp only [decide_eq_true_eq] at h
   obtain rfl:j=k:=by omega
   refine tot_bind (X_page_freeFrom ps j (by omega) (by omega) hl) ?_
   rintro ⟨⟨(n:Int),_⟩,_⟩ ⟨hf,hs⟩
   obtain ⟨m,rfl⟩:=Int.eq_ofNat_of_zero_le (show 0<=n from hf.2.1)
   obtain ⟨g1,g2⟩:=FreeAt.nat (n:=m) hf
   dsimp only at hs ⊢
   rw [W_id (n:=(j:Int)+m) (by omega),W_id (n:=(j:Int)+m+1) (by omega)]
   have hadd:=P.runs_more e6 m fun t ht=>⟨_,map_at (ps:=ps) (show j+t < ps.length by omega),g2 (j+t) (by omega) (by omega)⟩
   have hend:∃ j',j'<=ps.length/\(j'=j+m+1\/j'=ps.length)/\j'<=j+m+1/\P.runsTo (ps.map toPg) j'=P.runsTo (ps.map toPg) (j+m):=by
    by_cases c:j+m < ps.length
    · refine ⟨j+m+1,by omega,.inl rfl,by omega,?_⟩
      have:=hs (by omega)
      rw [show ((j:Int)+m).toNat=j+m by omega] at this
      rw [P.runsTo_step (map_at (ps:=ps) c),P.runStep_no this]
    · exact ⟨j+m,by omega,.inr (by omega),by omega,rfl⟩
   obtain ⟨j',k1,k2,k3,k4⟩:=hend
   have hgap:∀ r∈P.runsTo (ps.map toPg) j',r.1+r.2 < ((j+m+1:Nat):Int):=fun r hr=>by
    rw [k4] at hr
    have:=P.runs_bd _ (j+m) r hr
    omega
   refine tot_need (need_if fun _=>small_iff.2 (by simp only [List.length_cons,List.length_nil];omega)) (tot_cond (fun h4=>tot_some ?_) fun h4=>tot_some ?_)
   · simp only [decide_eq_true_eq] at h4
     simp only [Sum.elim_inl]
     refine ⟨⟨j',j+m+1,by omega,by omega,k1,k2,k3,hgap,?_⟩,by omega⟩
     rw [k4,hadd,if_neg (by omega),List.map_append,e7];rfl
   · simp only [decide_eq_false_iff_not] at h4
     simp only [Sum.elim_inl]
     refine ⟨⟨j',j+m+1,by omega,by omega,k1,k2,k3,hgap,?_⟩,by omega⟩
     rw [k4,hadd,if_pos (by omega),e7]
 · simp only [decide_eq_false_iff_not] at h
   simp only [Sum.elim_inr]
   rw [e7,P.runsV,hlm,show j=ps.length by omega]
theorem X_page_First (ps:List PgD) (k:Int) (hl:ps.length<=1000000):Tot (fun r=>r.1.1=P.firstV (ps.map toPg) k) (F_page_First (ps,k,())):=by
 rw [nf_page_First];dsimp only
 rw [P.firstV_from]
 refine tot_cond (fun h=>tot_some ?_) fun hk=>?_
 · simp only [decide_eq_true_eq] at h
   rcases P.firstFrom_mem (k:=k) (P.runsV (ps.map toPg)) with e | ⟨r,-,-,h1,-⟩
   · exact e.symm
   · omega
 simp only [decide_eq_false_iff_not] at hk
 refine tot_bind (tot_and (X_page_Runs ps hl) (T_page_Runs ps hl)) ?_
 rintro ⟨⟨(rs:List (Int × Int × Unit)),_⟩,_⟩ ⟨h0,-,hlen⟩
 dsimp only at h0 hlen ⊢
 rw [<-h0]
 refine tot_bind (P:=fun r=>match r with
  | .inl x=>x.1.1=P.firstFrom k (rs.map toR)
  | .inr _=>P.firstFrom k (rs.map toR) = -1) (tot_loop (fun x=>∃ i:Nat,x.1.2.1=(i:Int)/\i<=rs.length/\P.firstFrom k ((rs.map toR).drop i)=P.firstFrom k (rs.map toR)) (fun x=>((rs.length:Int) - x.1.2.1).toNat) ⟨0,rfl,by omega,rfl⟩ ?_) ?_
 · rintro ⟨⟨(a:Int),(j:Int),_⟩,_⟩ ⟨i,e,hi,he⟩
   dsimp only at e ⊢
   subst e
   refine tot_cond (fun h=>?_) fun h=>tot_some ?_
   · simp only [decide_eq_true_eq] at h
     have hi:i < rs.length:=by omega
     have w1:W ((i:Int)+1)=i+1:=W_id (by omega)
     have hat:(rs.map toR)[i]?=some (toR (rs.getD i (0,0,()))):=by
      rw [List.getElem?_map,List.getD_eq_getElem?_getD,List.getElem?_eq_getElem hi];rfl
     rw [P.firstFrom_at hat] at he
     rw [w1,Int.toNat_natCast]
     refine tot_need (inB_iff.2 ⟨by omega,h⟩) (tot_cond (fun hc=>tot_some ?_) fun hc=>tot_some ?_)
     · simp only [decide_eq_true_eq] at hc
       rw [if_pos ⟨by omega,show k<=(rs.getD i (0,0,())).2.1 by omega⟩] at he
       simp only [Sum.elim_inr]
       exact he
     · simp only [decide_eq_false_iff_not] at hc
       rw [if_neg (by simp only [toR];omega)] at he
       simp only [Sum.elim_inl]
       exact ⟨⟨i+1,by omega,by omega,he⟩,by omega⟩
   · simp only [decide_eq_false_iff_not] at h
     rw [P.firstFrom_end (by rw [List.length_map];omega)] at he
     simp only [Sum.elim_inr]
     exact he.symm
 · rintro r hr
   refine tot_sum (fun a ha=>?_) fun b hb=>tot_some ?_
   · subst ha
     exact tot_some hr
   · subst hb;exact hr.symm
theorem T_page_Limit (pw np:Int):F_page_Limit ((pw,np,()),())=some ((P.limitV pw np,()),()):=by
 rw [nf_page_Limit];dsimp only
 rw [T_page_ValidConf,Option.bind_some]
 dsimp only
 unfold P.limitV
 rw [confB_eq]
 cases h:confB pw np
 · rfl
 · have c:=confB_iff.1 h
   simp only [Bool.not_true,cond_false,if_true]
   rw [Int.tdiv_eq_ediv_of_nonneg (by omega),W_id (by omega)];rfl
theorem T_page_Address (pw np p o:Int) (hc:confB pw np=true) (h:0<=p/\p < np/\0<=o/\o < pw):F_page_Address ((pw,np,()),p,o,())=some ((4096+p*pw+o,0,()),()):=by
 have c2:=confB_iff.1 hc
 have kp:=P.page_prod (pw:=pw) (np:=np) (by rw [confB_eq];exact hc) (p:=p) (by omega) (by omega)
 have cp:=P.conf_prod (pw:=pw) (np:=np) (by rw [confB_eq];exact hc)
 rw [nf_page_Address];dsimp only
 rw [T_page_ValidConf,Option.bind_some,hc,T_page_within,Option.bind_some,T_page_within,Option.bind_some]
 dsimp only
 rw [W_id (n:=np - 1) (by omega),W_id (n:=pw - 1) (by omega),decide_eq_true (show 0<=p/\p<=np - 1 by omega),decide_eq_true (show 0<=o/\o<=pw - 1 by omega)]
 simp only [Bool.not_true,cond_false]
 have v1:W (p*pw)=p*pw:=W_id (by omega)
 have v2:W (p*pw+o)=p*pw+o:=W_id (by omega)
 have v3:U (p*pw+o)=p*pw+o:=U_id (by omega)
 have v4:U (4096+(p*pw+o))=4096+(p*pw+o):=U_id (by omega)
 rw [v1,v2,v3,v4,Int.add_assoc]
theorem T_alloc_spotAt (h:HpD) (i o:Int) (hc:confB h.1.1 h.1.2.1=true) (hi:0<=i/\i < h.1.2.1/\0<=o/\o < h.1.1):F_alloc_spotAt (h,i,o,())=some ((some (h,4096+i*h.1.1+o,()),()),()):=by
 rw [nf_alloc_spotAt];dsimp only
 rw [T_page_Address _ _ _ _ hc hi,Option.bind_some]
 rfl
theorem T_alloc_Asks (pw np k n m:Int) (hm:0<=m/\m < 4294967296):F_alloc_Asks ((pw,np,()),(k,n,m,()),())=some ((P.asksB pw np k n m,()),()):=by
 rw [nf_alloc_Asks];dsimp only
 by_cases hk:k=0
 · subst hk;rw [P.asks_zero rfl];rfl
 · rw [show (k != 0)=true from by simpa using hk,T_header_Size k n m hm,P.asks_else hk]
   simp only [cond_true,Option.bind_some]
   rw [T_page_Need,Option.bind_some]
end Go.VI
namespace Go.VI
open Go
theorem in_of_addr {pw np p o:Int} (hc:P.confB pw np=true) (h:P.addrE pw np p o=0):0<=p/\p < np/\0<=o/\o < pw:=by
 cases hi:P.inPg pw np p o
 · rw [(P.addr_out hc hi).2] at h;cases h
 · exact of_decide_eq_true hi
theorem T_alloc_bumpFits (h:HpD) (hp:P.PlOK7 (toHp h)) (n:Int) (hn:1<=n/\n<=100000):F_alloc_bumpFits (h,n,())=some ((P.fitsB h.1.1 (h.2.2.1.map toPg) h.2.2.2.1 h.2.2.2.2.1 n,()),()):=by
 obtain ⟨⟨pw,np,_⟩,ws,ps,sp,bu,_⟩:=h
 have hb:=hp.bump
 have hlm:(ps.map toPg).length=ps.length:=List.length_map ..
 simp only [toHp] at hb
 rw [map_getD,hlm] at hb
 rw [nf_alloc_bumpFits];dsimp only
 unfold P.fitsB
 rw [map_getD]
 generalize ps.getD bu.toNat PG0=B at *
 obtain ⟨bk,bs,bx,bp,_⟩:=B
 have e2:(toPg (bk,bs,bx,bp,())).space=bs:=rfl
 have e3:(toPg (bk,bs,bx,bp,())).used=bx:=rfl
 rw [e3] at hb
 rw [e2,e3]
 dsimp only
 by_cases c:bu = -1
 · subst c
   rw [show decide (¬(-1:Int) = -1/\bs=sp/\bx+n<=pw)=false from decide_eq_false (by simp)];rfl
 · have h2:=hb.2 c
   rw [show (bu == -1)=false from by simpa using c,W_id (n:=bx+n) (by omega),inB_iff.2 (by omega)]
   simp only [cond_false,cond_true]
   have:decide (¬bu = -1/\bs=sp/\bx+n<=pw)=(bif bs == sp then decide (bx+n<=pw) else false):=by
    by_cases c2:bs=sp <;> simp [c,c2]
   rw [this]
theorem T_alloc_bump (pw np:Int) (ws:List Int) (ps:List PgD) (sp:Int) (K:Nat) (n:Int) (hc:confB pw np=true) (hK:K < ps.length) (hl:ps.length<=1000000) (hn:1<=n/\n<=100000) (hi:0<=(K:Int)/\(K:Int) < np/\0<=(ps.getD K PG0).2.2.1/\(ps.getD K PG0).2.2.1 < pw) :
 F_alloc_bump (((pw,np,()),ws,ps,sp,(K:Int),()),n,())=some ((some (((pw,np,()),ws,ps.set K ((ps.getD K PG0).1,(ps.getD K PG0).2.1,(ps.getD K PG0).2.2.1+n,(ps.getD K PG0).2.2.2.1,()),sp,(K:Int),()),4096+K*pw+(ps.getD K PG0).2.2.1,()),()),()):=by
 have c2:=confB_iff.1 hc
 rw [nf_alloc_bump];dsimp only
 rw [inB_iff.2 ⟨by omega,by omega⟩,T_slices_Clone_api_Page ps (by omega)]
 simp only [cond_true,Option.bind_some]
 rw [inB_iff.2 ⟨by omega,by omega⟩]
 simp only [cond_true,Int.toNat_natCast]
 rw [W_id (n:=(ps.getD K PG0).2.2.1+n) (by omega),T_alloc_spotAt _ _ _ hc hi]
 rfl
theorem X_alloc_placeLarge (h:HpD) (hw:HpW h) (hp:P.okH (toHp h)=true) (n k:Int) (hk:P.needV (toHp h).pw (toHp h).np n=k) (h1:1<=k) :
 Tot (fun (r:(Option (HpD × Int × Unit) × Unit) × Unit)=>r.1.1.isSome=P.largeOKB (toHp h) k/\∀ s,r.1.1=some s->toHp s.1=P.largeH (toHp h) n k/\s.2.1=P.largeA (toHp h) k) (F_alloc_placeLarge (h,n,k,())):=by
 have hP:=okH_P hp
 have hpl:=P.PlOK7.of hP
 obtain ⟨p1,p2,p3,p4,p5,p6⟩:=P.okP_parts hP
 have c3:=P.conf_parts p1
 have k4:=P.needV_le2 (toHp h).pw (toHp h).np n
 have hspec:=fun hok=>P.large_spec (n:=n) hp hk hok
 obtain ⟨⟨pw,np,_⟩,ws,ps,sp,bu,_⟩:=h
 have hlm:(ps.map toPg).length=ps.length:=List.length_map ..
 simp only [toHp] at p1 p2 p3 p4 p5 p6 c3 k4 hk
 rw [hlm] at p3
 have hps:ps.length<=1000000:=by omega
 have hsp:=hpl.sp
 simp only [toHp] at hsp
 have hcf:confB pw np=true:=by rw [<-confB_eq];exact p1
 have huse:=P.inUse_le (ps.map toPg)
 rw [hlm] at huse
 have hlok:P.largeOKB (toHp ((pw,np,()),ws,ps,sp,bu,())) k=decide (¬(P.firstV (ps.map toPg) k < 0\/P.limitV pw np < P.inUse (ps.map toPg)+k)):=rfl
 rw [nf_alloc_placeLarge];dsimp only
 refine tot_bind (T_page_InUse ps (by omega)) ?_
 rintro ⟨⟨(use:Int),_⟩,_⟩ hu
 have hu:use=(P.inUse (ps.map toPg):Int):=hu
 rw [T_page_Limit,Option.bind_some]
 dsimp only
 rw [W_id (n:=use+k) (by omega)]
 refine tot_cond (fun h2=>tot_some ⟨?_,fun s hs=>by cases hs⟩) fun h2=>?_
 · simp only [decide_eq_true_eq] at h2
   rw [hlok,decide_eq_false (by omega)];rfl
 simp only [decide_eq_false_iff_not] at h2
 refine tot_bind (tot_and (X_page_First ps k hps) (T_page_First ps k hps)) ?_
 rintro ⟨⟨(f:Int),_⟩,_⟩ ⟨hf,hf2⟩
 have hf:f=P.firstV (ps.map toPg) k:=hf
 have hf2:f = -1\/1<=k/\FreeAt ps f k:=hf2
 dsimp only
 by_cases hneg:f < 0
 · have e:f = -1:=hf2.resolve_right fun c=>by have:=c.2.1;omega
   have hL:F_page_Large ((pw,np,()),ps,f,sp,n,())=some (([],2,()),()):=by
    rw [nf_page_Large];dsimp only
    rw [T_page_Need,Option.bind_some,hk]
    dsimp only
    rw [decide_eq_false (show ¬k < 1 by omega),T_page_isSpace,Option.bind_some,show P.spaceB sp=true from decide_eq_true (by omega)]
    simp only [cond_false,Bool.not_true]
    rw [nf_page_take];dsimp only
    rw [T_page_within,Option.bind_some,decide_eq_false (show ¬(0<=f/\_) from fun c=>by omega)]
    rfl
   rw [hL]
   refine tot_some ⟨?_,fun s hs=>by cases hs⟩
   rw [hlok,decide_eq_false (by omega)];rfl
 obtain ⟨-,hfree⟩:=hf2.resolve_left (by omega)
 have hOK:P.largeOKB (toHp ((pw,np,()),ws,ps,sp,bu,())) k=true:=by rw [hlok];exact decide_eq_true (by omega)
 obtain ⟨j,kk,s1,rfl,s3,s4,s5,s6,s7,s8⟩:=hspec hOK
 simp only [toHp] at s1 s4 s7
 rw [hlm] at s4
 obtain rfl:f=j:=by rw [hf,s1]
 refine tot_bind (T_page_Large pw np ps j kk sp n hps hk s3 hfree hsp) ?_
 rintro ⟨⟨(qs:List PgD),(e:Int),_⟩,_⟩ ⟨q1,q2⟩
 dsimp only at q1 q2 ⊢
 subst q1
 rw [T_alloc_spotAt _ _ _ hcf ⟨by omega,by dsimp only;omega,by omega,by dsimp only;omega⟩]
 refine tot_cond (fun c=>by simp at c) fun _=>tot_some ⟨by rw [hOK];rfl,fun s hs=>?_⟩
 dsimp only at hs
 cases hs
 refine ⟨?_,?_⟩
 · simp only [P.largeH,toHp,P.Hp.mk.injEq,true_and,and_true]
   rw [s7,q2]
   unfold P.put
   obtain ⟨t,rfl⟩:∃ t,kk=t+1:=⟨kk - 1,by omega⟩
   have e:∀ (X Y:List P.Pg) (x y:P.Pg),X.length=j->(X ++ List.replicate (t+1) y ++ Y).set j x=X ++ x :: (List.replicate t y ++ Y):=fun X Y x y hX=>by
    rw [List.append_assoc,List.replicate_succ,List.cons_append,set_mid hX]
   rw [e _ _ _ _ (by rw [List.length_take,hlm];omega)]
   simp [toPg,List.map_take,List.map_drop]
 · simp only [P.largeA,toHp]
   rw [s1];omega
theorem X_alloc_placeSmall (h:HpD) (hw:HpW h) (hp:P.okH (toHp h)=true) (n:Int) (hn:1<=n/\n<=100000) :
 Tot (fun (r:(Option (HpD × Int × Unit) × Unit) × Unit)=>r.1.1.isSome=P.smallOKB (toHp h) n/\∀ s,r.1.1=some s->toHp s.1=P.smallH (toHp h) n/\s.2.1=P.smallA (toHp h) n) (F_alloc_placeSmall (h,n,())):=by
 have hP:=okH_P hp
 have hpl:=P.PlOK7.of hP
 obtain ⟨p1,p2,p3,p4,p5,p6⟩:=P.okP_parts hP
 have c3:=P.conf_parts p1
 have hfits:=T_alloc_bumpFits h hpl n hn
 obtain ⟨⟨pw,np,_⟩,ws,ps,sp,bu,_⟩:=h
 have hlm:(ps.map toPg).length=ps.length:=List.length_map ..
 simp only [toHp] at p1 p2 p3 p4 p5 p6 c3
 rw [hlm] at p3
 have hps:ps.length<=1000000:=by omega
 have hsp:=hpl.sp
 simp only [toHp] at hsp
 have hcf:confB pw np=true:=by rw [<-confB_eq];exact p1
 dsimp only at hfits
 rw [nf_alloc_placeSmall];dsimp only
 rw [T_page_Limit,Option.bind_some]
 refine tot_bind (T_page_InUse ps (by omega)) ?_
 rintro ⟨⟨(use:Int),_⟩,_⟩ hu
 have hu:use=(P.inUse (ps.map toPg):Int):=hu
 dsimp only
 rw [hfits]
 simp only [Option.bind_some]
 have hA:P.newB (toHp ((pw,np,()),ws,ps,sp,bu,())) n=true->Tot (fun (r:(Option (HpD × Int × Unit) × Unit) × Unit)=>r.1.1.isSome=P.smallOKB (toHp ((pw,np,()),ws,ps,sp,bu,())) n/\∀ s,r.1.1=some s->toHp s.1=P.smallH (toHp ((pw,np,()),ws,ps,sp,bu,())) n/\s.2.1=P.smallA (toHp ((pw,np,()),ws,ps,sp,bu,())) n)
  (bif decide (use >= P.limitV pw np) then some ((none,()),())
   else (F_page_First (ps,1,())).bind fun (r:(Int × Unit) × Unit)=>(F_page_Small (ps,r.1.1,sp,())).bind fun (r_2:(List PgD × Int × Unit) × Unit) =>
    bif r_2.1.2.1 != 0 then some ((none,()),())
    else (F_alloc_bump (((pw,np,()),ws,r_2.1.1,sp,r.1.1,()),n,())).bind fun (r:(Option (HpD × Int × Unit) × Unit) × Unit)=>some ((r.1.1,()),())):=fun hnew=>by
  have hfull:P.smallFull (toHp ((pw,np,()),ws,ps,sp,bu,()))=decide (P.firstV (ps.map toPg) 1 < 0\/P.limitV pw np<=(P.inUse (ps.map toPg):Int)):=rfl
  have no:P.smallFull (toHp ((pw,np,()),ws,ps,sp,bu,()))=true->Tot (fun (r:(Option (HpD × Int × Unit) × Unit) × Unit)=>r.1.1.isSome=P.smallOKB (toHp ((pw,np,()),ws,ps,sp,bu,())) n/\∀ s,r.1.1=some s->toHp s.1=P.smallH (toHp ((pw,np,()),ws,ps,sp,bu,())) n/\s.2.1=P.smallA (toHp ((pw,np,()),ws,ps,sp,bu,())) n) (some ((none,()),())):=fun hf=>tot_some ⟨by rw [P.place_none hnew hf];rfl,fun s hs=>by cases hs⟩
  refine tot_cond (fun h2=>no ?_) fun h2=>?_
  · simp only [decide_eq_true_eq] at h2
    rw [hfull];exact decide_eq_true (.inr (by omega))
  simp only [decide_eq_false_iff_not] at h2
  refine tot_bind (tot_and (X_page_First ps 1 hps) (T_page_First ps 1 hps)) ?_
  rintro ⟨⟨(f:Int),_⟩,_⟩ ⟨hf,hf2⟩
  have hf:f=P.firstV (ps.map toPg) 1:=hf
  have hf2:f = -1\/(1:Int)<=1/\FreeAt ps f 1:=hf2
  dsimp only
  have hspb:P.spaceB sp=true:=decide_eq_true (by omega)
  by_cases hneg:f < 0
  · have hL:F_page_Small (ps,f,sp,())=some (([],2,()),()):=by
     rw [nf_page_Small];dsimp only
     rw [T_page_isSpace,Option.bind_some,hspb]
     simp only [cond_false,Bool.not_true]
     rw [nf_page_take];dsimp only
     rw [T_page_within,Option.bind_some,decide_eq_false (show ¬(0<=f/\_) from fun c=>by omega)]
     rfl
    rw [hL]
    exact no (by rw [hfull];exact decide_eq_true (.inl (by omega)))
  obtain ⟨-,hfree⟩:=hf2.resolve_left (by omega)
  have hnf:P.smallFull (toHp ((pw,np,()),ws,ps,sp,bu,()))=false:=by rw [hfull];exact decide_eq_false (by omega)
  obtain ⟨K,e1,e2,e3,e4,-,e6,e7,e8,e9⟩:=P.place_new hpl hnew hnf
  simp only [toHp] at e1 e2 e8
  rw [hlm] at e2
  obtain rfl:f=K:=by rw [hf,e1]
  have hin:=in_of_addr p1 e8
  refine tot_bind (P:=fun (r:(List PgD × Int × Unit) × Unit)=>r.1.2.1=0/\r.1.1=ps.set K (1,sp,0,0,())) ?_ ?_
  · rw [nf_page_Small];dsimp only
    rw [T_page_isSpace,Option.bind_some,hspb]
    simp only [cond_false,Bool.not_true]
    refine tot_bind (T_page_take ps K 1 1 sp 0 0 hps (by omega) hfree) fun r hr=>tot_some ⟨hr.1,hr.2.trans ?_⟩
    have e:ps=ps.take K ++ ps[K]'e2 :: ps.drop (K+1):=by rw [<-List.drop_eq_getElem_cons,List.take_append_drop]
    have e':=congrArg (fun l=>l.set K ((1,sp,0,0,()):PgD)) e
    rw [set_mid (by rw [List.length_take];omega)] at e'
    rw [e'];simp
  · rintro ⟨⟨(qs:List PgD),(e:Int),_⟩,_⟩ ⟨q1,q2⟩
    dsimp only at q1 q2 ⊢
    subst q1 q2
    have hg:(ps.set K ((1,sp,0,0,()):PgD)).getD K PG0=(1,sp,0,0,()):=by
     rw [List.getD_eq_getElem?_getD,List.getElem?_set,if_pos rfl,if_pos e2];rfl
    rw [T_alloc_bump pw np ws _ sp K n hcf (by rw [List.length_set];exact e2) (by rw [List.length_set];exact hps) hn (by rw [hg];exact hin),hg]
    refine tot_cond (fun c=>by simp at c) fun _=>tot_some ⟨by rw [e6];rfl,fun s hs=>?_⟩
    dsimp only at hs
    cases hs
    rw [e7,e9]
    refine ⟨?_,?_⟩
    · simp only [toHp,P.Hp.mk.injEq,true_and,and_true]
      rw [List.map_set,List.map_set];rfl
    · simp only [toHp]
      rw [(P.addr_ok p1 (decide_eq_true hin)).1]
 cases hfb:P.fitsB pw (ps.map toPg) sp bu n
 · have:=hA (P.newB_no hpl (.inr hfb))
   refine tot_cond (fun _=>?_) fun _=>this
   exact this
 · refine tot_cond (fun h2=>?_) fun h2=>hA (P.newB_no hpl (.inl ?_))
   · simp only [decide_eq_true_eq] at h2
     have hnb:=P.newB_yes (h:=toHp ((pw,np,()),ws,ps,sp,bu,())) hpl (show (P.inUse (ps.map toPg):Int)<=P.limitV pw np by omega) hfb
     obtain ⟨K,x,e1,e2,e3,e4,e5,e6,e7⟩:=P.place_bump hpl hn.1 hnb
     simp only [toHp] at e1 e2 e6
     have hK:K < ps.length:=by rw [<-hlm];exact (List.getElem?_eq_some_iff.1 e2).1
     rw [map_at hK] at e2
     injection e2 with e2
     subst e2
     have hin:=in_of_addr p1 e6
     subst e1
     rw [T_alloc_bump pw np ws ps sp K n hcf hK hps hn hin]
     refine tot_some ⟨by rw [e4];rfl,fun s hs=>?_⟩
     dsimp only at hs
     cases hs
     rw [e5,e7]
     refine ⟨?_,?_⟩
     · simp only [toHp,P.Hp.mk.injEq,true_and,and_true]
       rw [List.map_set];rfl
     · simp only [toHp]
       rw [(P.addr_ok p1 (decide_eq_true hin)).1];rfl
   · simp only [decide_eq_false_iff_not] at h2
     show ¬(P.inUse (ps.map toPg):Int)<=P.limitV pw np
     omega
end Go.VI
namespace Go.VI
open Go
theorem X_alloc_place (h:HpD) (hw:HpW h) (hp:P.okH (toHp h)=true) (n:Int) (hn:1<=n/\n<=100000) :
 Tot (fun (r:(Option (HpD × Int × Unit) × Unit) × Unit)=>r.1.1.isSome=P.placeOK (toHp h) n/\∀ s,r.1.1=some s->toHp s.1=P.placeH (toHp h) n/\s.2.1=P.placeA (toHp h) n) (F_alloc_place (h,n,())):=by
 rw [nf_alloc_place];dsimp only
 rw [toHp_eta,T_page_Need,Option.bind_some]
 dsimp only
 have e:P.needV h.1.1 h.1.2.1 n=P.needV (toHp h).pw (toHp h).np n:=rfl
 unfold P.placeOK P.placeH P.placeA
 refine tot_cond (fun h1=>?_) fun h1=>?_
 · simp only [decide_eq_true_eq] at h1
   have hpos:0 < P.needV (toHp h).pw (toHp h).np n:=h1
   rw [if_pos hpos,if_pos hpos,if_pos hpos]
   exact tot_bind (X_alloc_placeLarge h hw hp n _ rfl (by omega)) fun r hr=>tot_some hr
 · simp only [decide_eq_false_iff_not] at h1
   have hpos:¬0 < P.needV (toHp h).pw (toHp h).np n:=h1
   rw [if_neg hpos,if_neg hpos,if_neg hpos]
   exact tot_bind (X_alloc_placeSmall h hw hp n hn) fun r hr=>tot_some hr
theorem X_alloc_New (h:HpD) (hw:HpW h) (k n m:Int) (hm:0<=m/\m < 4294967296):Tot (fun r=>r.1.2.2.1=P.allocE (toHp h) k n m/\toHp r.1.1=P.allocH (toHp h) k n m/\r.1.2.1=P.allocA (toHp h) k n m) (F_alloc_New (h,(k,n,m,()),())):=by
 have bad:∀ c:Int,¬c=0->P.allocE (toHp h) k n m=c->Tot (fun r:(HpD × Int × Int × Unit) × Unit=>r.1.2.2.1=P.allocE (toHp h) k n m/\toHp r.1.1=P.allocH (toHp h) k n m/\r.1.2.1=P.allocA (toHp h) k n m) (some ((H0,0,c,()),())):=fun c h0 he=>by
  refine tot_some ⟨he.symm,?_,?_⟩
  · unfold P.allocH;rw [if_neg (by rw [he];exact h0)];rfl
  · unfold P.allocA;rw [if_neg (by rw [he];exact h0)]
 rw [nf_alloc_New];dsimp only
 rw [toHp_eta]
 refine tot_bind (T_page_Proper _ hw) fun r hr=>?_
 obtain ⟨⟨(b:Bool),_⟩,_⟩:=r
 have hb:b=P.okH (toHp h):=hr
 subst hb
 dsimp only
 rw [T_alloc_Asks _ _ k n m hm,Option.bind_some,T_header_Size k n m hm,Option.bind_some]
 dsimp only
 refine tot_cond (fun h1=>bad 1 (by decide) ?_) fun h1=>tot_cond (fun h2=>bad 1 (by decide) ?_) fun h2=>?_
 · simp only [Bool.not_eq_true'] at h1
   unfold P.allocE P.newAsk
   rw [h1];rfl
 · simp only [Bool.not_eq_true'] at h2
   unfold P.allocE P.newAsk
   rw [show P.asksB (toHp h).pw (toHp h).np k n m=false from h2];simp
 simp only [Bool.not_eq_false'] at h1 h2
 have hP:=okH_P h1
 have hask:P.newAsk (toHp h) k n m=true:=by
  unfold P.newAsk
  rw [h1,show P.asksB (toHp h).pw (toHp h).np k n m=true from h2];rfl
 have h2':P.asksB (toHp h).pw (toHp h).np k n m=true:=h2
 unfold P.asksB at h2'
 simp only [Bool.and_eq_true,decide_eq_true_eq] at h2'
 obtain ⟨⟨hv,hk0⟩,hne⟩:=h2'
 have c:=P.valid_parts hv
 have hsz:=P.size_ok hv
 obtain ⟨q1,q2,q3⟩:=P.place_eqs (toHp h) k n m
 refine tot_bind (X_alloc_place h hw h1 (P.sizeV k n m) (by omega)) ?_
 rintro ⟨⟨(o:Option (HpD × Int × Unit)),_⟩,_⟩ ⟨o1,o2⟩
 dsimp only at o1 o2 ⊢
 refine tot_cond (fun h3=>bad 3 (by decide) ?_) fun h3=>?_
 · simp only [Bool.not_eq_true'] at h3
   unfold P.allocE
   rw [if_pos hask,q1,<-o1,h3];rfl
 simp only [Bool.not_eq_false'] at h3
 obtain ⟨⟨g,a,_⟩,rfl⟩:=Option.isSome_iff_exists.1 h3
 obtain ⟨hg,hga⟩:=o2 _ rfl
 have hok:P.placeOK (toHp h) (P.sizeV k n m)=true:=o1.symm
 dsimp only [Option.getD_some] at hg hga ⊢
 rw [toHp_eta]
 obtain ⟨z1,z2,z3,z4⟩:=P.place_proper hP (show 1<=P.sizeV k n m by omega) hne hok
 have z5:=z4
 rw [<-hg] at z1 z2
 rw [<-hga] at z3 z4
 have hE:P.allocE (toHp h) k n m=0:=by unfold P.allocE;rw [if_pos hask,if_pos (by rw [q1];exact hok)]
 have hoH:P.okH (toHp g)=true:=by
  have:=z1
  unfold P.okP at this
  rw [P.properP_B] at this
  exact this
 have hie:P.initE (toHp g) a k n m=0:=by
  unfold P.initE P.writeE
  rw [if_pos ⟨hv,hoH⟩,P.initL_len,z2]
  rw [hsz] at z4
  rw [show n.toNat+1=(n+1).toNat by omega,if_pos z4]
 refine tot_bind (T_object_Init g (HpW.of hw z1 z2) a k n m z3 hm) ?_
 rintro ⟨⟨(v:HpD),(e:Int),_⟩,_⟩ ⟨r1,r2⟩
 dsimp only at r1 r2 ⊢
 rw [hie] at r1
 subst r1
 refine tot_cond (fun h4=>by simp at h4) fun _=>tot_some ?_
 dsimp only
 rw [toHp_eta]
 refine ⟨hE.symm,?_,?_⟩
 · rw [r2,hg,hga]
   unfold P.allocH
   rw [if_pos hE,q2,q3]
 · rw [hga]
   unfold P.allocA
   rw [if_pos hE,q3]
def roomD (h:HpD):Int:=if P.okH (toHp h)=true/\¬h.2.2.2.2.1 = -1 then W (h.1.1 - (h.2.2.1.getD h.2.2.2.2.1.toNat PG0).2.2.1) else 0
theorem room_in {h:HpD} (hp:P.okH (toHp h)=true) (hb:¬h.2.2.2.2.1 = -1):inB h.2.2.2.2.1 h.2.2.1.length=true:=by
 have:=(P.PlOK7.of (okH_P hp)).bump.1.resolve_left hb
 have e:(toHp h).pages.length=h.2.2.1.length:=List.length_map ..
 rw [e] at this
 exact inB_iff.2 this
theorem X_alloc_Room (h:HpD) (hw:HpW h):Tot (fun r=>r.1.1=roomD h) (F_alloc_Room (h,())):=by
 rw [nf_alloc_Room];dsimp only
 rw [toHp_eta]
 refine tot_bind (T_page_Proper _ hw) fun r hr=>?_
 obtain ⟨⟨(b:Bool),_⟩,_⟩:=r
 have hb:b=P.okH (toHp h):=hr
 subst hb
 dsimp only
 unfold roomD
 simp only [cor]
 refine tot_cond (fun h1=>tot_some ?_) fun h1=>?_
 · simp only [Bool.or_eq_true,Bool.not_eq_true',beq_iff_eq] at h1
   rw [if_neg]
   rintro ⟨a,b⟩
   rcases h1 with h1 | h1
   · rw [a] at h1;cases h1
   · exact b h1
 · simp only [Bool.or_eq_false_iff,Bool.not_eq_false',beq_eq_false_iff_ne,ne_eq] at h1
   rw [if_pos h1]
   exact tot_need (room_in h1.1 h1.2) (tot_some rfl)
end Go.VI
namespace Go.VI
open Go
theorem T_l07_awake:F_l07_awake ()=some ((true,()),()):=by
 refine law_key ?_
 rw [nf_l07_awake];dsimp only
 refine tot_bind (X_r04_New 16 8 (by decide)) ?_
 rintro ⟨⟨⟨⟨(pw:Int),(np:Int),_⟩,(ws:List Int),(ps:List PgD),(sp:Int),(bu:Int),_⟩,(e:Int),_⟩,_⟩ ⟨h1,h2⟩
 have hn:P.newHV 16 8=⟨16,8,List.replicate 128 0,List.replicate 8 P.Pg.zero,0,-1⟩:=(P.newH_ok (pw:=16) (np:=8) (by decide)).1.trans rfl
 have h1:toHp ((pw,np,()),ws,ps,sp,bu,())=P.newHV 16 8:=h1
 rw [hn] at h1
 have hl:ws.length=128/\ps.length=8:=by
  have a:=congrArg (fun h=>h.words.length) h1
  have b:=congrArg (fun h=>h.pages.length) h1
  simp only [toHp,List.length_map,List.length_replicate] at a b
  exact ⟨a,b⟩
 have hw:HpW ((pw,np,()),ws,ps,sp,bu,()):=⟨by dsimp only;omega,by dsimp only;omega,h2⟩
 rw [nf_l07_words]
 dsimp only [Option.bind_some]
 refine tot_bind (X_alloc_New _ hw 3 3 0 (by omega)) ?_
 rintro ⟨⟨(v:HpD),(a:Int),(e':Int),_⟩,_⟩ ⟨r1,r2,r3⟩
 dsimp only at r1 r2 r3 ⊢
 rw [h1] at r1 r2 r3
 have q1:P.allocE ⟨16,8,List.replicate 128 0,List.replicate 8 P.Pg.zero,0,-1⟩ 3 3 0=0:=by decide +kernel
 have q3:P.allocA ⟨16,8,List.replicate 128 0,List.replicate 8 P.Pg.zero,0,-1⟩ 3 3 0=4096:=by decide +kernel
 rw [q1] at r1
 rw [q3] at r3
 subst r1 r3
 have t1:(P.allocH ⟨16,8,List.replicate 128 0,List.replicate 8 P.Pg.zero,0,-1⟩ 3 3 0).words.length=128:=by decide +kernel
 have t2:(P.allocH ⟨16,8,List.replicate 128 0,List.replicate 8 P.Pg.zero,0,-1⟩ 3 3 0).pages.length=8:=by decide +kernel
 have t3:(P.allocH ⟨16,8,List.replicate 128 0,List.replicate 8 P.Pg.zero,0,-1⟩ 3 3 0).words.all (fun x=>decide (0<=x/\x < 18446744073709551616))=true:=by decide +kernel
 have t4:(P.allocH ⟨16,8,List.replicate 128 0,List.replicate 8 P.Pg.zero,0,-1⟩ 3 3 0).bump=0:=by decide +kernel
 have t5:(P.allocH ⟨16,8,List.replicate 128 0,List.replicate 8 P.Pg.zero,0,-1⟩ 3 3 0).pw=16:=by decide +kernel
 have t6:((P.allocH ⟨16,8,List.replicate 128 0,List.replicate 8 P.Pg.zero,0,-1⟩ 3 3 0).pages.getD 0 P.Pg.zero).used=4:=by decide +kernel
 have t7:P.okH (P.allocH ⟨16,8,List.replicate 128 0,List.replicate 8 P.Pg.zero,0,-1⟩ 3 3 0)=true:=by decide +kernel
 rw [<-r2] at t1 t2 t3 t4 t5 t6 t7
 obtain ⟨⟨pw',np',_⟩,ws',ps',sp',bu',_⟩:=v
 have hok:P.okH (toHp ((pw',np',()),ws',ps',sp',bu',()))=true:=t7
 simp only [toHp,List.length_map] at t1 t2 t3 t4 t5 t6
 rw [map_getD] at t6
 have hu:(ps'.getD 0 PG0).2.2.1=4:=t6
 have hwb:WBo ws':=fun x hx=>of_decide_eq_true (List.all_eq_true.1 t3 x hx)
 have hw':HpW ((pw',np',()),ws',ps',sp',bu',()):=⟨by dsimp only;omega,by dsimp only;omega,hwb⟩
 have hbu:bu'=0:=t4
 have hpw:pw'=16:=t5
 refine tot_cond (fun _=>tot_cond (fun _=>tot_cond (fun _=>?_) fun h=>?_) fun h=>by simp at h) fun h=>by simp at h
 · refine tot_bind (X_alloc_Room _ hw') ?_
   rintro ⟨⟨(z:Int),_⟩,_⟩ hz
   have hz:z=roomD ((pw',np',()),ws',ps',sp',bu',()):=hz
   unfold roomD at hz
   subst hbu hpw
   rw [if_pos ⟨hok,by dsimp only;omega⟩] at hz
   dsimp only at hz
   rw [show (0:Int).toNat=0 from rfl,hu,show W (16 - 4)=12 from by decide] at hz
   subst hz
   exact tot_some rfl
 · subst hbu;simp at h
theorem alloc_okH {h:P.Hp} {k n m:Int} (hE:P.allocE h k n m=0):P.okH (P.allocH h k n m)=true:=by
 obtain ⟨ho,hv,hk0,hs,hnd,hr,hn0,hoh,hpw,hoA,eH,eA⟩:=P.alloc_parts hE
 rw [eH,P.okH_words (by rw [P.write_len hoA,hpw])]
 exact hoh
theorem alloc_len {h:HpD} (hw:HpW h) {k n m:Int} {v:HpD} (hv:toHp v=P.allocH (toHp h) k n m):v.2.1.length<=100000000/\v.2.2.1.length<=100000000:=by
 have e1:(toHp v).words.length=v.2.1.length:=rfl
 have e2:(toHp v).pages.length=v.2.2.1.length:=List.length_map ..
 by_cases hE:P.allocE (toHp h) k n m=0
 · have hh:P.newAsk (toHp h) k n m=true:=by
    unfold P.allocE at hE
    cases hq:P.newAsk (toHp h) k n m
    · rw [hq] at hE;simp at hE
    · rfl
   have hok:P.okH (P.allocH (toHp h) k n m)=true:=alloc_okH hE
   rw [<-hv] at hok
   obtain ⟨p1,p2,p3,p4,p5,p6⟩:=P.okP_parts (okH_P hok)
   have cp:=P.conf_prod p1
   have c3:=P.conf_parts p1
   omega
 · rw [(P.alloc_no rfl hE).1] at hv
   rw [<-e1,<-e2,hv]
   exact ⟨by show (0:Nat)<=_;omega,by show (0:Nat)<=_;omega⟩
end Go.VI
namespace Go.VI
open Go
namespace P
theorem obj_fieldsE {h:Hp} {a:Int} (ha:a∈objectsV h):fieldsE h a=0:=by
 obtain ⟨g1,g2⟩:=obj_get ha
 obtain ⟨i,j,G,b⟩:=objects_begin ha
 have hwl:=b.wl
 have hp:=b.pos
 unfold osz at hwl hp
 unfold fieldsE
 rw [if_pos g1,g2]
 obtain ⟨n,hn⟩:=Int.eq_ofNat_of_zero_le (show 0<=(atH h a).n by omega)
 obtain ⟨s,hs⟩:∃ s:Nat,a+1=4096+(s:Int):=⟨(a+1 - 4096).toNat,by omega⟩
 rw [hn] at hwl ⊢
 rw [hs]
 exact (read_ok (okA_iff.2 (by omega))).2
theorem alloc_fresh {h:Hp} {k n m:Int} (he:allocE h k n m=0):¬allocA h k n m∈objectsV h:=by
 intro hmem
 obtain ⟨i,j',g,b⟩:=objects_begin hmem
 obtain ⟨ho,hv,hk0,hsz,hnd,hr,hn0,hoh,hpw,hoA,eH,eA⟩:=alloc_parts he
 obtain ⟨c,-,p3,-⟩:=okH_parts ho
 have c4:=conf_parts c
 have hos:=b.sz
 have hoi:=b.oi
 have had:=b.ad
 have hkd:=b.kd
 rw [eA] at hoi had hos hkd
 by_cases hpos:0 < needV h.pw h.np (n+1)
 · have e2:placeA h (n+1)=largeA h (needV h.pw h.np (n+1)):=by unfold placeA;rw [if_pos hpos]
   have hr:largeOKB h (needV h.pw h.np (n+1))=true:=by unfold placeOK at hr;rwa [if_pos hpos] at hr
   obtain ⟨j,kk,s1,s2,s3,s4,s5,s6,s7,s8⟩:=large_spec (n:=n+1) ho rfl hr
   have hA:largeA h (needV h.pw h.np (n+1))=4096+j*h.pw+0:=by unfold largeA;rw [s1];omega
   obtain ⟨a1,a2,a3⟩:=of_addr c (p:=(j:Int)) (o:=0) (decide_eq_true ⟨by omega,by omega,by omega,by omega⟩)
   obtain ⟨b1,b2,b3⟩:=of_ok c a1
   rw [e2,hA,b1,a2] at hoi
   obtain rfl:j=i:=by omega
   obtain ⟨y,hy,hy0⟩:=s6 j (Nat.le_refl _) (by omega)
   rw [b.pg] at hy
   injection hy with hy
   subst hy
   omega
 · have e2:placeA h (n+1)=smallA h (n+1):=by unfold placeA;rw [if_neg hpos]
   have hr:smallOKB h (n+1)=true:=by unfold placeOK at hr;rwa [if_neg hpos] at hr
   obtain ⟨j,x,s1,s2,s3,s4,s5,s6,s7,s8,s9⟩:=small_spec ho hr
   have hu:x.used < h.pw:=by
    rcases s9 with ⟨-,-,e,-⟩ | ⟨-,-,q⟩
    · have:x.used=0:=by rw [e]
      omega
    · omega
   have hA:smallA h (n+1)=4096+j*h.pw+x.used:=by unfold smallA;rw [s1,Int.toNat_natCast,getD_at s4]
   obtain ⟨a1,a2,a3⟩:=of_addr c (p:=(j:Int)) (o:=x.used) (decide_eq_true ⟨by omega,by omega,s6,hu⟩)
   obtain ⟨b1,b2,b3⟩:=of_ok c a1
   rw [e2,hA,b1,a2] at hoi
   obtain rfl:j=i:=by omega
   rw [e2,hA] at had
   have hju:(j':Int)=x.used:=by omega
   rcases s9 with ⟨-,-,-,-,y,hy,hy0⟩ | ⟨-,e,-⟩
   · rw [b.pg] at hy
     injection hy with hy
     subst hy
     omega
   · rw [e,b.pg] at s4
     injection s4 with s4
     subst s4
     omega
theorem alloc_objs {h:Hp} (G:Good h) {k n m:Int} (hm:0<=m) (he:allocE h k n m=0) :
 (atH (allocH h k n m) (allocA h k n m)).n=n/\(∀ t:Nat,(t:Int) < n->(fieldsV (allocH h k n m) (allocA h k n m))[t]?=some 0) /\
 ∀ a∈objectsV h,atH (allocH h k n m) a=atH h a/\fieldsV (allocH h k n m) a=fieldsV h a:=by
 obtain ⟨GX,hob⟩:=good_alloc G hm he
 have hfr:=alloc_fresh he
 obtain ⟨ho,hv,hk0,hsz,hnd,hr,hn0,hoh,hpw,hoA,eH,eA⟩:=alloc_parts he
 have hAX:allocA h k n m∈objectsV (allocH h k n m):=(hob _).2 (.inr rfl)
 have eW:(allocH h k n m).words=writeV h.words (allocA h k n m) (initL k n m):=by rw [eH,eA]
 have hoA:okA h.words.length (allocA h k n m) (initL k n m).length=true:=by rw [eA];exact hoA
 obtain ⟨l1,l2,l3⟩:=load_init (k:=k) (m:=m) hn0 hoA
 rw [<-eW] at l1 l2 l3
 generalize allocA h k n m=A at *
 generalize allocH h k n m=X at *
 have hA0:=(okA_iff.1 hoA).1
 have hwA:wordAt X A=(wordV k n m).toNat:=by rw [word_load hA0,l1]
 have hwb:=word_bd hv hm
 obtain ⟨d1,d2,d3,d4⟩:=word_dec hv hm (x:=(wordV k n m).toNat) (by omega)
 have hnA:(atH X A).n=n:=by
  obtain ⟨i,j,g,b⟩:=objects_begin hAX
  rw [b.hd,hwA]
  exact d3
 refine ⟨hnA,fun t ht=>?_,fun a ha=>?_⟩
 · rw [obj_field hAX (by rw [hnA];exact ht),l2 t (by omega) ht]
 · have haX:=(hob a).2 (.inl ha)
   have hne:a≠A:=fun e=>hfr (e ▸ ha)
   have hap:=objects_apart haX hAX hne
   unfold osz at hap
   rw [hnA] at hap
   obtain ⟨i,j,g,b⟩:=objects_begin ha
   obtain ⟨i',j',g',b'⟩:=objects_begin haX
   have hp:=b'.pos
   have hs':=b'.sz
   unfold osz at hp hs'
   have had:=b.ad
   have hpr:=page_prod (okH_parts ho).1 (p:=(i:Int)) (by omega) (by have:=b.il;have:=(okH_parts ho).2.2.1;omega)
   have hw:wordAt X a=wordAt h a:=by
    rw [word_load (by omega),word_load (by omega),l3 a (by omega)]
   have hat:atH X a=atH h a:=same_at (objectsV_at ha).1 (objectsV_at haX).1 hw
   refine ⟨hat,?_⟩
   have q1:=fields_len ha
   have q2:=fields_len haX
   rw [hat] at q2 hap
   refine List.ext_getElem? fun t=>?_
   by_cases ht:(t:Int) < (atH h a).n
   · rw [obj_field ha ht,obj_field haX (by rw [hat];exact ht),l3 (a+1+t) (by omega)]
   · rw [List.getElem?_eq_none (by omega),List.getElem?_eq_none (by omega)]
theorem nodup_le:∀ {l1 l2:List Int},l1.Nodup->(∀ x∈l1,x∈l2)->l1.length<=l2.length
 | [],_,_,_=>Nat.zero_le _
 | x :: r,l2,hn,hs=>by
  obtain ⟨n1,n2⟩:=List.nodup_cons.1 hn
  have hx:=hs x (List.mem_cons_self ..)
  have:=nodup_le (l2:=l2.erase x) n2 fun y hy=>(List.mem_erase_of_ne (fun e=>n1 (by rw [<-e];exact hy))).2 (hs y (List.mem_cons_of_mem _ hy))
  have hl:=List.length_erase_of_mem hx
  have hp:=List.length_pos_of_mem hx
  rw [List.length_cons]
  omega
theorem objects_nodup (h:Hp):(objectsV h).Nodup:=by
 have:=objects_sorted h
 refine List.Pairwise.imp_of_mem (fun {a b} ha hb hab=>?_) this
 obtain ⟨i,j,g,B⟩:=objects_begin ha
 have:=B.sz
 omega
theorem alloc_count {h:Hp} (G:Good h) {k n m:Int} (hm:0<=m) (he:allocE h k n m=0):(objectsV (allocH h k n m)).length=(objectsV h).length+1:=by
 obtain ⟨-,hob⟩:=good_alloc G hm he
 have hfr:=alloc_fresh he
 have a:=nodup_le (objects_nodup (allocH h k n m)) (l2:=allocA h k n m :: objectsV h) fun x hx=>by
  rcases (hob x).1 hx with e | e
  · exact List.mem_cons_of_mem _ e
  · rw [e];exact List.mem_cons_self ..
 have b:=nodup_le (l1:=allocA h k n m :: objectsV h) (List.nodup_cons.2 ⟨hfr,objects_nodup h⟩) (l2:=objectsV (allocH h k n m)) fun x hx=>by
  rcases List.mem_cons.1 hx with e | e
  · exact (hob x).2 (.inr e)
  · exact (hob x).2 (.inl e)
 rw [List.length_cons] at a b
 omega
theorem good_startsE {h:Hp} (G:Good h):startsE h=0:=(starts_ok G.ok G.pg).1
end P
end Go.VI
namespace Go.VI
open Go
theorem hd_inj {k n m k' n' m':Int} {X:P.Hd} (h1:toHd (k,n,m,())=X) (h2:toHd (k',n',m',())=X):k=k'/\n=n'/\m=m':=by
 rw [<-h2] at h1
 simpa [toHd] using h1
end Go.VI
namespace Go.VI
open Go
theorem T_header_good (l:List Int) (a pw np:Int) (h0:0<=a) (h1:a<=100000000) (hc:confB pw np=true) :
 Tot (fun (r:((Int × Int × Int × Unit) × Unit) × (List Int × Int × Unit) × Unit)=>(P.validB r.1.1.1 r.1.1.2.1 r.1.1.2.2.1=true/\¬r.1.1.1=0/\r.1.1.2.1+1<=2*pw/\0<=r.1.1.2.2.1/\r.1.1.2.2.1 < 4294967296)/\r.2.1.1=l/\a<=r.2.1.2.1/\r.2.1.2.1<=a+10) (F_made_Tape_Header ((l,a,()),(pw,np,()),())):=by
 have c:=confB_iff.1 hc
 rw [nf_made_Tape_Header];dsimp only
 rw [T_r04_SmallWords,Option.bind_some]
 dsimp only
 have hq:W (pw.tdiv 4)=pw / 4:=by rw [Int.tdiv_eq_ediv_of_nonneg (by omega)];exact W_id (by omega)
 rw [hc,if_pos rfl,hq]
 have mask:∀ n:Int,0<=n->n<=100->∃ k:Nat,W (1*2 ^ min (U (if 12 < if 32 < n then 32 else n then 12 else if 32 < n then 32 else n)).toNat IntKind.i64.bits)=((2 ^ k:Nat):Int)/\k<=12/\0<=U (if 12 < if 32 < n then 32 else n then 12 else if 32 < n then 32 else n)/\(k:Int)<=(if 32 < n then 32 else n):=fun n n0 n1=>by
  obtain ⟨j,hj,hj2,hj3⟩:∃ j:Nat,(if 12 < if 32 < n then 32 else n then 12 else if 32 < n then 32 else n)=(j:Int)/\j<=12/\(j:Int)<=(if 32 < n then 32 else n):=by
   refine ⟨(if 12 < if 32 < n then 32 else n then 12 else if 32 < n then 32 else n).toNat,?_,?_,?_⟩ <;> (repeat' split) <;> omega
  rw [hj,U_id (by omega),Int.toNat_natCast]
  have hb:min j IntKind.i64.bits=j:=by
   have:IntKind.i64.bits=64:=rfl
   omega
  have e:(2:Int) ^ j=((2 ^ j:Nat):Int):=by rw [Int.natCast_pow];rfl
  have hle:2 ^ j<=2 ^ 12:=Nat.pow_le_pow_right (by omega) hj2
  have h12:(2:Nat) ^ 12=4096:=by decide
  refine ⟨j,?_,hj2,by omega,hj3⟩
  rw [hb,Int.one_mul,e]
  generalize 2 ^ j=z at hle ⊢
  exact W_id (by omega)
 have pk:∀ k:Nat,k<=12->((2 ^ k:Nat):Int)<=4096/\1<=((2 ^ k:Nat):Int):=fun k hk=>by
  have hle:2 ^ k<=2 ^ 12:=Nat.pow_le_pow_right (by omega) hk
  have h12:(2:Nat) ^ 12=4096:=by decide
  have h0:0 < 2 ^ k:=Nat.pow_pos (by omega)
  generalize 2 ^ k=z at hle h0 ⊢
  omega
 refine tot_bind (T_made_Tape_Next l a (pw / 4) h0 (by omega) (by omega)) ?_
 rintro ⟨⟨(v1:Int),_⟩,⟨(l1:List Int),(a1:Int),_⟩,_⟩ g1
 have q1:=g1.lo;have q2:=g1.hi (by omega);have q3:=g1.l;have q4:=g1.a0;have q5:=g1.a1
 dsimp only at q1 q2 q3 q4 q5 ⊢
 subst q3
 refine tot_bind (T_made_Tape_Next l1 a1 12 (by omega) (by omega) (by omega)) ?_
 rintro ⟨⟨(v2:Int),_⟩,⟨(l2:List Int),(a2:Int),_⟩,_⟩ g2
 have r3:=g2.l;have r4:=g2.a0;have r5:=g2.a1
 dsimp only at r3 r4 r5 ⊢
 subst r3
 refine tot_cond (fun _=>?_) fun _=>?_
 · refine tot_bind (T_made_Tape_Next l2 a2 pw (by omega) (by omega) (by omega)) ?_
   rintro ⟨⟨(v3:Int),_⟩,⟨(l3:List Int),(a3:Int),_⟩,_⟩ g3
   have s1:=g3.lo;have s2:=g3.hi (by omega);have s3:=g3.l;have s4:=g3.a0;have s5:=g3.a1
   dsimp only at s1 s2 s3 s4 s5 ⊢
   subst s3
   refine tot_bind (T_made_Tape_Next l3 a3 4 (by omega) (by omega) (by omega)) ?_
   rintro ⟨⟨(v4:Int),_⟩,⟨(l4:List Int),(a4:Int),_⟩,_⟩ g4
   have t3:=g4.l;have t4:=g4.a0;have t5:=g4.a1
   dsimp only at t3 t4 t5 ⊢
   subst t3
   have w:W (pw / 4+v3)=pw / 4+v3:=W_id (by omega)
   rw [w]
   obtain ⟨k,m1,m2,m3,m4⟩:=mask (pw / 4+v3) (by omega) (by omega)
   rw [m1]
   have hk:=pk k m2
   obtain ⟨z,hz⟩:∃ z:Int,((2 ^ k:Nat):Int)=z:=⟨_,rfl⟩
   rw [hz] at hk ⊢
   refine tot_cond (fun _=>tot_some ?_) fun _=>tot_cond (fun _=>tot_some ?_) fun _=>tot_need ?_ ?_
   · exact ⟨⟨P.valid_mk ⟨by dsimp only;omega,by dsimp only;omega,by dsimp only;omega,by dsimp only;omega,fun c=>absurd c (by dsimp only;omega),fun _=>rfl⟩,by dsimp only;omega,by dsimp only;omega,by dsimp only;omega,by dsimp only;omega⟩,rfl,by dsimp only;omega,by dsimp only;omega⟩
   · exact ⟨⟨P.valid_mk ⟨by dsimp only;omega,by dsimp only;omega,by dsimp only;omega,by dsimp only;omega,fun c=>absurd c (by dsimp only;omega),fun _=>rfl⟩,by dsimp only;omega,by dsimp only;omega,by dsimp only;omega,by dsimp only;omega⟩,rfl,by dsimp only;omega,by dsimp only;omega⟩
   · simp only [Bool.not_eq_true',decide_eq_false_iff_not];omega
   refine tot_bind (T_made_Tape_Next l4 a4 _ (by omega) (by omega) (by omega)) ?_
   rintro ⟨⟨(v5:Int),_⟩,⟨(l5:List Int),(a5:Int),_⟩,_⟩ g5
   have u1:=g5.lo;have u2:=g5.hi (by omega);have u3:=g5.l;have u4:=g5.a0;have u5:=g5.a1
   dsimp only at u1 u2 u3 u4 u5 ⊢
   subst u3
   have wu:U32 v5=v5:=by rw [U32,IntKind.wrap_u32];omega
   rw [wu]
   refine tot_some ?_
   dsimp only
   have hN:((2 ^ k:Nat):Int)<=(2:Int) ^ (if 32 < pw / 4+v3 then 32 else pw / 4+v3:Int).toNat:=by
    rw [show (2:Int) ^ (if 32 < pw / 4+v3 then 32 else pw / 4+v3:Int).toNat=((2 ^ (if 32 < pw / 4+v3 then 32 else pw / 4+v3:Int).toNat:Nat):Int) from by rw [Int.natCast_pow];rfl]
    exact Int.ofNat_le.2 (Nat.pow_le_pow_right (by omega) (by omega))
   rw [hz] at hN
   have hn0:0<=(if 32 < pw / 4+v3 then 32 else pw / 4+v3:Int)/\(if 32 < pw / 4+v3 then 32 else pw / 4+v3:Int)<=32/\(if 32 < pw / 4+v3 then 32 else pw / 4+v3:Int)+1<=2*pw:=by split <;> omega
   generalize (if 32 < pw / 4+v3 then 32 else pw / 4+v3:Int)=N at hN hn0 ⊢
   exact ⟨⟨P.valid_mk ⟨by omega,by omega,by omega,by omega,fun _=>⟨by omega,by omega⟩,fun c=>absurd rfl c⟩,by decide,by omega,by omega,by omega⟩,rfl,by omega,by omega⟩
 · refine tot_bind (T_made_Tape_Next l2 a2 4 (by omega) (by omega) (by omega)) ?_
   rintro ⟨⟨(v4:Int),_⟩,⟨(l4:List Int),(a4:Int),_⟩,_⟩ g4
   have t3:=g4.l;have t4:=g4.a0;have t5:=g4.a1
   dsimp only at t3 t4 t5 ⊢
   subst t3
   obtain ⟨k,m1,m2,m3,m4⟩:=mask v1 (by omega) (by omega)
   rw [m1]
   have hk:=pk k m2
   obtain ⟨z,hz⟩:∃ z:Int,((2 ^ k:Nat):Int)=z:=⟨_,rfl⟩
   rw [hz] at hk ⊢
   refine tot_cond (fun _=>tot_some ?_) fun _=>tot_cond (fun _=>tot_some ?_) fun _=>tot_need ?_ ?_
   · exact ⟨⟨P.valid_mk ⟨by dsimp only;omega,by dsimp only;omega,by dsimp only;omega,by dsimp only;omega,fun c=>absurd c (by dsimp only;omega),fun _=>rfl⟩,by dsimp only;omega,by dsimp only;omega,by dsimp only;omega,by dsimp only;omega⟩,rfl,by dsimp only;omega,by dsimp only;omega⟩
   · exact ⟨⟨P.valid_mk ⟨by dsimp only;omega,by dsimp only;omega,by dsimp only;omega,by dsimp only;omega,fun c=>absurd c (by dsimp only;omega),fun _=>rfl⟩,by dsimp only;omega,by dsimp only;omega,by dsimp only;omega,by dsimp only;omega⟩,rfl,by dsimp only;omega,by dsimp only;omega⟩
   · simp only [Bool.not_eq_true',decide_eq_false_iff_not];omega
   refine tot_bind (T_made_Tape_Next l4 a4 _ (by omega) (by omega) (by omega)) ?_
   rintro ⟨⟨(v5:Int),_⟩,⟨(l5:List Int),(a5:Int),_⟩,_⟩ g5
   have u1:=g5.lo;have u2:=g5.hi (by omega);have u3:=g5.l;have u4:=g5.a0;have u5:=g5.a1
   dsimp only at u1 u2 u3 u4 u5 ⊢
   subst u3
   have wu:U32 v5=v5:=by rw [U32,IntKind.wrap_u32];omega
   rw [wu]
   refine tot_some ?_
   dsimp only
   have hN:((2 ^ k:Nat):Int)<=(2:Int) ^ (if 32 < v1 then 32 else v1:Int).toNat:=by
    rw [show (2:Int) ^ (if 32 < v1 then 32 else v1:Int).toNat=((2 ^ (if 32 < v1 then 32 else v1:Int).toNat:Nat):Int) from by rw [Int.natCast_pow];rfl]
    exact Int.ofNat_le.2 (Nat.pow_le_pow_right (by omega) (by omega))
   rw [hz] at hN
   have hn0:0<=(if 32 < v1 then 32 else v1:Int)/\(if 32 < v1 then 32 else v1:Int)<=32/\(if 32 < v1 then 32 else v1:Int)+1<=2*pw:=by split <;> omega
   generalize (if 32 < v1 then 32 else v1:Int)=N at hN hn0 ⊢
   exact ⟨⟨P.valid_mk ⟨by omega,by omega,by omega,by omega,fun _=>⟨by omega,by omega⟩,fun c=>absurd rfl c⟩,by decide,by omega,by omega,by omega⟩,rfl,by omega,by omega⟩
theorem L_AllocKeeps (tape odd:List Int):F_l07_AllocKeeps (tape,odd,())=some ((true,()),()):=by
 refine law_key ?_
 rw [nf_l07_AllocKeeps];dsimp only
 refine tot_bind (X_made_Make tape) ?_
 rintro ⟨⟨⟨(h:HpD),(st:List Int),(wk:List Int),_⟩,_⟩,_⟩ ⟨nn,hm⟩
 have hm:Mk nn (h,st,wk,()):=hm
 have hw:HpW h:=hm.hw
 have GW:=P.made_gw nn _ hm.made hm.n400
 have G:P.Good (toHp h):=GW.good
 have L:=hm.lens
 have hcf:confB h.1.1 h.1.2.1=true:=by rw [<-confB_eq];exact L.conf
 have c3:=P.conf_parts L.conf
 have c5:16<=h.1.1/\h.1.1<=64:=⟨c3.1,c3.2.1⟩
 dsimp only
 simp only [toHp_eta]
 refine tot_bind (T_header_good odd 0 h.1.1 h.1.2.1 (by omega) (by omega) hcf) ?_
 rintro ⟨⟨⟨(k:Int),(n:Int),(m:Int),_⟩,_⟩,⟨(l:List Int),(a0:Int),_⟩,_⟩ ⟨⟨v1,v2,v3,v4,v5⟩,-⟩
 dsimp only at v1 v2 v3 v4 v5 ⊢
 refine tot_bind (X_alloc_New h hw k n m ⟨v4,v5⟩) ?_
 rintro ⟨⟨(x:HpD),(a:Int),(e:Int),_⟩,_⟩ ⟨r1,r2,r3⟩
 dsimp only at r1 r2 r3 ⊢
 rw [T_l07_awake]
 simp only [Option.bind_some]
 refine tot_cond (fun h1=>?_) fun h1=>?_
 · simp only [bne_iff_ne,ne_eq] at h1
   have hask:P.newAsk (toHp h) k n m=true:=by
    have vp:=P.valid_parts v1
    have hne:¬P.needV (toHp h).pw (toHp h).np (P.sizeV k n m) = -1:=by
     have hcT:P.confB (toHp h).pw (toHp h).np=true:=L.conf
     have hn1:1<=n+1:=by have:=vp.2.2.1;omega
     rw [P.size_ok v1,P.need_ok hcT hn1]
     unfold P.needP
     have:(toHp h).pw=h.1.1:=rfl
     rw [this]
     repeat' split
     all_goals omega
    unfold P.newAsk P.asksB
    rw [G.ok,v1,decide_eq_true v2,decide_eq_true hne];rfl
   have hE:P.allocE (toHp h) k n m=3:=by
    rw [r1] at h1
    unfold P.allocE at h1 ⊢
    rw [if_pos hask] at h1 ⊢
    split
    · rename_i q;rw [if_pos q] at h1;exact absurd rfl h1
    · rfl
   have hx:=(P.alloc_no hE (by decide)).1
   rw [hx] at r2
   have hx0:x.2.1.length=0:=by
    have:=congrArg (fun h=>h.words.length) r2
    simpa only [toHp,P.Hp.zero,List.length_nil] using this
   rw [hE] at r1
   subst r1
   rw [hx0]
   exact tot_some rfl
 simp only [bne_eq_false_iff_eq] at h1
 subst h1
 have hE:P.allocE (toHp h) k n m=0:=r1.symm
 obtain ⟨GX,hob⟩:=P.good_alloc G v4 hE
 have hfr:=P.alloc_fresh hE
 have hcnt:=P.alloc_count G v4 hE
 obtain ⟨o1,o2,o3⟩:=P.alloc_objs G v4 hE
 have hxw:HpW x:=by
  have hl:=alloc_len hw r2
  refine ⟨hl.1,hl.2,?_⟩
  have e1:(toHp x).words=x.2.1:=rfl
  obtain ⟨ho,hv,hk0,hsz,hnd,hr,hn0,hoh,hpw,hoA,eH,eA⟩:=P.alloc_parts hE
  show WBo x.2.1
  rw [<-e1,r2,eH]
  exact P.wb_write hw.wb (P.initL_wb hv v4)
 rw [<-r2,<-r3] at o1 o2 hob
 rw [<-r2] at o3 hcnt GX
 rw [<-r3] at hfr
 have hAX:a∈P.objectsV (toHp x):=(hob a).2 (.inr rfl)
 have ha:=P.objects_wb _ a hAX
 refine tot_bind (X_r06_Objects h hw) ?_
 rintro ⟨⟨(os:List Int),(e1:Int),_⟩,_⟩ ⟨q1,-⟩
 refine tot_bind (X_r06_Objects x hxw) ?_
 rintro ⟨⟨(xs:List Int),(e2:Int),_⟩,_⟩ ⟨q2,q3⟩
 dsimp only at q1 q2 q3 ⊢
 rw [P.good_startsE GX] at q3
 subst q3 q1 q2
 have hlen:(P.objectsV (toHp h)).length<=100000:=by
  have a1:=P.startsV_len (toHp h)
  have a2:(P.objectsV (toHp h)).length<=(P.startsV (toHp h)).length:=by unfold P.objectsV P.objsOf;exact List.length_filter_le ..
  omega
 rw [W_id (n:=((P.objectsV (toHp h)).length:Int)+1) (by omega)]
 refine tot_cond (fun c=>by simp at c) fun _=>tot_cond (fun c=>?_) fun _=>tot_bind (X_r06_Has _ a (by omega)) ?_
 · simp only [bne_iff_ne,ne_eq] at c;exact absurd (by omega) c
 rintro ⟨⟨(b1:Bool),_⟩,_⟩ hb1
 have hb1:b1=decide (a∈P.objectsV (toHp h)):=hb1
 rw [decide_eq_false hfr] at hb1
 subst hb1
 refine tot_cond (fun c=>by cases c) fun _=>tot_bind (X_r06_Has _ a (by omega)) ?_
 rintro ⟨⟨(b2:Bool),_⟩,_⟩ hb2
 have hb2:b2=decide (a∈P.objectsV (toHp x)):=hb2
 rw [decide_eq_true hAX] at hb2
 subst hb2
 refine tot_cond (fun c=>by cases c) fun _=>tot_bind (X_r09_Good x hxw) ?_
 rintro ⟨⟨(b3:Bool),_⟩,_⟩ hb3
 have hb3:b3=P.goodB (toHp x):=hb3
 rw [(P.good_iff _).2 GX] at hb3
 subst hb3
 refine tot_cond (fun c=>by cases c) fun _=>tot_bind (P:=fun r=>∃ y,r = .inr y) (tot_each (n:=(P.objectsV (toHp h)).length) (by omega) fun q j hj=>?_) ?_
 · rw [Int.toNat_natCast,W_id (n:=(j:Int)+1) (by omega)]
   have hmem:(P.objectsV (toHp h)).getD j 0∈P.objectsV (toHp h):=getD_mem hj
   have hin:inB (j:Int) (P.objectsV (toHp h)).length=true:=inB_iff.2 ⟨by omega,by omega⟩
   generalize (P.objectsV (toHp h)).getD j 0=p at hmem ⊢
   have hmX:=(hob p).2 (.inl hmem)
   have hp:=P.objects_wb _ p hmem
   obtain ⟨y1,y2⟩:=o3 p hmem
   refine tot_bind (X_r05_Fields h hw p hp) ?_
   rintro ⟨⟨(f1:List Int),(g1:Int),_⟩,_⟩ ⟨z1,-⟩
   refine tot_need hin (tot_bind (X_r05_Fields x hxw p hp) ?_)
   rintro ⟨⟨(f2:List Int),(g2:Int),_⟩,_⟩ ⟨z2,z3⟩
   refine tot_need hin (tot_bind (X_r05_Get h hw p hp) ?_)
   rintro ⟨⟨⟨(k1:Int),(n1:Int),(m1:Int),_⟩,(t1:Int),_⟩,_⟩ ⟨-,s1⟩
   refine tot_need hin (tot_bind (X_r05_Get x hxw p hp) ?_)
   rintro ⟨⟨⟨(k2:Int),(n2:Int),(m2:Int),_⟩,(t2:Int),_⟩,_⟩ ⟨-,s2⟩
   dsimp only at z1 z2 z3 s1 s2 ⊢
   rw [P.obj_fieldsE hmX] at z3
   rw [(P.obj_get hmem).2] at s1
   rw [(P.obj_get hmX).2,y1] at s2
   obtain ⟨w1,w2,w3⟩:=hd_inj s1 s2
   rw [y2,<-z1] at z2
   subst z3 w1 w2 w3 z2
   refine tot_cond (fun c=>by simp at c) fun _=>tot_cond (fun c=>by simp at c) fun _=>?_
   have hfl:f2.length<=100000000:=by
    rw [z1]
    have:=P.fields_len hmem
    obtain ⟨i',j',g',B⟩:=P.objects_begin hmem
    have hwl:=B.wl
    have had:=P.at_bd (P.objectsV_at hmem).1
    unfold P.osz at hwl
    have e1:(toHp h).words.length=h.2.1.length:=rfl
    have:=hw.wl
    omega
   refine tot_bind (T_r01_Same f2 hfl) ?_
   rintro ⟨⟨(b4:Bool),_⟩,_⟩ hb4
   have hb4:b4=true:=hb4
   subst hb4
   exact tot_cond (fun c=>by cases c) fun _=>tot_some ⟨_,rfl⟩
 rintro _ ⟨y,rfl⟩
 dsimp only [Sum.elim_inr]
 refine tot_bind (X_r05_Fields x hxw a ha) ?_
 rintro ⟨⟨(f1:List Int),(g1:Int),_⟩,_⟩ ⟨z1,z2⟩
 dsimp only at z1 z2 ⊢
 rw [P.obj_fieldsE hAX] at z2
 have hfn:=P.fields_len hAX
 rw [<-z1,o1] at hfn
 subst z2
 refine tot_bind (P:=fun r=>∃ y,r = .inr y) (tot_each (n:=f1.length) (by omega) fun q j hj=>?_) ?_
 · rw [Int.toNat_natCast,W_id (n:=(j:Int)+1) (by omega)]
   have:=o2 j (by omega)
   rw [<-z1] at this
   rw [List.getD_eq_getElem?_getD,this]
   exact tot_cond (fun c=>by simp at c) fun _=>tot_some ⟨_,rfl⟩
 rintro _ ⟨y',rfl⟩
 dsimp only [Sum.elim_inr]
 refine tot_some ?_
 dsimp only
 rw [hfn]
 simp
theorem L_AllocKeepsu (d) (h:wfP E_l07_AllocKeeps.ps d):F_l07_AllocKeeps d=some ((true,()),()):=by
 obtain ⟨tape,odd,_⟩:=d
 exact L_AllocKeeps tape odd
end Go.VI
