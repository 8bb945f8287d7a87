import Derived.Test.YtadlcgdjmjegaaaW03
import Derived.Test.YtadlcgdjmjegaaaW06
import Derived.Test.YtadlcgdjmjegaaaW07
set_option linter.unusedSimpArgs false
set_option linter.unusedVariables false
set_option maxRecDepth 100000
set_option maxHeartbeats 4000000
namespace Go.VI
open Go
theorem drop_at' {α:Type} {l:List α} {k:Nat} {x:α} (h:l[k]?=some x):l.drop k=x :: l.drop (k+1):=by
 obtain ⟨hk,e⟩:=List.getElem?_eq_some_iff.1 h
 rw [List.drop_eq_getElem_cons hk,e]
end Go.VI
namespace Go.VI
open Go
theorem T_bits_Unpack_S1_c (k:Nat) (ws:List Int) (hk:k < ws.length):F_bits_Unpack_S1_c ((k:Int),ws,())=some ((ws.getD k 0,()),ws,()):=by
 rw [nf_bits_Unpack_S1_c];dsimp only
 rw [inB_iff.2 ⟨by omega,by omega⟩,Int.toNat_natCast];rfl
theorem get_getD {ws:List Int} {k:Nat} (hk:k < ws.length):ws[k]?=some (ws.getD k 0):=by
 rw [List.getD_eq_getElem?_getD,List.getElem?_eq_getElem hk];rfl
theorem T_bits_fit (ws:List Int) (hl:ws.length<=100000000):Tot (fun r=>r.1.1=P.fitL 64 ws/\r.2.1=ws) (F_bits_fit_c_bits_Unpack_S1 ((ws.length:Int),ws,())):=by
 rw [nf_bits_fit_c_bits_Unpack_S1];dsimp only
 refine tot_bind (P:=fun r=>match r with
  | .inl x=>(x.1.1=false/\P.fitL 64 ws=false)/\x.2.2.1.1=ws
  | .inr x=>P.fitL 64 ws=true/\x.2.2.1.1=ws) (tot_loop (fun x=>∃ k:Nat,x.1.2.2.1=(k:Int)/\k<=ws.length/\x.2.2.1.1=ws/\0<=x.1.2.1/\x.1.2.1<=64/\P.fitL x.1.2.1 (ws.drop k)=P.fitL 64 ws) (fun x=>((ws.length:Int) - x.1.2.2.1).toNat) ⟨0,rfl,by omega,rfl,by dsimp only;omega,by dsimp only;omega,rfl⟩ ?_) fun r hr=>tot_sum (fun x hx=>?_) fun x hx=>?_
 · rintro ⟨⟨(q:Bool),(lf:Int),(i:Int),_⟩,_,⟨(l:List Int),_⟩,_⟩ ⟨k,e,hk,el,h0,h64,hp⟩
   dsimp only at e el h0 h64 hp ⊢
   rw [e,el]
   refine tot_cond (fun h1=>?_) fun h1=>tot_some ?_
   · simp only [decide_eq_true_eq] at h1
     have hk':k < ws.length:=by omega
     have hx:=get_getD hk'
     rw [T_bits_Unpack_S1_c k ws hk',Option.bind_some]
     dsimp only
     generalize ws.getD k 0=v at *
     refine tot_cond (fun h2=>tot_some ⟨⟨rfl,?_⟩,rfl⟩) fun h2=>?_
     · rw [<-hp];exact P.fitL_no hx (.inl (by simpa using h2))
     simp only [decide_eq_false_iff_not] at h2
     rw [T_bits_Unpack_S1_c k ws hk',Option.bind_some]
     have hv:ws.getD k 0=v:=by rw [List.getD_eq_getElem?_getD,hx];rfl
     dsimp only
     rw [hv]
     refine tot_cond (fun h3=>tot_some ⟨⟨rfl,?_⟩,rfl⟩) fun h3=>?_
     · rw [<-hp];exact P.fitL_no hx (.inr (by simpa using h3))
     simp only [decide_eq_false_iff_not] at h3
     rw [T_bits_Unpack_S1_c k ws hk',Option.bind_some]
     dsimp only
     rw [hv,W_id (n:=lf - v) (by omega),W_id (n:=(k:Int)+1) (by omega)]
     refine tot_some ⟨⟨k+1,by dsimp only;omega,by omega,rfl,by dsimp only;omega,by dsimp only;omega,?_⟩,by dsimp only;omega⟩
     rw [<-hp];exact (P.fitL_yes hx h2 (by omega)).symm
   · simp only [decide_eq_false_iff_not] at h1
     refine ⟨?_,rfl⟩
     rw [<-hp];exact P.fitL_end (by omega)
 · subst hx;exact tot_some ⟨hr.1.1.trans hr.1.2.symm,hr.2⟩
 · subst hx;exact tot_some ⟨hr.1.symm,hr.2⟩
theorem T_bits_Ones (n:Int):F_bits_Ones (n,())=some ((P.onesV n,()),()):=by
 rw [nf_bits_Ones];dsimp only
 by_cases h:n < 0
 · rw [decide_eq_true h,P.onesV_neg n h];rfl
 · rw [decide_eq_false h]
   have e:U (U (1*2 ^ min n.toNat IntKind.u64.bits) - 1)=P.onesV n:=by
    have hb:IntKind.u64.bits=64:=rfl
    rw [hb,Int.one_mul]
    unfold P.onesV
    by_cases hc:n.toNat < 64
    · rw [show min n.toNat 64=n.toNat from by omega]
      have h1:=P.ipow_lt64 n.toNat hc
      have h2:=P.ipow_pos2 n.toNat
      rw [U_id (n:=2 ^ n.toNat) (by omega),U_id (by omega)]
    · rw [show min n.toNat 64=64 from by omega];rfl
   rw [e];rfl
theorem uvals_get:∀ (ws:List Int) (x k:Nat) (a:Int),ws[k]?=some a->(P.uvals x ws)[k]?=some (((x >>> P.sumW (ws.take k)) &&& P.onesN a:Nat):Int)
 | [],x,k,a,h=>by simp at h
 | b :: r,x,0,a,h=>by
  simp only [List.getElem?_cons_zero,Option.some.injEq] at h
  subst h
  simp [P.uvals,P.sumW]
 | b :: r,x,k+1,a,h=>by
  rw [List.getElem?_cons_succ] at h
  rw [P.uvals,List.getElem?_cons_succ,uvals_get r _ k a h,List.take_succ_cons,P.sumW,Nat.shiftRight_add]
theorem T_bits_Unpack (x:Nat) (hx:x < 18446744073709551616) (ws:List Int) (hl:ws.length<=1000):Tot (fun r=>r.1.1=P.unpV x ws/\r.1.2.1=P.unpE x ws) (F_bits_Unpack ((x:Int),ws,())):=by
 rw [nf_bits_Unpack];dsimp only
 refine tot_bind (T_bits_fit ws (by omega)) ?_
 rintro ⟨⟨(b:Bool),_⟩,(l:List Int),_⟩ ⟨hb,el⟩
 dsimp only at hb el ⊢
 rw [hb,el]
 refine tot_cond (fun h1=>tot_some ?_) fun h1=>?_
 · simp only [Bool.not_eq_true'] at h1
   unfold P.unpV P.unpE
   rw [h1];exact ⟨rfl,rfl⟩
 simp only [Bool.not_eq_false'] at h1
 refine tot_need (decide_eq_true (by omega)) (tot_need (small_iff.2 (by omega)) ?_)
 refine tot_bind (P:=fun r=>r.1.1=((x >>> P.sumW ws:Nat):Int)/\r.2.2.1=P.uvals x ws) (tot_loop (fun y=>∃ k:Nat,y.1.2.1=(k:Int)/\k<=ws.length/\y.1.1=((x >>> P.sumW (ws.take k):Nat):Int)/\y.2.2.1.length=ws.length/\∀ j,j < k->y.2.2.1[j]?=(P.uvals x ws)[j]?) (fun y=>((ws.length:Int) - y.1.2.1).toNat) ⟨0,rfl,by omega,by simp [P.sumW],by simp,fun j hj=>by omega⟩ ?_) ?_
 · rintro ⟨⟨(v:Int),(i:Int),_⟩,_,(L:List Int),_⟩ ⟨k,e,hk,ev,hL,hj⟩
   dsimp only at e ev hL hj ⊢
   rw [e,ev]
   refine tot_cond (fun h2=>?_) fun h2=>tot_some ?_
   · simp only [decide_eq_true_eq] at h2
     have hk':k < ws.length:=by omega
     have hx':=get_getD hk'
     have hm:=P.fitL_mem ws 64 (by omega) h1 _ (List.mem_of_getElem? hx')
     rw [Int.toNat_natCast]
     generalize ws.getD k 0=a at *
     rw [T_bits_Ones,Option.bind_some]
     dsimp only
     have hin:inB (k:Int) ws.length=true:=inB_iff.2 ⟨by omega,by omega⟩
     refine tot_need hin (tot_need (inB_iff.2 ⟨by omega,by omega⟩) (tot_need hin (tot_need (by simp;omega) (tot_some ?_))))
     have hv:x >>> P.sumW (ws.take k) < 18446744073709551616:=P.shr_lt x _ hx
     have e1:bits2 IntKind.u64 (fun (x1 x2:BitVec IntKind.u64.bits)=>x1 &&& x2) ((x >>> P.sumW (ws.take k):Nat):Int) (P.onesV a)=(((x >>> P.sumW (ws.take k)) &&& P.onesN a:Nat):Int):=by
      rw [P.onesV_cast]
      exact bits_and _ _ hv (P.onesN_lt a)
     have e2:(((x >>> P.sumW (ws.take k):Nat):Int)).fdiv (2 ^ min a.toNat IntKind.u64.bits)=((x >>> P.sumW (ws.take (k+1)):Nat):Int):=by
      have hb:IntKind.u64.bits=64:=rfl
      rw [hb,show min a.toNat 64=a.toNat from by omega,<-P.ipow_cast,fdiv_cast _ _ (Nat.pow_pos (by omega)),P.sumT_snoc hx',Nat.shiftRight_add,Nat.shiftRight_eq_div_pow (x >>> _)]
     refine ⟨⟨k+1,?_,by omega,e2,?_,?_⟩,?_⟩
     · dsimp only;exact W_id (by omega)
     · dsimp only;rw [List.length_set];exact hL
     · intro j hjk
       dsimp only
       rw [e1]
       by_cases hq:j=k
       · subst hq
         rw [uvals_get ws x j a hx',List.getElem?_set_self (by omega)]
       · rw [List.getElem?_set_ne (by omega)]
         exact hj j (by omega)
     · dsimp only;rw [W_id (by omega)];omega
   · simp only [decide_eq_false_iff_not] at h2
     obtain rfl:k=ws.length:=by omega
     refine ⟨by rw [List.take_length],?_⟩
     show L=_
     refine List.ext_getElem? fun j=>?_
     by_cases hq:j < ws.length
     · exact hj j hq
     · rw [List.getElem?_eq_none (by omega),List.getElem?_eq_none (by rw [P.uvals_len];omega)]
 · rintro ⟨⟨(v:Int),_⟩,_,(L:List Int),_⟩ ⟨hv,hL⟩
   dsimp only at hv hL ⊢
   subst hv hL
   unfold P.unpV P.unpE
   rw [h1,if_pos rfl,if_pos rfl]
   refine tot_cond (fun h2=>tot_some ?_) fun h2=>tot_some ?_
   · simp only [bne_iff_ne,ne_eq] at h2
     rw [if_neg (by omega),if_neg (by omega)];exact ⟨rfl,rfl⟩
   · simp only [bne_eq_false_iff_eq] at h2
     rw [if_pos (by omega),if_pos (by omega)];exact ⟨rfl,rfl⟩
end Go.VI
namespace Go.VI
open Go
theorem T_r01_Same (l:List Int) (hl:l.length<=100000000):Tot (fun r=>r.1.1=true) (F_r01_Same (l,l,())):=by
 rw [nf_r01_Same];dsimp only
 refine tot_cond (fun h=>by simp at h) fun _=>?_
 refine tot_bind (P:=fun r=>match r with | .inl _=>False | .inr _=>True) (tot_loop (fun x=>∃ k:Nat,x.1.2.1=(k:Int)/\k<=l.length) (fun x=>((l.length:Int) - x.1.2.1).toNat) ⟨0,rfl,by omega⟩ ?_) fun r hr=>tot_sum (fun x hx=>?_) fun x hx=>tot_some rfl
 · rintro ⟨⟨(q:Bool),(i:Int),_⟩,_⟩ ⟨k,e,hk⟩
   dsimp only at e ⊢
   subst e
   refine tot_cond (fun h1=>?_) fun h1=>tot_some trivial
   simp only [decide_eq_true_eq] at h1
   have hin:inB (k:Int) l.length=true:=inB_iff.2 ⟨by omega,by omega⟩
   refine tot_need hin (tot_need hin (tot_cond (fun h=>by simp at h) fun _=>tot_some ?_))
   rw [W_id (by omega)]
   exact ⟨⟨k+1,by dsimp only;omega,by omega⟩,by dsimp only;omega⟩
 · subst hx;exact hr.elim
end Go.VI
namespace Go.VI
open Go
abbrev FiD:=Int × Int × Unit
def toFi (f:Int × Nat):FiD:=(f.1,(f.2:Int),())
theorem bits_or (a b:Nat) (ha:a < 18446744073709551616) (hb:b < 18446744073709551616):bits2 IntKind.u64 (fun (x1 x2:BitVec IntKind.u64.bits)=>x1 ||| x2) (a:Int) (b:Int)=((a ||| b:Nat):Int):=by
 have hx:a ||| b < 2 ^ 64:=Nat.or_lt_two_pow (by omega) (by omega)
 show IntKind.u64.wrap ((BitVec.ofInt 64 (a:Int) ||| BitVec.ofInt 64 (b:Int)).toNat:Int)=_
 have e:∀ c:Nat,c < 18446744073709551616->(BitVec.ofInt 64 (c:Int)).toNat=c:=fun c hc=>by
  rw [BitVec.toNat_ofInt];omega
 rw [BitVec.toNat_or,e a ha,e b hb,IntKind.wrap_u64]
 omega
theorem fi_at (fs:List (Int × Nat)) {k:Nat} (hk:k < fs.length):∃ x,fs[k]?=some x/\(fs.map toFi).getD k (0,0,())=toFi x:=by
 refine ⟨fs[k],List.getElem?_eq_getElem hk,?_⟩
 rw [List.getD_eq_getElem?_getD,List.getElem?_map,List.getElem?_eq_getElem hk];rfl
theorem T_bits_Pack_S1_c (fs:List (Int × Nat)) (k:Nat) (x:Int × Nat) (hx:fs[k]?=some x):F_bits_Pack_S1_c ((k:Int),fs.map toFi,())=some ((x.1,()),fs.map toFi,()):=by
 obtain ⟨hk,-⟩:=List.getElem?_eq_some_iff.1 hx
 obtain ⟨y,hy,e⟩:=fi_at fs hk
 obtain rfl:x=y:=by rw [hx] at hy;exact Option.some.inj hy
 rw [nf_bits_Pack_S1_c];dsimp only
 rw [inB_iff.2 ⟨by omega,by rw [List.length_map];omega⟩,Int.toNat_natCast,e];rfl
theorem T_bits_fit_Pack (fs:List (Int × Nat)) (hl:fs.length<=100000000):Tot (fun r=>r.1.1=P.fitL 64 (fs.map (·.1))/\r.2.1=fs.map toFi) (F_bits_fit_c_bits_Pack_S1 (((fs.map toFi).length:Int),fs.map toFi,())):=by
 rw [nf_bits_fit_c_bits_Pack_S1];dsimp only
 rw [List.length_map]
 have hlm:(fs.map (·.1)).length=fs.length:=List.length_map ..
 refine tot_bind (P:=fun r=>match r with
  | .inl x=>(x.1.1=false/\P.fitL 64 (fs.map (·.1))=false)/\x.2.2.1.1=fs.map toFi
  | .inr x=>P.fitL 64 (fs.map (·.1))=true/\x.2.2.1.1=fs.map toFi) (tot_loop (fun x=>∃ k:Nat,x.1.2.2.1=(k:Int)/\k<=fs.length/\x.2.2.1.1=fs.map toFi/\0<=x.1.2.1/\x.1.2.1<=64/\P.fitL x.1.2.1 ((fs.map (·.1)).drop k)=P.fitL 64 (fs.map (·.1))) (fun x=>((fs.length:Int) - x.1.2.2.1).toNat) ⟨0,rfl,by omega,rfl,by dsimp only;omega,by dsimp only;omega,rfl⟩ ?_) fun r hr=>tot_sum (fun x hx=>?_) fun x hx=>?_
 · rintro ⟨⟨(q:Bool),(lf:Int),(i:Int),_⟩,_,⟨(l:List FiD),_⟩,_⟩ ⟨k,e,hk,el,h0,h64,hp⟩
   dsimp only at e el h0 h64 hp ⊢
   rw [e,el]
   refine tot_cond (fun h1=>?_) fun h1=>tot_some ?_
   · simp only [decide_eq_true_eq] at h1
     have hk':k < fs.length:=by omega
     obtain ⟨x,hx,-⟩:=fi_at fs hk'
     have hx':(fs.map (·.1))[k]?=some x.1:=by rw [List.getElem?_map,hx];rfl
     rw [T_bits_Pack_S1_c fs k x hx,Option.bind_some]
     dsimp only
     refine tot_cond (fun h2=>tot_some ⟨⟨rfl,?_⟩,rfl⟩) fun h2=>?_
     · rw [<-hp];exact P.fitL_no hx' (.inl (by simpa using h2))
     simp only [decide_eq_false_iff_not] at h2
     rw [T_bits_Pack_S1_c fs k x hx,Option.bind_some]
     dsimp only
     refine tot_cond (fun h3=>tot_some ⟨⟨rfl,?_⟩,rfl⟩) fun h3=>?_
     · rw [<-hp];exact P.fitL_no hx' (.inr (by simpa using h3))
     simp only [decide_eq_false_iff_not] at h3
     rw [T_bits_Pack_S1_c fs k x hx,Option.bind_some]
     dsimp only
     rw [W_id (n:=lf - x.1) (by omega),W_id (n:=(k:Int)+1) (by omega)]
     refine tot_some ⟨⟨k+1,by dsimp only;omega,by omega,rfl,by dsimp only;omega,by dsimp only;omega,?_⟩,by dsimp only;omega⟩
     rw [<-hp];exact (P.fitL_yes hx' h2 (by omega)).symm
   · simp only [decide_eq_false_iff_not] at h1
     refine ⟨?_,rfl⟩
     rw [<-hp];exact P.fitL_end (by omega)
 · subst hx;exact tot_some ⟨hr.1.1.trans hr.1.2.symm,hr.2⟩
 · subst hx;exact tot_some ⟨hr.1.symm,hr.2⟩
theorem T_bits_Pack (fs:List (Int × Nat)) (hl:fs.length<=1000) (hv:∀ f∈fs,f.2 < 18446744073709551616):Tot (fun r=>r.1.1=(P.packB fs).1/\r.1.2.1=(P.packB fs).2) (F_bits_Pack (fs.map toFi,())):=by
 rw [nf_bits_Pack];dsimp only
 refine tot_bind (T_bits_fit_Pack fs (by omega)) ?_
 rintro ⟨⟨(b:Bool),_⟩,(l:List FiD),_⟩ ⟨hb,el⟩
 dsimp only at hb el ⊢
 rw [hb,el,List.length_map]
 refine tot_cond (fun h1=>tot_some ?_) fun h1=>?_
 · simp only [Bool.not_eq_true'] at h1
   rw [P.packB_no (by rw [h1];decide)];exact ⟨rfl,rfl⟩
 simp only [Bool.not_eq_false'] at h1
 rw [W_id (n:=(fs.length:Int) - 1) (by omega)]
 refine tot_bind (P:=fun r=>match r with
  | .inl x=>P.okF fs=false/\x.1.1=0/\x.1.2.1=2
  | .inr y=>P.okF fs=true/\y.1.2.2.1=((P.packR fs:Nat):Int)) (tot_loop (fun y=>∃ j:Nat,y.1.2.2.2.1=(j:Int)/\j<=fs.length/\P.okF (fs.drop (fs.length - j))=true/\y.1.2.2.1=((P.packR (fs.drop (fs.length - j)):Nat):Int)) (fun y=>((fs.length:Int) - y.1.2.2.2.1).toNat) ⟨0,rfl,by omega,by rw [List.drop_of_length_le (by omega)];rfl,by rw [List.drop_of_length_le (by omega)];rfl⟩ ?_) ?_
 · rintro ⟨⟨(y1:Int),(y2:Int),(v:Int),(i:Int),_⟩,_⟩ ⟨j,e,hj,ho,ev⟩
   dsimp only at e ev ⊢
   rw [e]
   refine tot_cond (fun h2=>?_) fun h2=>tot_some ?_
   · simp only [decide_eq_true_eq] at h2
     obtain ⟨k,hk⟩:∃ k:Nat,k+1+j=fs.length:=⟨fs.length - 1 - j,by omega⟩
     have w1:W ((fs.length:Int) - 1 - j)=(k:Nat):=by rw [W_id (by omega)];omega
     have hk':k < fs.length:=by omega
     obtain ⟨x,hx,hg⟩:=fi_at fs hk'
     rw [w1,Int.toNat_natCast,hg]
     rw [show fs.length - j=k+1 from by omega] at ho ev
     have hin:inB (k:Int) fs.length=true:=inB_iff.2 ⟨by omega,by omega⟩
     refine tot_need hin ?_
     have hx1:(toFi x).1=x.1:=rfl
     have hx2:(toFi x).2.1=(x.2:Int):=rfl
     rw [hx1,hx2,T_bits_Ones,Option.bind_some]
     dsimp only
     refine tot_cond (fun h3=>tot_some ⟨?_,rfl,rfl⟩) fun h3=>?_
     · simp only [decide_eq_true_eq] at h3
       exact P.pack_bad hx (by omega)
     simp only [decide_eq_false_iff_not] at h3
     obtain ⟨fa1,fa2⟩:=P.fits_all h1 k
     rw [drop_at' hx] at fa1 fa2
     have hxb:=fa1 x.1 (by simp)
     refine tot_need (by simp;omega) (tot_some ?_)
     have hlt:=P.packR_lt (fs.drop (k+1)) ho (fun z hz=>(P.fits_all h1 (k+1)).1 z hz)
     simp only [List.map_cons,P.sumW] at fa2
     generalize hR:P.packR (fs.drop (k+1))=R at *
     generalize hS:P.sumW ((fs.drop (k+1)).map (·.1))=S at *
     have hpow:R*2 ^ x.1.toNat < 18446744073709551616:=by
      calc R*2 ^ x.1.toNat < 2 ^ S*2 ^ x.1.toNat:=Nat.mul_lt_mul_of_pos_right hlt (Nat.pow_pos (by omega))
       _=2 ^ (S+x.1.toNat):=(Nat.pow_add ..).symm
       _<=2 ^ 64:=Nat.pow_le_pow_right (by omega) (by omega)
       _=_:=by decide
     have hu:U (v*2 ^ min x.1.toNat IntKind.u64.bits)=((R <<< x.1.toNat:Nat):Int):=by
      have hb:IntKind.u64.bits=64:=rfl
      rw [hb,show min x.1.toNat 64=x.1.toNat from by omega,ev,<-P.ipow_cast,<-Int.natCast_mul,Nat.shiftLeft_eq]
      exact U_id (by omega)
     have hp:P.packR (fs.drop k)=R <<< x.1.toNat ||| x.2:=by rw [drop_at' hx,P.packR,hR]
     have hx3:=hv x (List.mem_of_getElem? hx)
     rw [hu,bits_or _ _ (by rw [Nat.shiftLeft_eq];exact hpow) hx3]
     rw [W_id (n:=(j:Int)+1) (by omega)]
     refine ⟨⟨j+1,by dsimp only;omega,by omega,?_,?_⟩,by dsimp only;omega⟩
     · rw [show fs.length - (j+1)=k from by omega,drop_at' hx]
       unfold P.okF at ho ⊢
       rw [List.all_cons,ho,Bool.and_true]
       exact decide_eq_true (by omega)
     · rw [show fs.length - (j+1)=k from by omega,hp]
   · simp only [decide_eq_false_iff_not] at h2
     obtain rfl:j=fs.length:=by omega
     rw [Nat.sub_self,List.drop_zero] at ho ev
     exact ⟨ho,ev⟩
 · intro r hr
   refine tot_sum (fun x hx=>?_) fun x hx=>?_
   · subst hx
     obtain ⟨h2,h3,h4⟩:=hr
     rw [P.packB_bad h1 h2]
     exact tot_some ⟨h3,h4⟩
   · subst hx
     obtain ⟨h2,h3⟩:=hr
     rw [P.packB_ok h1 h2]
     exact tot_some ⟨h3,rfl⟩
end Go.VI
namespace Go.VI
open Go
theorem wf_u {n:Int} (h:(Lit.int .u64 n).wf=true):0<=n/\n < 18446744073709551616:=by
 simp only [Lit.wf,Bool.and_eq_true,decide_eq_true_eq] at h
 have e1:IntKind.u64.min=0:=rfl
 have e2:IntKind.u64.max=18446744073709551615:=rfl
 omega
end Go.VI
namespace Go.VI
open Go
abbrev InD:=Int × Int × Int × Int × Int × Unit
abbrev In0:InD:=(0,0,0,0,0,())
abbrev LA (α:Type):=(α × Int × Unit) × Unit × Unit
abbrev LB (α:Type):=(α × Unit) × Unit × Unit ⊕ (α × Unit) × Unit × Unit
theorem rl_all {α:Type} {n:Nat} (hn:n<=1000000000) (p:Nat->Bool) (q0 bad:α) {g:LA α->Option (LA α ⊕ LB α)}
 (h:∀ k:Nat,k < n->g ((q0,(k:Int),()),(),())=some (cond (p k) (.inl ((q0,(k:Int)+1,()),(),())) (.inr (.inl ((bad,()),(),()))))) :
 rl (LA α) (LB α) (fun x=>bif decide (x.1.2.1 < (n:Int)) then bif inB x.1.2.1 n then g x else none else some (Sum.inr (Sum.inr ((x.1.1,()),(),())))) ((q0,0,()),(),())=some (cond ((List.range' 0 n).all p) (.inr ((q0,()),(),())) (.inl ((bad,()),(),()))):=by
 refine (runLoop_eq (fun x=>∃ k:Nat,x=((q0,(k:Int),()),(),())/\k<=n) (fun x=>((n:Int) - x.1.2.1).toNat)
  (fun x=>some (cond ((List.range' x.1.2.1.toNat (n - x.1.2.1.toNat)).all p) (Sum.inr ((q0,()),(),()):LB α) (Sum.inl ((bad,()),(),())))) ?_ _ ⟨0,rfl,by omega⟩)
 rintro _ ⟨k,rfl,hk⟩
 dsimp only
 by_cases h1:(k:Int) < n
 · have hk':k < n:=by omega
   rw [decide_eq_true h1,inB_iff.2 ⟨by omega,by omega⟩]
   simp only [cond_true]
   rw [h k hk',Int.toNat_natCast,show n - k=(n - (k+1))+1 from by omega,List.range'_succ,List.all_cons]
   cases hp:p k
   · exact .inr (.inr ⟨_,rfl,rfl⟩)
   · refine .inr (.inl ⟨_,rfl,⟨k+1,by rw [Int.natCast_add];rfl,by omega⟩,by dsimp only;omega,?_⟩)
     rw [show ((k:Int)+1).toNat=k+1 from by omega];rfl
 · have:k=n:=by omega
   subst this
   rw [decide_eq_false h1]
   refine .inr (.inr ⟨_,rfl,?_⟩)
   rw [Int.toNat_natCast,Nat.sub_self];rfl
theorem all_range {α:Type} (P:α->Bool) (d:α):∀ (l:List α) (i:Nat) (p:Nat->Bool),(∀ j,j < l.length->p (i+j)=P (l.getD j d))->(List.range' i l.length).all p=l.all P
 | [],i,p,_=>rfl
 | x :: r,i,p,h=>by
  rw [List.length_cons,List.range'_succ,List.all_cons,List.all_cons,all_range P d r (i+1) p (fun j hj=>by
   have:=h (j+1) (by simp;omega)
   rw [show i+1+j=i+(j+1) from by omega,this];rfl)]
  have:=h 0 (by simp)
  rw [show i=i+0 from rfl,this];rfl
theorem rl_list {α β:Type} (l:List β) (d:β) (P:β->Bool) (hn:l.length<=1000000000) (q0 bad:α) {g:LA α->Option (LA α ⊕ LB α)}
 (h:∀ k:Nat,k < l.length->g ((q0,(k:Int),()),(),())=some (cond (P (l.getD k d)) (.inl ((q0,(k:Int)+1,()),(),())) (.inr (.inl ((bad,()),(),()))))) :
 rl (LA α) (LB α) (fun x=>bif decide (x.1.2.1 < (l.length:Int)) then bif inB x.1.2.1 l.length then g x else none else some (Sum.inr (Sum.inr ((x.1.1,()),(),())))) ((q0,0,()),(),())=some (cond (l.all P) (.inr ((q0,()),(),())) (.inl ((bad,()),(),()))):=by
 rw [rl_all hn (fun k=>P (l.getD k d)) q0 bad h,all_range P d l 0 _ (fun j hj=>by rw [Nat.zero_add])]
namespace P
def insB (x:InD):Bool:=decide (1<=x.1/\x.1<=17/\0<=x.2.1/\x.2.1<=7/\0<=x.2.2.1/\x.2.2.1<=255/\0<=x.2.2.2.1/\x.2.2.2.1<=7)
def formB (a:Int) (l:List InD):Bool:=decide (0<=a/\a<=3) && decide (l.length<=256) && l.all insB
def argN (op:Int):Int:=if op=1\/op=6\/op=8\/op=10 then 2 else if op=7\/op=9 then 3 else if 1<=op/\op<=20 then 1 else 0
theorem argN_range (op:Int):0<=argN op/\argN op<=3:=by
 unfold argN
 split
 · omega
 split
 · omega
 split <;> omega
end P
theorem X_r22_Args (op:Int):F_r22_Args (op,())=some ((P.argN op,()),()):=by
 rw [nf_r22_Args];dsimp only
 unfold P.argN
 by_cases h1:op=1\/op=6\/op=8\/op=10
 · rw [if_pos h1]
   rcases h1 with rfl | rfl | rfl | rfl <;> rfl
 rw [if_neg h1]
 simp only [not_or] at h1
 by_cases h2:op=7\/op=9
 · rw [if_pos h2]
   rcases h2 with rfl | rfl <;> rfl
 rw [if_neg h2]
 simp only [not_or] at h2
 rw [beq_eq_false_iff_ne.2 h1.1,beq_eq_false_iff_ne.2 h1.2.1,beq_eq_false_iff_ne.2 h1.2.2.1,beq_eq_false_iff_ne.2 h1.2.2.2,beq_eq_false_iff_ne.2 h2.1,beq_eq_false_iff_ne.2 h2.2]
 by_cases h3:1<=op/\op<=20
 · rw [if_pos h3,decide_eq_true h3.1,decide_eq_true h3.2];rfl
 · rw [if_neg h3]
   by_cases h4:1<=op
   · rw [decide_eq_true h4,decide_eq_false (show ¬op<=20 by omega)];rfl
   · rw [decide_eq_false h4];rfl
theorem X_ncode_Args (op:Int):F_ncode_Args (op,())=some ((P.argN op,()),()):=by
 by_cases h:1<=op/\op<=20
 · obtain ⟨n,rfl⟩:∃ n:Nat,op=n:=⟨op.toNat,by omega⟩
   have hn:n < 21:=by omega
   rw [nf_ncode_Args];dsimp only
   have h':n=0\/n=1\/n=2\/n=3\/n=4\/n=5\/n=6\/n=7\/n=8\/n=9\/n=10\/n=11\/n=12\/n=13\/n=14\/n=15\/n=16\/n=17\/n=18\/n=19\/n=20:=by omega
   rcases h' with rfl | rfl | rfl | rfl | rfl | rfl | rfl | rfl | rfl | rfl | rfl | rfl | rfl | rfl | rfl | rfl | rfl | rfl | rfl | rfl | rfl <;> rfl
 · have e:P.argN op=0:=by unfold P.argN;rw [if_neg (by omega),if_neg (by omega),if_neg h]
   rw [nf_ncode_Args,e];dsimp only
   have b:∀ k:Int,1<=k/\k<=20->(op == k)=false:=fun k hk=>beq_eq_false_iff_ne.2 (by omega)
   rw [b 2 (by omega),b 3 (by omega),b 4 (by omega),b 5 (by omega),b 11 (by omega),b 13 (by omega),b 15 (by omega),b 12 (by omega),b 14 (by omega),b 16 (by omega),b 17 (by omega),b 18 (by omega),b 19 (by omega),b 20 (by omega),b 1 (by omega),b 6 (by omega),b 8 (by omega),b 10 (by omega),b 7 (by omega),b 9 (by omega)]
   rfl
theorem X_ncode_within (a b:Int):F_ncode_within (a,b,())=some ((decide (0<=a/\a<=b),()),()):=by
 rw [nf_ncode_within];dsimp only
 by_cases h:a >= 0
 · rw [decide_eq_true h]
   by_cases h2:a<=b
   · rw [decide_eq_true h2,decide_eq_true (show 0<=a/\a<=b from ⟨h,h2⟩)];rfl
   · rw [decide_eq_false h2,decide_eq_false (show ¬(0<=a/\a<=b) from fun k=>h2 k.2)];rfl
 · rw [decide_eq_false h,decide_eq_false (show ¬(0<=a/\a<=b) from fun k=>h k.1)];rfl
theorem some_bool {a b:Bool} (h:a=b):(some ((a,()),()):Option ((Bool × Unit) × Unit))=some ((b,()),()):=by rw [h]
theorem X_ncode_wellFormed (x:InD):F_ncode_wellFormed (x,())=some ((P.insB x,()),()):=by
 obtain ⟨op,a,b,c,k,_⟩:=x
 rw [nf_ncode_wellFormed];dsimp only
 have o8:P.onesV 8=255:=rfl
 rw [X_ncode_within,T_bits_Ones,Option.bind_some,Option.bind_some,o8]
 dsimp only
 rw [X_ncode_within,Option.bind_some,X_ncode_within,Option.bind_some,show W 255=255 from rfl]
 dsimp only
 unfold P.insB;dsimp only
 by_cases h1:op >= 1
 case neg=>rw [decide_eq_false h1];exact some_bool (decide_eq_false (by omega)).symm
 by_cases h2:op<=17
 case neg=>rw [decide_eq_true h1,decide_eq_false h2];exact some_bool (decide_eq_false (by omega)).symm
 by_cases h3:0<=a/\a<=7
 case neg=>rw [decide_eq_true h1,decide_eq_true h2,decide_eq_false h3];exact some_bool (decide_eq_false (by omega)).symm
 by_cases h4:0<=b/\b<=255
 case neg=>rw [decide_eq_true h1,decide_eq_true h2,decide_eq_true h3,decide_eq_false h4];exact some_bool (decide_eq_false (by omega)).symm
 rw [decide_eq_true h1,decide_eq_true h2,decide_eq_true h3,decide_eq_true h4]
 exact some_bool (decide_eq_decide.2 (by omega))
theorem getD_tup (l:List InD) (k:Nat):((l.getD k In0).1,(l.getD k In0).2.1,(l.getD k In0).2.2.1,(l.getD k In0).2.2.2.1,(l.getD k In0).2.2.2.2.1,())=l.getD k In0:=rfl
theorem X_ncode_encodable (a:Int) (l:List InD) (hl:l.length<=1000000000):F_ncode_encodable ((a,l,()),())=some ((P.formB a l,()),()):=by
 rw [nf_ncode_encodable];dsimp only
 rw [X_ncode_within,Option.bind_some];dsimp only
 unfold P.formB
 by_cases h1:0<=a/\a<=3
 case neg=>rw [decide_eq_false h1];rfl
 rw [decide_eq_true h1]
 by_cases h2:l.length<=256
 case neg=>rw [decide_eq_false h2,decide_eq_true (show (l.length:Int) > 256 by omega)];rfl
 rw [decide_eq_true h2,decide_eq_false (show ¬(l.length:Int) > 256 by omega)]
 simp only [Bool.not_true,cond_false,Bool.true_and]
 rw [rl_list l In0 P.insB hl false false ?_,Option.bind_some]
 · cases l.all P.insB <;> rfl
 · intro k hk
   dsimp only
   rw [Int.toNat_natCast,getD_tup,X_ncode_wellFormed,Option.bind_some,W_id (by omega)]
   cases P.insB (l.getD k In0) <;> rfl
theorem X_r22_Formed (a:Int) (l:List InD) (hl:l.length<=1000000000):F_r22_Formed ((a,l,()),())=some ((P.formB a l,()),()):=by
 rw [nf_r22_Formed];dsimp only
 rw [rl_list l In0 P.insB hl false false ?_,Option.bind_some]
 · unfold P.formB
   cases l.all P.insB
   · rw [Bool.and_false];rfl
   · rw [Bool.and_true]
     refine some_bool ?_
     by_cases h1:a >= 0
     case neg=>rw [decide_eq_false h1,decide_eq_false (show ¬(0<=a/\a<=3) by omega)];rfl
     by_cases h2:a<=3
     case neg=>rw [decide_eq_true h1,decide_eq_false h2,decide_eq_false (show ¬(0<=a/\a<=3) by omega)];rfl
     rw [decide_eq_true h1,decide_eq_true h2,decide_eq_true (show (0<=a/\a<=3) by omega)]
     exact decide_eq_decide.2 (by omega)
 · intro k hk
   dsimp only
   rw [Int.toNat_natCast,W_id (by omega)]
   generalize l.getD k In0=x
   obtain ⟨op,a,b,c,kk,_⟩:=x
   dsimp only
   unfold P.insB;dsimp only
   by_cases h1:op < 1
   · rw [decide_eq_true h1,decide_eq_false (show ¬(1<=op/\op<=17/\0<=a/\a<=7/\0<=b/\b<=255/\0<=c/\c<=7) by omega)];rfl
   by_cases h2:op > 17
   · rw [decide_eq_false h1,decide_eq_true h2,decide_eq_false (show ¬(1<=op/\op<=17/\0<=a/\a<=7/\0<=b/\b<=255/\0<=c/\c<=7) by omega)];rfl
   by_cases h3:a < 0
   · rw [decide_eq_false h1,decide_eq_false h2,decide_eq_true h3,decide_eq_false (show ¬(1<=op/\op<=17/\0<=a/\a<=7/\0<=b/\b<=255/\0<=c/\c<=7) by omega)];rfl
   by_cases h4:a > 7
   · rw [decide_eq_false h1,decide_eq_false h2,decide_eq_false h3,decide_eq_true h4,decide_eq_false (show ¬(1<=op/\op<=17/\0<=a/\a<=7/\0<=b/\b<=255/\0<=c/\c<=7) by omega)];rfl
   by_cases h5:c < 0
   · rw [decide_eq_false h1,decide_eq_false h2,decide_eq_false h3,decide_eq_false h4,decide_eq_true h5,decide_eq_false (show ¬(1<=op/\op<=17/\0<=a/\a<=7/\0<=b/\b<=255/\0<=c/\c<=7) by omega)];rfl
   by_cases h6:c > 7
   · rw [decide_eq_false h1,decide_eq_false h2,decide_eq_false h3,decide_eq_false h4,decide_eq_false h5,decide_eq_true h6,decide_eq_false (show ¬(1<=op/\op<=17/\0<=a/\a<=7/\0<=b/\b<=255/\0<=c/\c<=7) by omega)];rfl
   by_cases h7:b < 0
   · rw [decide_eq_false h1,decide_eq_false h2,decide_eq_false h3,decide_eq_false h4,decide_eq_false h5,decide_eq_false h6,decide_eq_true h7,decide_eq_false (show ¬(1<=op/\op<=17/\0<=a/\a<=7/\0<=b/\b<=255/\0<=c/\c<=7) by omega)];rfl
   rw [decide_eq_false h1,decide_eq_false h2,decide_eq_false h3,decide_eq_false h4,decide_eq_false h5,decide_eq_false h6,decide_eq_false h7]
   by_cases h8:b > 255
   · rw [decide_eq_true h8,decide_eq_false (show ¬(1<=op/\op<=17/\0<=a/\a<=7/\0<=b/\b<=255/\0<=c/\c<=7) by omega)];rfl
   · rw [decide_eq_false h8,decide_eq_true (show (1<=op/\op<=17/\0<=a/\a<=7/\0<=b/\b<=255/\0<=c/\c<=7) by omega)];rfl
#print axioms rl_list
end Go.VI
namespace Go.VI
open Go
namespace P
def takesV (op:Int):Bool:=decide (2<=op/\op<=8\/op=11\/op=12)
def fitB (n:Int) (x:InD):Bool:=cond (takesV x.1) (decide (x.2.2.1<=7)) (cond (decide (x.1=9\/x.1=10)) (decide (x.2.2.2.2.1<=n)) (cond (decide (x.1=13)) (decide (x.2.2.2.1+argN x.2.2.1<=8)) true))
def callB (fs:List Int) (x:InD):Bool:=cond (decide (x.1=13)) (decide (1<=x.2.2.1/\x.2.2.1<=20)) (cond (decide (x.1=14)) (decide (x.2.2.1 < fs.length/\fs.getD x.2.2.1.toNat 0<=8 - x.2.2.2.1)) true)
def runB (a:Int) (l:List InD):Bool:=formB a l && l.all (fitB l.length)
def checkV (a:Int) (l:List InD) (fs:List Int):Int:=cond (runB a l && l.all (callB fs)) 0 16
theorem formB_all {a:Int} {l:List InD} (h:formB a l=true):l.all insB=true:=by
 unfold formB at h;simp only [Bool.and_eq_true] at h;exact h.2
theorem formB_len {a:Int} {l:List InD} (h:formB a l=true):l.length<=256:=by
 unfold formB at h;simp only [Bool.and_eq_true,decide_eq_true_eq] at h;exact h.1.2
theorem formB_args {a:Int} {l:List InD} (h:formB a l=true):0<=a/\a<=3:=by
 unfold formB at h;simp only [Bool.and_eq_true,decide_eq_true_eq] at h;exact h.1.1
theorem all_get {l:List InD} {p:InD->Bool} (h:l.all p=true) {k:Nat} (hk:k < l.length):p (l.getD k In0)=true:=by
 rw [List.getD_eq_getElem?_getD,List.getElem?_eq_getElem hk]
 exact List.all_eq_true.1 h _ (List.getElem_mem hk)
theorem insB_iff {x:InD}:insB x=true↔(1<=x.1/\x.1<=17/\0<=x.2.1/\x.2.1<=7/\0<=x.2.2.1/\x.2.2.1<=255/\0<=x.2.2.2.1/\x.2.2.2.1<=7):=by
 unfold insB;exact decide_eq_true_iff
end P
theorem X_r22_takesB (op:Int):F_r22_takesB (op,())=some ((P.takesV op,()),()):=by
 rw [nf_r22_takesB];dsimp only
 refine some_bool ?_
 unfold P.takesV
 by_cases h1:op=2
 · subst h1;rfl
 rw [beq_eq_false_iff_ne.2 h1,cond_false]
 have h11:(cond (op == 11) true (op == 12))=decide (op=11\/op=12):=by
  by_cases h:op=11
  · subst h;rfl
  · rw [beq_eq_false_iff_ne.2 h,cond_false]
    by_cases h':op=12
    · subst h';rfl
    · rw [beq_eq_false_iff_ne.2 h',decide_eq_false (by omega)]
 by_cases h3:op >= 3
 · rw [decide_eq_true h3,cond_true]
   by_cases h4:op<=8
   · rw [decide_eq_true h4,cond_true];exact (decide_eq_true (by omega)).symm
   · rw [decide_eq_false h4,cond_false,h11];exact decide_eq_decide.2 (by omega)
 · rw [decide_eq_false h3,cond_false,h11];exact decide_eq_decide.2 (by omega)
theorem X_ncode_fits (x:InD) (n:Nat) (hn:n<=1000000000) (hx:P.insB x=true):F_ncode_fits (x,(n:Int),())=some ((P.fitB n x,()),()):=by
 have h:=P.insB_iff.1 hx
 obtain ⟨op,a,b,c,k,_⟩:=x
 rw [nf_ncode_fits];dsimp only at h ⊢
 have ha:=P.argN_range b
 rw [X_ncode_Args,Option.bind_some,U_id (n:=(n:Int)) (by omega)];dsimp only
 rw [W_id (n:=c+P.argN b) (by omega)]
 unfold P.fitB;dsimp only
 have hb:decide (b < 8)=decide (b<=7):=decide_eq_decide.2 (by omega)
 rw [hb]
 have h':op=1\/op=2\/op=3\/op=4\/op=5\/op=6\/op=7\/op=8\/op=9\/op=10\/op=11\/op=12\/op=13\/op=14\/op=15\/op=16\/op=17:=by omega
 rcases h' with rfl | rfl | rfl | rfl | rfl | rfl | rfl | rfl | rfl | rfl | rfl | rfl | rfl | rfl | rfl | rfl | rfl <;> rfl
theorem X_r22_Sound (a0:Int) (l:List InD) (x:InD) (hl:l.length<=1000000000) (hx:P.insB x=true):F_r22_Sound ((a0,l,()),x,())=some ((P.fitB l.length x,()),()):=by
 have h:=P.insB_iff.1 hx
 obtain ⟨op,a,b,c,k,_⟩:=x
 rw [nf_r22_Sound];dsimp only at h ⊢
 have ha:=P.argN_range b
 rw [X_r22_takesB,Option.bind_some,X_r22_Args,Option.bind_some,U_id (n:=(l.length:Int)) (by omega)];dsimp only
 rw [W_id (n:=c+P.argN b) (by omega)]
 unfold P.fitB;dsimp only
 have hb:decide (b > 7) = !decide (b<=7):=by rw [<-decide_not];exact decide_eq_decide.2 (by omega)
 have hk:decide (k > (l.length:Int)) = !decide (k<=(l.length:Int)):=by rw [<-decide_not];exact decide_eq_decide.2 (by omega)
 rw [hb,hk]
 generalize decide (b<=7)=p1
 generalize decide (k<=(l.length:Int))=p2
 generalize decide (c+P.argN b<=8)=p3
 have h':op=1\/op=2\/op=3\/op=4\/op=5\/op=6\/op=7\/op=8\/op=9\/op=10\/op=11\/op=12\/op=13\/op=14\/op=15\/op=16\/op=17:=by omega
 rcases h' with rfl | rfl | rfl | rfl | rfl | rfl | rfl | rfl | rfl | rfl | rfl | rfl | rfl | rfl | rfl | rfl | rfl <;> cases p1 <;> cases p2 <;> cases p3 <;> rfl
theorem X_ncode_runnable (a:Int) (l:List InD) (hl:l.length<=1000000000):F_ncode_runnable ((a,l,()),())=some ((P.runB a l,()),()):=by
 rw [nf_ncode_runnable];dsimp only
 rw [X_ncode_encodable a l hl,Option.bind_some];dsimp only
 unfold P.runB
 cases hf:P.formB a l
 · rfl
 simp only [Bool.not_true,cond_false,Bool.true_and]
 rw [rl_list l In0 (P.fitB l.length) hl false false ?_,Option.bind_some]
 · cases l.all (P.fitB l.length) <;> rfl
 · intro k hk
   dsimp only
   rw [Int.toNat_natCast,getD_tup,X_ncode_fits _ _ hl (P.all_get (P.formB_all hf) hk),Option.bind_some,W_id (by omega)]
   cases P.fitB l.length (l.getD k In0) <;> rfl
theorem X_ncode_calls (x:InD) (fs:List Int) (hl:fs.length<=1000000000) (hx:P.insB x=true):F_ncode_calls (x,fs,())=some ((P.callB fs x,()),()):=by
 have h:=P.insB_iff.1 hx
 obtain ⟨op,a,b,c,k,_⟩:=x
 rw [nf_ncode_calls];dsimp only at h ⊢
 rw [X_ncode_Args,Option.bind_some,W_id (n:=8 - c) (by omega)];dsimp only
 unfold P.callB;dsimp only
 by_cases h13:op=13
 · subst h13
   refine some_bool (decide_eq_decide.2 ?_)
   unfold P.argN;split
   · omega
   split
   · omega
   split <;> omega
 rw [beq_eq_false_iff_ne.2 h13,cond_false,decide_eq_false h13,cond_false]
 by_cases h14:op=14
 · subst h14
   by_cases hb:b < (fs.length:Int)
   · rw [decide_eq_true hb]
     rw [show (cond ((14:Int) == 14) (cond true (inB b fs.length) true) true)=true from inB_iff.2 ⟨by omega,hb⟩]
     refine some_bool (decide_eq_decide.2 ?_)
     exact ⟨fun q=>⟨hb,q⟩,fun q=>q.2⟩
   · rw [decide_eq_false hb]
     refine some_bool ?_
     exact (decide_eq_false (fun q=>hb q.1)).symm
 · rw [beq_eq_false_iff_ne.2 h14,decide_eq_false h14];rfl
theorem X_ncode_Check (a:Int) (l:List InD) (fs:List Int) (hl:l.length<=1000000000) (hf:fs.length<=1000000000):F_ncode_Check ((a,l,()),fs,())=some ((P.checkV a l fs,()),()):=by
 rw [nf_ncode_Check];dsimp only
 rw [X_ncode_runnable a l hl,Option.bind_some];dsimp only
 unfold P.checkV
 cases hr:P.runB a l
 · rfl
 simp only [Bool.not_true,cond_false,Bool.true_and]
 have hi:P.formB a l=true:=by unfold P.runB at hr;simp only [Bool.and_eq_true] at hr;exact hr.1
 rw [rl_list l In0 (P.callB fs) hl (0:Int) 16 ?_,Option.bind_some]
 · cases l.all (P.callB fs) <;> rfl
 · intro k hk
   dsimp only
   rw [Int.toNat_natCast,getD_tup,X_ncode_calls _ _ hf (P.all_get (P.formB_all hi) hk),Option.bind_some,W_id (by omega)]
   cases P.callB fs (l.getD k In0) <;> rfl
theorem all_and' {α:Type} (p q:α->Bool):∀ l:List α,(l.all p && l.all q)=l.all (fun x=>p x && q x)
 | []=>rfl
 | x :: r=>by
  rw [List.all_cons,List.all_cons,List.all_cons,<-all_and' p q r]
  cases p x <;> cases q x <;> cases r.all p <;> rfl
theorem X_r22_Check (a:Int) (l:List InD) (fs:List Int) (hl:l.length<=1000000000) (hf:fs.length<=1000000000):F_r22_Check ((a,l,()),fs,())=some ((P.checkV a l fs,()),()):=by
 rw [nf_r22_Check];dsimp only
 rw [X_r22_Formed a l hl,Option.bind_some];dsimp only
 unfold P.checkV P.runB
 cases hi:P.formB a l
 · rfl
 simp only [Bool.not_true,cond_false,Bool.true_and]
 have e:(l.all (P.fitB l.length) && l.all (P.callB fs))=l.all (fun x=>P.fitB l.length x && P.callB fs x):=by
  exact all_and' _ _ l
 rw [rl_list l In0 (fun x=>P.fitB l.length x && P.callB fs x) hl (0:Int) 16 ?_,Option.bind_some]
 · rw [e]
   cases l.all (fun x=>P.fitB l.length x && P.callB fs x) <;> rfl
 · intro k hk
   have hx:=P.all_get (P.formB_all hi) hk
   dsimp only
   rw [Int.toNat_natCast,getD_tup,W_id (n:=(k:Int)+1) (by omega)]
   generalize l.getD k In0=x at hx ⊢
   rw [X_r22_Sound a l x hl hx,Option.bind_some]
   have h:=P.insB_iff.1 hx
   obtain ⟨op,a',b,c,kk,_⟩:=x
   dsimp only at h ⊢
   cases P.fitB (↑l.length) (op,a',b,c,kk,())
   · rfl
   rw [W_id (n:=8 - c) (by omega)]
   unfold P.callB;dsimp only
   by_cases h13:op=13
   · subst h13
     by_cases h1:b < 1
     · rw [decide_eq_true h1,decide_eq_false (show ¬(1<=b/\b<=20) by omega)];rfl
     rw [decide_eq_false h1]
     by_cases h2:b > 20
     · rw [decide_eq_true h2,decide_eq_false (show ¬(1<=b/\b<=20) by omega)];rfl
     · rw [decide_eq_false h2,decide_eq_true (show (1<=b/\b<=20) by omega)];rfl
   rw [beq_eq_false_iff_ne.2 h13,decide_eq_false h13]
   by_cases h14:op=14
   · subst h14
     by_cases hb:b >= (fs.length:Int)
     · rw [decide_eq_true hb,decide_eq_false (show ¬(b < (fs.length:Int)/\fs.getD b.toNat 0<=8 - c) from fun q=>by omega)];rfl
     · rw [decide_eq_false hb,inB_iff.2 ⟨h.2.2.2.2.1,by omega⟩]
       by_cases hc:fs.getD b.toNat 0 > 8 - c
       · rw [decide_eq_true hc,decide_eq_false (show ¬(b < (fs.length:Int)/\fs.getD b.toNat 0<=8 - c) from fun q=>by omega)];rfl
       · rw [decide_eq_false hc,decide_eq_true (show (b < (fs.length:Int)/\fs.getD b.toNat 0<=8 - c) from ⟨by omega,by omega⟩)];rfl
   · rw [beq_eq_false_iff_ne.2 h14,decide_eq_false h14];rfl
end Go.VI
namespace Go.VI
open Go
namespace P
def encW (x:InD):Int:=x.1+256*x.2.1+4096*x.2.2.1+1048576*x.2.2.2.1
def encR:List InD->List Int
 | []=>[]
 | x :: r=>encW x :: x.2.2.2.2.1 :: encR r
def insOf (w k:Int):InD:=(w % 256,w / 256 % 16,w / 4096 % 256,w / 1048576 % 16,k,())
def decR:List Int->List InD
 | w :: k :: r=>insOf w k :: decR r
 | _=>[]
def goodR:List Int->Bool
 | w :: k :: r=>(decide (w < 16777216) && insB (insOf w k)) && goodR r
 | _=>true
def wideR:List Int->Bool
 | w :: k :: r=>decide (w < 16777216) && wideR r
 | _=>true
def decB (l:List Int):Bool:=decide (l.length % 2=1) && (decide (l.length<=513) && (decide (l.getD 0 0<=3) && goodR (l.drop 1)))
theorem encR_len:∀ l,(encR l).length=2*l.length
 | []=>rfl
 | x :: r=>by rw [encR,List.length_cons,List.length_cons,encR_len r,List.length_cons];omega
theorem decR_len:∀ (n:Nat) (l:List Int),l.length=2*n->(decR l).length=n
 | 0,[],h=>rfl
 | 0,x :: r,h=>by simp at h
 | n+1,[],h=>by simp at h
 | n+1,[x],h=>by simp at h;omega
 | n+1,w :: k :: r,h=>by
  simp only [List.length_cons] at h
  rw [decR,List.length_cons,decR_len n r (by omega)]
theorem encR_append:∀ (l m:List InD),encR (l ++ m)=encR l ++ encR m
 | [],m=>rfl
 | x :: r,m=>by rw [List.cons_append,encR,encR,encR_append r m];rfl
theorem insOf_encW {x:InD} (h:insB x=true):insOf (encW x) x.2.2.2.2.1=x:=by
 have:=insB_iff.1 h
 obtain ⟨op,a,b,c,k,_⟩:=x
 unfold insOf encW;dsimp only at this ⊢
 rw [show (op+256*a+4096*b+1048576*c) % 256=op from by omega,show (op+256*a+4096*b+1048576*c) / 256 % 16=a from by omega,show (op+256*a+4096*b+1048576*c) / 4096 % 256=b from by omega,show (op+256*a+4096*b+1048576*c) / 1048576 % 16=c from by omega]
theorem encW_range {x:InD} (h:insB x=true):0<=encW x/\encW x < 16777216:=by
 have:=insB_iff.1 h
 unfold encW;omega
theorem encW_insOf {w k:Int} (h:0<=w/\w < 16777216):encW (insOf w k)=w:=by
 unfold insOf encW;dsimp only;omega
theorem decR_encR:∀ {l:List InD},l.all insB=true->decR (encR l)=l/\goodR (encR l)=true
 | [],_=>⟨rfl,rfl⟩
 | x :: r,h=>by
  simp only [List.all_cons,Bool.and_eq_true] at h
  obtain ⟨h1,h2⟩:=decR_encR h.2
  rw [encR,decR,goodR,insOf_encW h.1,h1,h2,h.1,decide_eq_true (encW_range h.1).2]
  exact ⟨rfl,rfl⟩
theorem encR_decR:∀ (n:Nat) (l:List Int),l.length=2*n->(∀ x∈l,0<=x)->goodR l=true->encR (decR l)=l/\(decR l).all insB=true
 | 0,[],h,_,_=>⟨rfl,rfl⟩
 | 0,x :: r,h,_,_=>by simp at h
 | n+1,[],h,_,_=>by simp at h
 | n+1,[x],h,_,_=>by simp at h;omega
 | n+1,w :: k :: r,h,h0,hg=>by
  simp only [List.length_cons] at h
  rw [goodR] at hg
  simp only [Bool.and_eq_true,decide_eq_true_eq] at hg
  obtain ⟨h1,h2⟩:=encR_decR n r (by omega) (fun x hx=>h0 x (by simp [hx])) hg.2
  rw [decR,encR,h1,encW_insOf ⟨h0 w (by simp),hg.1.1⟩,List.all_cons,h2,hg.1.2]
  exact ⟨rfl,rfl⟩
theorem goodR_wide:∀ (n:Nat) (l:List Int),l.length=2*n->goodR l=(wideR l && (decR l).all insB)
 | 0,[],h=>rfl
 | 0,x :: r,h=>by simp at h
 | n+1,[],h=>by simp at h
 | n+1,[x],h=>by simp at h;omega
 | n+1,w :: k :: r,h=>by
  simp only [List.length_cons] at h
  rw [goodR,wideR,decR,List.all_cons,goodR_wide n r (by omega)]
  cases decide (w < 16777216) <;> cases insB (insOf w k) <;> cases wideR r <;> rfl
end P
theorem tot_is {α:Type} {v:α} {o:Option α} (h:Tot (fun r=>r=v) o):o=some v:=by
 obtain ⟨r,h1,h2⟩:=h
 rw [h1,h2]
theorem or_add {a b i:Nat} (h:b < 2 ^ i):a <<< i ||| b=a*2 ^ i+b:=by
 rw [<-Nat.shiftLeft_add_eq_or_of_lt h,Nat.shiftLeft_eq]
theorem X_ncode_fields (x:InD) (hx:P.insB x=true):F_ncode_fields (x,())=some ((P.encW x,()),()):=by
 have h:=P.insB_iff.1 hx
 obtain ⟨op,a,b,c,k,_⟩:=x
 rw [nf_ncode_fields];dsimp only at h ⊢
 rw [U_id (n:=op) (by omega),U_id (n:=a) (by omega),U_id (n:=b) (by omega),U_id (n:=c) (by omega)]
 obtain ⟨op,rfl⟩:∃ n:Nat,op=n:=⟨op.toNat,by omega⟩
 obtain ⟨a,rfl⟩:∃ n:Nat,a=n:=⟨a.toNat,by omega⟩
 obtain ⟨b,rfl⟩:∃ n:Nat,b=n:=⟨b.toNat,by omega⟩
 obtain ⟨c,rfl⟩:∃ n:Nat,c=n:=⟨c.toNat,by omega⟩
 obtain ⟨⟨⟨(v:Int),(e:Int),_⟩,_⟩,hr,h1,h2⟩:=T_bits_Pack [(8,op),(4,a),(8,b),(4,c)] (by simp) (by
  intro f hf
  simp only [List.mem_cons,List.not_mem_nil,or_false] at hf
  rcases hf with rfl | rfl | rfl | rfl <;> dsimp only <;> omega)
 have hr:F_bits_Pack ([(8,(op:Int),()),(4,(a:Int),()),(8,(b:Int),()),(4,(c:Int),())],())=some ((v,e,()),()):=hr
 rw [hr,Option.bind_some]
 have hok:P.okF [(8,op),(4,a),(8,b),(4,c)]=true:=by
  unfold P.okF
  have o8:P.onesV 8=255:=rfl
  have o4:P.onesV 4=15:=rfl
  simp only [List.all_cons,List.all_nil,o8,o4,Bool.and_true,Bool.and_eq_true,decide_eq_true_eq]
  omega
 rw [P.packB_ok (by rfl) hok] at h1
 dsimp only at h1 ⊢
 rw [h1]
 simp only [P.packR]
 have e1:((0:Nat) <<< (4:Int).toNat ||| c)=c:=by simp
 have:(((0 <<< (4:Int).toNat ||| c) <<< (8:Int).toNat ||| b) <<< (4:Int).toNat ||| a) <<< (8:Int).toNat ||| op=((c*2 ^ 8+b)*2 ^ 4+a)*2 ^ 8+op:=by
  rw [e1,show (8:Int).toNat=8 from rfl,show (4:Int).toNat=4 from rfl,or_add (by omega),or_add (by omega),or_add (by omega)]
 rw [this]
 unfold P.encW;dsimp only
 refine congrArg (fun z:Int=>(some ((z,()),()):Option ((Int × Unit) × Unit))) ?_
 omega
theorem snoc_take {l:List InD} {k:Nat} (hk:k < l.length):l.take (k+1)=l.take k ++ [l.getD k In0]:=by
 rw [List.take_add_one,List.getElem?_eq_getElem hk,List.getD_eq_getElem?_getD,List.getElem?_eq_getElem hk];rfl
theorem X_ncode_Encode (a:Int) (l:List InD) (hl:l.length<=1000000000):F_ncode_Encode ((a,l,()),())=some ((cond (P.formB a l) (a :: P.encR l) [],cond (P.formB a l) 0 1,()),()):=by
 rw [nf_ncode_Encode];dsimp only
 rw [X_ncode_encodable a l hl,Option.bind_some];dsimp only
 cases hf:P.formB a l
 · rfl
 simp only [Bool.not_true,cond_false,cond_true]
 have h256:=P.formB_len hf
 have ha:=P.formB_args hf
 rw [U_id (n:=a) (by omega)]
 refine tot_is (tot_bind (P:=fun (r:(Unit × Unit) × (List Int × Unit) × Unit)=>r.2.1.1=a :: P.encR l) (tot_loop (fun x=>∃ k:Nat,x.1.2.1=(k:Int)/\k<=l.length/\x.2.1.1=a :: P.encR (l.take k)) (fun x=>((l.length:Int) - x.1.2.1).toNat) ⟨0,rfl,by omega,rfl⟩ ?_) ?_)
 · rintro ⟨⟨_,(i:Int),_⟩,⟨(xs:List Int),_⟩,_⟩ ⟨k,e,hk,ex⟩
   dsimp only at e ex ⊢
   rw [e,ex]
   refine tot_cond (fun h1=>?_) fun h1=>tot_some ?_
   · simp only [decide_eq_true_eq] at h1
     have hk':k < l.length:=by omega
     refine tot_need (inB_iff.2 ⟨by omega,by omega⟩) ?_
     rw [Int.toNat_natCast,getD_tup,X_ncode_fields _ (P.all_get (P.formB_all hf) hk'),Option.bind_some]
     dsimp only
     refine tot_need (small_iff.2 ?_) (tot_some ⟨⟨k+1,?_,by omega,?_⟩,?_⟩)
     · simp only [List.length_cons,P.encR_len,List.length_take,List.length_nil];omega
     · dsimp only;exact W_id (by omega)
     · dsimp only
       rw [snoc_take hk',P.encR_append];rfl
     · dsimp only;rw [W_id (by omega)];omega
   · simp only [decide_eq_false_iff_not] at h1
     exact congrArg (fun z=>a :: P.encR z) (List.take_of_length_le (by omega))
 · rintro ⟨_,⟨(xs:List Int),_⟩,_⟩ h2
   dsimp only at h2 ⊢
   rw [h2];exact tot_some rfl
theorem pow8:(2:Int) ^ min (Int.toNat 8) IntKind.i64.bits=256:=by decide
theorem pow12:(2:Int) ^ min (Int.toNat 12) IntKind.i64.bits=4096:=by decide
theorem pow20:(2:Int) ^ min (Int.toNat 20) IntKind.i64.bits=1048576:=by decide
theorem X_r22_Encode (a:Int) (l:List InD) (hl:l.length<=1000000000):F_r22_Encode ((a,l,()),())=some ((cond (P.formB a l) (a :: P.encR l) [],cond (P.formB a l) 0 1,()),()):=by
 rw [nf_r22_Encode];dsimp only
 rw [X_r22_Formed a l hl,Option.bind_some];dsimp only
 cases hf:P.formB a l
 · rfl
 simp only [Bool.not_true,cond_false,cond_true]
 have h256:=P.formB_len hf
 have ha:=P.formB_args hf
 rw [U_id (n:=a) (by omega)]
 refine tot_is (tot_bind (P:=fun (r:(Unit × Unit) × (List Int × Unit) × Unit)=>r.2.1.1=a :: P.encR l) (tot_loop (fun x=>∃ k:Nat,x.1.2.1=(k:Int)/\k<=l.length/\x.2.1.1=a :: P.encR (l.take k)) (fun x=>((l.length:Int) - x.1.2.1).toNat) ⟨0,rfl,by omega,rfl⟩ ?_) ?_)
 · rintro ⟨⟨_,(i:Int),_⟩,⟨(xs:List Int),_⟩,_⟩ ⟨k,e,hk,ex⟩
   dsimp only at e ex ⊢
   rw [e,ex]
   refine tot_cond (fun h1=>?_) fun h1=>tot_some ?_
   · simp only [decide_eq_true_eq] at h1
     have hk':k < l.length:=by omega
     refine tot_need (inB_iff.2 ⟨by omega,by omega⟩) (tot_need rfl (tot_need rfl (tot_need rfl ?_)))
     have hi:=P.insB_iff.1 (P.all_get (P.formB_all hf) hk')
     have e2:=snoc_take hk'
     rw [Int.toNat_natCast,pow8,pow12,pow20]
     generalize l.getD k In0=x at hi e2 ⊢
     obtain ⟨op,a',b,c,kk,_⟩:=x
     dsimp only at hi ⊢
     rw [W_id (n:=a'*256) (by omega),W_id (n:=b*4096) (by omega),W_id (n:=c*1048576) (by omega),W_id (n:=op+a'*256) (by omega),W_id (n:=op+a'*256+b*4096) (by omega),W_id (n:=op+a'*256+b*4096+c*1048576) (by omega),U_id (n:=op+a'*256+b*4096+c*1048576) (by omega)]
     refine tot_need (small_iff.2 ?_) (tot_some ⟨⟨k+1,?_,by omega,?_⟩,?_⟩)
     · simp only [List.length_cons,P.encR_len,List.length_take,List.length_nil];omega
     · dsimp only;exact W_id (by omega)
     · dsimp only
       rw [e2,P.encR_append]
       have:op+a'*256+b*4096+c*1048576=P.encW (op,a',b,c,kk,()):=by unfold P.encW;dsimp only;omega
       rw [this];rfl
     · dsimp only;rw [W_id (by omega)];omega
   · simp only [decide_eq_false_iff_not] at h1
     exact congrArg (fun z=>a :: P.encR z) (List.take_of_length_le (by omega))
 · rintro ⟨_,⟨(xs:List Int),_⟩,_⟩ h2
   dsimp only at h2 ⊢
   rw [h2];exact tot_some rfl
theorem X_l22_given (a:Int) (l:List InD) (hl:l.length<=100000000):F_l22_given ((a,l,()),())=some (((a,l,()),()),()):=by
 rw [nf_l22_given];dsimp only
 refine tot_is (tot_bind (P:=fun (r:Unit × (List InD × Unit) × (Int × Unit × Unit) × Unit)=>r.2.1.1=l/\r.2.2.1.1=a) (tot_loop (fun x=>∃ k:Nat,x.1.1=(k:Int)/\k<=l.length/\x.2.1.1=l.take k/\x.2.2.1.1=a) (fun x=>((l.length:Int) - x.1.1).toNat) ⟨0,rfl,by omega,rfl,rfl⟩ ?_) ?_)
 · rintro ⟨⟨(i:Int),_⟩,⟨(xs:List InD),_⟩,⟨(aa:Int),_⟩,_⟩ ⟨k,e,hk,ex,ea⟩
   dsimp only at e ex ea ⊢
   rw [e,ex,ea]
   refine tot_cond (fun h1=>?_) fun h1=>tot_some ?_
   · simp only [decide_eq_true_eq] at h1
     have hk':k < l.length:=by omega
     refine tot_need (inB_iff.2 ⟨by omega,by omega⟩) ?_
     rw [Int.toNat_natCast,getD_tup]
     refine tot_need (small_iff.2 ?_) (tot_some ⟨⟨k+1,?_,by omega,?_,rfl⟩,?_⟩)
     · simp only [List.length_cons,List.length_take,List.length_nil];omega
     · dsimp only;exact W_id (by omega)
     · dsimp only;exact (snoc_take hk').symm
     · dsimp only;rw [W_id (by omega)];omega
   · simp only [decide_eq_false_iff_not] at h1
     exact ⟨List.take_of_length_le (by omega),rfl⟩
 · rintro ⟨_,⟨(xs:List InD),_⟩,⟨(aa:Int),_⟩,_⟩ ⟨h1,h2⟩
   dsimp only at h1 h2 ⊢
   rw [h1,h2];exact tot_some rfl
theorem X_l22_told (a:Int) (l:List InD) (hl:l.length<=100000000):F_l22_told ((a,l,()),())=some (((a,l,()),()),()):=by
 rw [nf_l22_told,<-nf_l22_given];exact X_l22_given a l hl
theorem X_r22_Same (a:Int) (l:List InD) (hl:l.length<=100000000):F_r22_Same ((a,l,()),(a,l,()),())=some ((true,()),()):=by
 rw [nf_r22_Same];dsimp only
 have b1:(a != a)=false:=bne_self_eq_false a
 have b2:((l.length:Int) != (l.length:Int))=false:=bne_self_eq_false _
 rw [b1,b2,cond_false,cond_false]
 rw [rl_list l In0 (fun _=>true) (by omega) false false ?_,Option.bind_some]
 · rw [show l.all (fun _=>true)=true from by simp];rfl
 · intro k hk
   dsimp only
   rw [Int.toNat_natCast,W_id (by omega),inB_iff.2 ⟨by omega,by omega⟩]
   simp only [cond_true,beq_self_eq_true,Bool.and_self,Bool.not_true,cond_false]
end Go.VI
namespace Go.VI
open Go
theorem and_mod (x n:Nat) (hn:n<=64):x &&& P.onesN (n:Int)=x % 2 ^ n:=by
 unfold P.onesN
 rw [show min ((n:Int).toNat) 64=n from by omega,Nat.and_two_pow_sub_one_eq_mod]
theorem uvals4 (x:Nat):P.uvals x [8,4,8,4]=[((x % 256:Nat):Int),((x / 256 % 16:Nat):Int),((x / 4096 % 256:Nat):Int),((x / 1048576 % 16:Nat):Int)]:=by
 simp only [P.uvals]
 have e1:=and_mod x 8 (by omega)
 have e2:=and_mod (x >>> (8:Int).toNat) 4 (by omega)
 have e3:=and_mod (x >>> (8:Int).toNat >>> (4:Int).toNat) 8 (by omega)
 have e4:=and_mod (x >>> (8:Int).toNat >>> (4:Int).toNat >>> (8:Int).toNat) 4 (by omega)
 rw [show (8:Int).toNat=8 from rfl,show (4:Int).toNat=4 from rfl] at *
 rw [show ((8:Nat):Int)=8 from rfl] at e1 e3
 rw [show ((4:Nat):Int)=4 from rfl] at e2 e4
 rw [e1,e2,e3,e4]
 simp only [Nat.shiftRight_eq_div_pow,Nat.div_div_eq_div_mul]
theorem X_ncode_instruction (w k:Int) (hw:0<=w/\w < 18446744073709551616):F_ncode_instruction (w,k,())=some ((cond (decide (w < 16777216)) (P.insOf w k) In0,decide (w < 16777216) && P.insB (P.insOf w k),()),()):=by
 obtain ⟨x,rfl⟩:∃ x:Nat,w=x:=⟨w.toNat,by omega⟩
 rw [nf_ncode_instruction];dsimp only
 obtain ⟨⟨⟨(l:List Int),(e:Int),_⟩,_⟩,hr,h1,h2⟩:=T_bits_Unpack x (by omega) [8,4,8,4] (by simp)
 dsimp only at h1 h2
 rw [hr,Option.bind_some];dsimp only
 have hfit:P.fitL 64 [8,4,8,4]=true:=rfl
 unfold P.unpV at h1
 unfold P.unpE at h2
 rw [if_pos hfit] at h1 h2
 have hs:P.sumW [8,4,8,4]=24:=rfl
 rw [hs,Nat.shiftRight_eq_div_pow] at h1 h2
 by_cases hx:x < 16777216
 · have h0:x / 2 ^ 24=0:=Nat.div_eq_of_lt hx
   rw [if_pos h0] at h1 h2
   rw [uvals4] at h1
   rw [h1,h2,decide_eq_true (show (x:Int) < 16777216 by omega)]
   simp only [List.length_cons,List.length_nil]
   have w1:W ((x % 256:Nat):Int)=(x:Int) % 256:=by rw [W_id (by omega)];omega
   have w2:W ((x / 256 % 16:Nat):Int)=(x:Int) / 256 % 16:=by rw [W_id (by omega)];omega
   have w3:W ((x / 4096 % 256:Nat):Int)=(x:Int) / 4096 % 256:=by rw [W_id (by omega)];omega
   have w4:W ((x / 1048576 % 16:Nat):Int)=(x:Int) / 1048576 % 16:=by rw [W_id (by omega)];omega
   have key:F_ncode_wellFormed (((x:Int) % 256,(x:Int) / 256 % 16,(x:Int) / 4096 % 256,(x:Int) / 1048576 % 16,k,()),())=some ((P.insB (P.insOf x k),()),()):=X_ncode_wellFormed (P.insOf x k)
   show (cond ((0:Int) != 0) _ _:Option ((InD × Bool × Unit) × Unit))=_
   rw [show ((0:Int) != 0)=false from rfl,cond_false]
   rw [inB_iff.2 (show (0:Int)<=0/\(0:Int) < ((0+1+1+1+1:Nat):Int) by omega),inB_iff.2 (show (0:Int)<=1/\(1:Int) < ((0+1+1+1+1:Nat):Int) by omega),inB_iff.2 (show (0:Int)<=2/\(2:Int) < ((0+1+1+1+1:Nat):Int) by omega),inB_iff.2 (show (0:Int)<=3/\(3:Int) < ((0+1+1+1+1:Nat):Int) by omega)]
   simp only [cond_true,show Int.toNat 0=0 from rfl,show Int.toNat 1=1 from rfl,show Int.toNat 2=2 from rfl,show Int.toNat 3=3 from rfl,List.getD_cons_zero,List.getD_cons_succ]
   rw [w1,w2,w3,w4,key,Option.bind_some]
   rfl
 · have h0:¬x / 2 ^ 24=0:=by
    intro q
    rw [Nat.div_eq_zero_iff] at q
    omega
   rw [if_neg h0] at h1 h2
   rw [h1,h2,decide_eq_false (show ¬(x:Int) < 16777216 by omega)]
   rfl
theorem goodR_short {l:List Int} (h:l.length<=1):P.goodR l=true/\P.decR l=[]/\P.wideR l=true:=by
 match l,h with
 | [],_=>exact ⟨rfl,rfl,rfl⟩
 | [x],_=>exact ⟨rfl,rfl,rfl⟩
theorem drop_two {l:List Int} {i:Nat} (h:i+1 < l.length):l.drop i=l.getD i 0 :: l.getD (i+1) 0 :: l.drop (i+2):=by
 rw [drop_at' (get_getD (show i < l.length by omega)),drop_at' (get_getD (show i+1 < l.length by omega))]
def P.wOk (l:List Int):Prop:=(0<=l.getD 0 0/\l.getD 0 0 < 18446744073709551616)/\∀ k,2*k+1 < l.length->0<=l.getD (2*k+1) 0/\l.getD (2*k+1) 0 < 18446744073709551616
theorem P.wOk_all {l:List Int} (hw:∀ x∈l,0<=x/\x < 18446744073709551616):P.wOk l:=by
 refine ⟨?_,fun k hk=>hw _ (List.mem_of_getElem? (get_getD hk))⟩
 cases l with
 | nil=>exact ⟨by simp,by simp⟩
 | cons x r=>exact hw x (by simp)
theorem P.encR_at:∀ (l:List InD),l.all P.insB=true->∀ k,2*k < (P.encR l).length->0<=(P.encR l).getD (2*k) 0/\(P.encR l).getD (2*k) 0 < 18446744073709551616
 | [],_,k,hk=>by simp [P.encR] at hk
 | x :: r,h,k,hk=>by
  simp only [List.all_cons,Bool.and_eq_true] at h
  cases k with
  | zero=>have:=P.encW_range h.1;rw [P.encR];simp only [Nat.mul_zero,List.getD_cons_zero];omega
  | succ k =>
   rw [P.encR] at hk ⊢
   rw [show 2*(k+1)=2*k+1+1 from by omega,List.getD_cons_succ,List.getD_cons_succ]
   exact P.encR_at r h.2 k (by simp only [List.length_cons] at hk;omega)
theorem P.wOk_enc {a:Int} {l:List InD} (h:P.formB a l=true):P.wOk (a :: P.encR l):=by
 have:=P.formB_args h
 refine ⟨by simp only [List.getD_cons_zero];omega,fun k hk=>?_⟩
 rw [List.getD_cons_succ]
 exact P.encR_at l (P.formB_all h) k (by simp only [List.length_cons] at hk;omega)
theorem P.decB_enc {a:Int} {l:List InD} (h:P.formB a l=true):P.decB (a :: P.encR l)=true:=by
 have h1:=P.formB_args h
 have h2:=P.formB_len h
 unfold P.decB
 rw [List.length_cons,P.encR_len,decide_eq_true (by omega),decide_eq_true (by omega),List.getD_cons_zero,decide_eq_true h1.2,List.drop_succ_cons,List.drop_zero,(P.decR_encR (P.formB_all h)).2];rfl
abbrev DY:=(Int × Unit) × (List InD × Unit) × (Int × List InD × Unit) × (Int × Unit × Unit) × Unit
theorem X_ncode_Decode (l:List Int) (hl:l.length<=1000000000) (hw:P.wOk l) :
 F_ncode_Decode (l,())=some (((cond (P.decB l) (l.getD 0 0) 0,cond (P.decB l) (P.decR (l.drop 1)) [],()),cond (P.decB l) 0 21,()),()):=by
 rw [nf_ncode_Decode];dsimp only
 change cond true _ _=_
 rw [cond_true]
 have e0:((l.length:Int)).tmod 2=((l.length % 2:Nat):Int):=by rw [Int.tmod_eq_emod_of_nonneg (by omega)];omega
 rw [e0,show Int.toNat 0=0 from rfl]
 unfold P.decB
 by_cases h2:l.length % 2=1
 case neg =>
  rw [show (((l.length % 2:Nat):Int) == 0)=true from beq_iff_eq.2 (by omega),decide_eq_false h2];rfl
 rw [show (((l.length % 2:Nat):Int) == 0)=false from beq_eq_false_iff_ne.2 (by omega),decide_eq_true h2]
 by_cases h3:l.length<=513
 case neg=>rw [decide_eq_true (show (l.length:Int) > 513 by omega),decide_eq_false h3];rfl
 rw [decide_eq_false (show ¬(l.length:Int) > 513 by omega),decide_eq_true h3,inB_iff.2 ⟨by omega,by omega⟩]
 by_cases h4:l.getD 0 0<=3
 case neg=>rw [decide_eq_true (show l.getD 0 0 > 3 by omega),decide_eq_false h4];rfl
 rw [decide_eq_false (show ¬l.getD 0 0 > 3 by omega),decide_eq_true h4]
 simp only [cond_true,cond_false,Bool.true_and]
 have ha:=hw.1
 rw [W_id (n:=l.getD 0 0) (by omega)]
 generalize hA:l.getD 0 0=A at ha h4 ⊢
 refine tot_is (tot_bind (P:=fun (r:DY ⊕ DY)=>match r with
  | .inl y=>P.goodR (l.drop 1)=false/\y.1.1=21/\y.2.2.1.1=0/\y.2.2.1.2.1=[]
  | .inr y=>P.goodR (l.drop 1)=true/\y.2.1.1=P.decR (l.drop 1)/\y.2.2.2.1.1=A)
  (tot_loop (fun x=>∃ k:Nat,x.1.2.1=((2*k+1:Nat):Int)/\2*k+1<=l.length/\x.1.1=0/\P.goodR (l.drop (2*k+1))=P.goodR (l.drop 1)/\x.2.1.1 ++ P.decR (l.drop (2*k+1))=P.decR (l.drop 1)/\x.2.1.1.length=k/\x.2.2.2.1.1=A) (fun x=>((l.length:Int) - x.1.2.1).toNat) ⟨0,rfl,by omega,rfl,rfl,rfl,rfl,rfl⟩ ?_) ?_)
 · rintro ⟨⟨(e0:Int),(i:Int),_⟩,⟨(xs:List InD),_⟩,⟨(z1:Int),(z2:List InD),_⟩,⟨(a2:Int),_⟩,_⟩ ⟨k,e,hk,eE,hg,hd,hL,hA2⟩
   dsimp only at e eE hg hd hL hA2 ⊢
   rw [e,eE,hA2]
   refine tot_cond (fun h1=>?_) fun h1=>tot_some ?_
   · simp only [decide_eq_true_eq] at h1
     have hk':2*k+1+1 < l.length:=by omega
     have w1:W (((2*k+1:Nat):Int)+1)=((2*k+1+1:Nat):Int):=by rw [W_id (by omega)];omega
     have w2:W (((2*k+1:Nat):Int)+2)=((2*(k+1)+1:Nat):Int):=by rw [W_id (by omega)];omega
     rw [w1,w2]
     refine tot_need (inB_iff.2 ⟨by omega,by omega⟩) (tot_need (inB_iff.2 ⟨by omega,by omega⟩) ?_)
     rw [Int.toNat_natCast,Int.toNat_natCast]
     have hw1:=hw.2 k (by omega)
     have hdr:=drop_two hk'
     rw [hdr] at hg hd
     rw [X_ncode_instruction _ _ hw1,Option.bind_some]
     dsimp only
     rw [P.goodR] at hg
     rw [P.decR] at hd
     generalize l.getD (2*k+1) 0=w at hw1 hg hd ⊢
     generalize l.getD (2*k+1+1) 0=kk at hg hd ⊢
     cases hok:(decide (w < 16777216) && P.insB (P.insOf w kk))
     · rw [hok] at hg
       exact tot_some ⟨hg.symm,rfl,rfl,rfl⟩
     · rw [hok] at hg
       simp only [Bool.and_eq_true,decide_eq_true_eq] at hok
       rw [decide_eq_true hok.1]
       simp only [cond_true,Bool.not_true,cond_false]
       refine tot_need (small_iff.2 ?_) (tot_some ⟨⟨k+1,rfl,by omega,rfl,?_,?_,?_,rfl⟩,?_⟩)
       · simp only [List.length_cons,List.length_nil];omega
       · rw [<-hg,Bool.true_and,show 2*(k+1)+1=2*k+1+2 from by omega]
       · rw [<-hd,show 2*(k+1)+1=2*k+1+2 from by omega]
         dsimp only
         rw [List.append_assoc];rfl
       · dsimp only;rw [List.length_append,hL];rfl
       · dsimp only;omega
   · simp only [decide_eq_false_iff_not] at h1
     have hs:=goodR_short (l:=l.drop (2*k+1)) (by rw [List.length_drop];omega)
     rw [hs.1] at hg
     rw [hs.2.1,List.append_nil] at hd
     exact ⟨hg.symm,hd,rfl⟩
 · rintro (⟨⟨(y1:Int),_⟩,⟨(y2:List InD),_⟩,⟨(y3:Int),(y4:List InD),_⟩,⟨(y5:Int),_⟩,_⟩ | ⟨⟨(y1:Int),_⟩,⟨(y2:List InD),_⟩,⟨(y3:Int),(y4:List InD),_⟩,⟨(y5:Int),_⟩,_⟩) hr
   · obtain ⟨g1,g2,g3,g4⟩:=hr
     dsimp only at g2 g3 g4
     rw [g1,g2,g3,g4];exact tot_some rfl
   · obtain ⟨g1,g2,g3⟩:=hr
     dsimp only at g2 g3
     rw [g1,g2,g3];exact tot_some rfl
end Go.VI
namespace Go.VI
open Go
theorem upow8:(2:Int) ^ min (Int.toNat 8) IntKind.u64.bits=256:=by decide
theorem upow12:(2:Int) ^ min (Int.toNat 12) IntKind.u64.bits=4096:=by decide
theorem upow20:(2:Int) ^ min (Int.toNat 20) IntKind.u64.bits=1048576:=by decide
theorem and255 (x:Nat) (hx:x < 18446744073709551616):bits2 IntKind.u64 (fun (x1 x2:BitVec IntKind.u64.bits)=>x1 &&& x2) (x:Int) 255=((x % 256:Nat):Int):=by
 have:=bits_and x 255 hx (by omega)
 rw [show (255:Nat)=2 ^ 8 - 1 from rfl,Nat.and_two_pow_sub_one_eq_mod] at this
 exact this
theorem and15 (x:Nat) (hx:x < 18446744073709551616):bits2 IntKind.u64 (fun (x1 x2:BitVec IntKind.u64.bits)=>x1 &&& x2) (x:Int) 15=((x % 16:Nat):Int):=by
 have:=bits_and x 15 hx (by omega)
 rw [show (15:Nat)=2 ^ 4 - 1 from rfl,Nat.and_two_pow_sub_one_eq_mod] at this
 exact this
theorem fdiv_nat (x n:Nat):((x:Int)).fdiv (n:Int)=((x / n:Nat):Int):=by
 rw [Int.fdiv_eq_ediv_of_nonneg _ (by omega)];rfl
theorem X_r22_Decode (l:List Int) (hl:l.length<=1000000000) (hw:P.wOk l) :
 F_r22_Decode (l,())=some (((cond (P.decB l) (l.getD 0 0) 0,cond (P.decB l) (P.decR (l.drop 1)) [],()),cond (P.decB l) 0 21,()),()):=by
 rw [nf_r22_Decode];dsimp only
 change cond true _ _=_
 rw [cond_true]
 have e0:((l.length:Int)).tmod 2=((l.length % 2:Nat):Int):=by rw [Int.tmod_eq_emod_of_nonneg (by omega)];omega
 rw [e0,show Int.toNat 0=0 from rfl]
 unfold P.decB
 by_cases h2:l.length % 2=1
 case neg =>
  rw [show (((l.length % 2:Nat):Int) != 1)=true from bne_iff_ne.2 (by omega),decide_eq_false h2];rfl
 rw [show (((l.length % 2:Nat):Int) != 1)=false from by rw [h2];rfl,decide_eq_true h2]
 rw [inB_iff.2 (show (0:Int)<=0/\(0:Int) < (l.length:Int) by omega)]
 by_cases h4:l.getD 0 0<=3
 case neg=>rw [decide_eq_true (show l.getD 0 0 > 3 by omega),decide_eq_false h4];simp only [Bool.false_and,Bool.and_false];rfl
 by_cases h3:l.length<=513
 case neg=>rw [decide_eq_false (show ¬l.getD 0 0 > 3 by omega),decide_eq_true (show (l.length:Int) > 513 by omega),decide_eq_false h3];rfl
 rw [decide_eq_false (show ¬(l.length:Int) > 513 by omega),decide_eq_true h3]
 rw [decide_eq_false (show ¬l.getD 0 0 > 3 by omega),decide_eq_true h4]
 simp only [cond_true,cond_false,Bool.true_and]
 have ha:=hw.1
 rw [W_id (n:=l.getD 0 0) (by omega)]
 generalize hA:l.getD 0 0=A at ha h4 ⊢
 have hG:=P.goodR_wide ((l.length - 1) / 2) (l.drop 1) (by rw [List.length_drop];omega)
 have hLn:=P.decR_len ((l.length - 1) / 2) (l.drop 1) (by rw [List.length_drop];omega)
 rw [hG]
 refine tot_is (tot_bind (P:=fun (r:DY ⊕ DY)=>match r with
  | .inl y=>P.wideR (l.drop 1)=false/\y.1.1=21/\y.2.2.1.1=0/\y.2.2.1.2.1=[]
  | .inr y=>P.wideR (l.drop 1)=true/\y.2.1.1=P.decR (l.drop 1)/\y.2.2.2.1.1=A)
  (tot_loop (fun x=>∃ k:Nat,x.1.2.1=((2*k+1:Nat):Int)/\2*k+1<=l.length/\x.1.1=0/\P.wideR (l.drop (2*k+1))=P.wideR (l.drop 1)/\x.2.1.1 ++ P.decR (l.drop (2*k+1))=P.decR (l.drop 1)/\x.2.1.1.length=k/\x.2.2.2.1.1=A) (fun x=>((l.length:Int) - x.1.2.1).toNat) ⟨0,rfl,by omega,rfl,rfl,rfl,rfl,rfl⟩ ?_) ?_)
 · rintro ⟨⟨(e0:Int),(i:Int),_⟩,⟨(xs:List InD),_⟩,⟨(z1:Int),(z2:List InD),_⟩,⟨(a2:Int),_⟩,_⟩ ⟨k,e,hk,eE,hg,hd,hL,hA2⟩
   dsimp only at e eE hg hd hL hA2 ⊢
   rw [e,eE,hA2]
   refine tot_cond (fun h1=>?_) fun h1=>tot_some ?_
   · simp only [decide_eq_true_eq] at h1
     have hk':2*k+1+1 < l.length:=by omega
     have w1:W (((2*k+1:Nat):Int)+1)=((2*k+1+1:Nat):Int):=by rw [W_id (by omega)];omega
     have w2:W (((2*k+1:Nat):Int)+2)=((2*(k+1)+1:Nat):Int):=by rw [W_id (by omega)];omega
     rw [w1,w2]
     refine tot_need (inB_iff.2 ⟨by omega,by omega⟩) ?_
     rw [Int.toNat_natCast,Int.toNat_natCast]
     have hw1:=hw.2 k (by omega)
     have hdr:=drop_two hk'
     rw [hdr] at hg hd
     rw [P.wideR] at hg
     rw [P.decR] at hd
     generalize l.getD (2*k+1) 0=w at hw1 hg hd ⊢
     generalize l.getD (2*k+1+1) 0=kk at hg hd ⊢
     refine tot_cond (fun h5=>?_) fun h5=>?_
     · simp only [decide_eq_true_eq] at h5
       rw [decide_eq_false (show ¬w < 16777216 by omega)] at hg
       exact tot_some ⟨hg.symm,rfl,rfl,rfl⟩
     · simp only [decide_eq_false_iff_not] at h5
       rw [decide_eq_true (show w < 16777216 by omega),Bool.true_and] at hg
       refine tot_need rfl (tot_need rfl (tot_need rfl (tot_need (inB_iff.2 ⟨by omega,by omega⟩) ?_)))
       rw [upow8,upow12,upow20]
       obtain ⟨v,rfl⟩:∃ v:Nat,w=v:=⟨w.toNat,by omega⟩
       rw [show (256:Int)=((256:Nat):Int) from rfl,show (4096:Int)=((4096:Nat):Int) from rfl,show (1048576:Int)=((1048576:Nat):Int) from rfl,fdiv_nat,fdiv_nat,fdiv_nat,and255 _ (by omega),and15 _ (by omega),and255 _ (by omega)]
       rw [W_id (n:=((v % 256:Nat):Int)) (by omega),W_id (n:=((v / 256 % 16:Nat):Int)) (by omega),W_id (n:=((v / 4096 % 256:Nat):Int)) (by omega),W_id (n:=((v / 1048576:Nat):Int)) (by omega)]
       have hx:(((v % 256:Nat):Int),((v / 256 % 16:Nat):Int),((v / 4096 % 256:Nat):Int),((v / 1048576:Nat):Int),kk,())=P.insOf v kk:=by
        unfold P.insOf
        rw [show (v:Int) % 256=((v % 256:Nat):Int) by omega,show (v:Int) / 256 % 16=((v / 256 % 16:Nat):Int) by omega,show (v:Int) / 4096 % 256=((v / 4096 % 256:Nat):Int) by omega,show (v:Int) / 1048576 % 16=((v / 1048576:Nat):Int) by omega]
       rw [hx]
       refine tot_need (small_iff.2 ?_) (tot_some ⟨⟨k+1,rfl,by omega,rfl,?_,?_,?_,rfl⟩,?_⟩)
       · simp only [List.length_cons,List.length_nil];omega
       · rw [<-hg,show 2*(k+1)+1=2*k+1+2 from by omega]
       · rw [<-hd,show 2*(k+1)+1=2*k+1+2 from by omega]
         dsimp only
         rw [List.append_assoc];rfl
       · dsimp only;rw [List.length_append,hL];rfl
       · dsimp only;omega
   · simp only [decide_eq_false_iff_not] at h1
     have hs:=goodR_short (l:=l.drop (2*k+1)) (by rw [List.length_drop];omega)
     rw [hs.2.2] at hg
     rw [hs.2.1,List.append_nil] at hd
     exact ⟨hg.symm,hd,rfl⟩
 · intro r hr
   refine tot_sum (fun y hy=>?_) fun y hy=>?_
   · subst hy
     obtain ⟨⟨(y1:Int),_⟩,⟨(y2:List InD),_⟩,⟨(y3:Int),(y4:List InD),_⟩,⟨(y5:Int),_⟩,_⟩:=y
     obtain ⟨g1,g2,g3,g4⟩:=hr
     dsimp only at g2 g3 g4 ⊢
     rw [g1,g2,g3,g4];exact tot_some rfl
   · subst hy
     obtain ⟨⟨(y1:Int),_⟩,⟨(y2:List InD),_⟩,⟨(y3:Int),(y4:List InD),_⟩,⟨(y5:Int),_⟩,_⟩:=y
     obtain ⟨g1,g2,g3⟩:=hr
     dsimp only at g2 g3 ⊢
     rw [g1,g2,g3,X_r22_Formed _ _ (by omega),Option.bind_some]
     have:P.formB A (P.decR (l.drop 1))=(P.decR (l.drop 1)).all P.insB:=by
      unfold P.formB
      rw [decide_eq_true (show 0<=A/\A<=3 by omega),decide_eq_true (show (P.decR (l.drop 1)).length<=256 by omega)];rfl
     rw [this]
     cases (P.decR (l.drop 1)).all P.insB <;> exact tot_some rfl
end Go.VI
namespace Go.VI
open Go
namespace P
def idP (x:InD):Prop:=1<=x.1/\x.1<=17/\0<=x.2.1/\x.2.1<=7/\0<=x.2.2.1/\x.2.2.1<=255/\0<=x.2.2.2.1/\x.2.2.2.1<=7/\(x.2.2.1<=7\/¬(2<=x.1/\x.1<=8)/\x.1≠11/\x.1≠12)/\(x.1≠13\/1<=x.2.2.1/\x.2.2.1<=20)/\(x.1≠14\/x.2.2.1 < 3)
def nokP (n:Int) (x:InD):Prop:=idP x/\(x.1≠9/\x.1≠10\/x.2.2.2.2.1<=n)/\(x.1≠13\/x.2.2.2.1+argN x.2.2.1<=8)/\(x.1≠14\/x.2.2.2.1+x.2.2.1<=8)
theorem nokP_ins {n:Int} {x:InD} (h:nokP n x):insB x=true:=by
 obtain ⟨h,-⟩:=h
 unfold idP at h
 exact insB_iff.2 (by omega)
theorem nokP_fit {n:Int} {x:InD} (h:nokP n x):fitB n x=true:=by
 obtain ⟨h,h1,h2,h3⟩:=h
 unfold idP at h
 unfold fitB takesV
 by_cases c1:2<=x.1/\x.1<=8\/x.1=11\/x.1=12
 · rw [decide_eq_true c1];exact decide_eq_true (by omega)
 rw [decide_eq_false c1]
 by_cases c2:x.1=9\/x.1=10
 · rw [decide_eq_true c2];exact decide_eq_true (by omega)
 rw [decide_eq_false c2]
 by_cases c3:x.1=13
 · rw [decide_eq_true c3];exact decide_eq_true (by omega)
 rw [decide_eq_false c3];rfl
theorem nokP_call {n:Int} {x:InD} (h:nokP n x):callB [0,1,2] x=true:=by
 obtain ⟨h,h1,h2,h3⟩:=h
 unfold idP at h
 unfold callB
 by_cases c1:x.1=13
 · rw [decide_eq_true c1];exact decide_eq_true (by omega)
 rw [decide_eq_false c1]
 by_cases c2:x.1=14
 · rw [decide_eq_true c2]
   refine decide_eq_true ?_
   have hb:x.2.2.1=0\/x.2.2.1=1\/x.2.2.1=2:=by omega
   simp only [List.length_cons,List.length_nil]
   rcases hb with e | e | e <;> rw [e] at h3 ⊢ <;> refine ⟨by omega,?_⟩
   · show (0:Int)<=_;omega
   · show (1:Int)<=_;omega
   · show (2:Int)<=_;omega
 rw [decide_eq_false c2];rfl
end P
theorem X_made_nat (a b c d e:Int):F_made_nat (a,b,c,d,e,())=some (((a,b,c,d,e,()),()),()):=by rw [nf_made_nat]
theorem X_made_idiom (l:List Int) (a at':Int) (h0:0<=a) (h1:a<=100000000) :
 Tot (fun (r:(List InD × Unit) × (List Int × Int × Unit) × Unit)=>r.1.1.length<=9/\(∀ x∈r.1.1,P.idP x)/\r.2.1.1=l/\a<=r.2.1.2.1/\r.2.1.2.1<=a+9) (F_made_idiom ((l,a,()),[0,1,2],at',())):=by
 rw [nf_made_idiom];dsimp only
 refine tot_bind (T_made_Tape_Next l a 4 h0 (by omega) (by omega)) ?_
 rintro ⟨⟨(v0:Int),_⟩,⟨(l1:List Int),(a1:Int),_⟩,_⟩ ⟨lo1,hi1,-,el1,b01,b11,-⟩
 dsimp only at lo1 hi1 el1 b01 b11 ⊢
 subst el1
 refine tot_bind (T_made_Tape_Next _ a1 3 (by omega) (by omega) (by omega)) ?_
 rintro ⟨⟨(v1:Int),_⟩,⟨(l2:List Int),(a2:Int),_⟩,_⟩ ⟨lo2,hi2,-,el2,b02,b12,-⟩
 dsimp only at lo2 hi2 el2 b02 b12 ⊢
 subst el2
 refine tot_bind (T_made_Tape_Next _ a2 4 (by omega) (by omega) (by omega)) ?_
 rintro ⟨⟨(v2:Int),_⟩,⟨(l3:List Int),(a3:Int),_⟩,_⟩ ⟨lo3,hi3,-,el3,b03,b13,-⟩
 dsimp only at lo3 hi3 el3 b03 b13 ⊢
 subst el3
 refine tot_bind (T_made_Tape_Next _ a3 11 (by omega) (by omega) (by omega)) ?_
 rintro ⟨⟨(v3:Int),_⟩,⟨(l4:List Int),(a4:Int),_⟩,_⟩ ⟨lo4,hi4,-,el4,b04,b14,-⟩
 dsimp only at lo4 hi4 el4 b04 b14 ⊢
 subst el4
 have hi1:=hi1 (by omega)
 have hi2:=hi2 (by omega)
 have hi3:=hi3 (by omega)
 rw [W_id (n:=4+v1) (by omega)]
 refine tot_cond (fun _=>?_) fun _=>?_
 · repeat rw [X_made_nat,Option.bind_some]
   repeat rw [X_made_nat,Option.bind_some]
   refine tot_some ⟨by simp,?_,rfl,by dsimp only;omega,by dsimp only;omega⟩
   simp only [List.forall_mem_cons,List.not_mem_nil,false_implies,implies_true,and_true]
   unfold P.idP;dsimp only;omega
 refine tot_cond (fun _=>?_) fun _=>?_
 · repeat rw [X_made_nat,Option.bind_some]
   refine tot_bind (T_made_Tape_Next _ a4 99 (by omega) (by omega) (by omega)) ?_
   rintro ⟨⟨(v5:Int),_⟩,⟨(l5:List Int),(a5:Int),_⟩,_⟩ ⟨lo5,hi5,-,el5,b05,b15,-⟩
   dsimp only at lo5 hi5 el5 b05 b15 ⊢
   subst el5
   repeat rw [X_made_nat,Option.bind_some]
   refine tot_some ⟨by simp,?_,rfl,by dsimp only;omega,by dsimp only;omega⟩
   simp only [List.forall_mem_cons,List.not_mem_nil,false_implies,implies_true,and_true]
   unfold P.idP;dsimp only;omega
 refine tot_cond (fun _=>?_) fun _=>?_
 · refine tot_bind (T_made_Tape_Next _ a4 20 (by omega) (by omega) (by omega)) ?_
   rintro ⟨⟨(v5:Int),_⟩,⟨(l5:List Int),(a5:Int),_⟩,_⟩ ⟨lo5,hi5,-,el5,b05,b15,-⟩
   dsimp only at lo5 hi5 el5 b05 b15 ⊢
   subst el5
   refine tot_bind (T_made_Tape_Next _ a5 6 (by omega) (by omega) (by omega)) ?_
   rintro ⟨⟨(v6:Int),_⟩,⟨(l6:List Int),(a6:Int),_⟩,_⟩ ⟨lo6,hi6,-,el6,b06,b16,-⟩
   dsimp only at lo6 hi6 el6 b06 b16 ⊢
   subst el6
   have hi5:=hi5 (by omega)
   have hi6:=hi6 (by omega)
   rw [W_id (n:=1+v5) (by omega)]
   repeat rw [X_made_nat,Option.bind_some]
   refine tot_some ⟨by simp,?_,rfl,by dsimp only;omega,by dsimp only;omega⟩
   simp only [List.forall_mem_cons,List.not_mem_nil,false_implies,implies_true,and_true]
   unfold P.idP;dsimp only;omega
 refine tot_cond (fun _=>?_) fun _=>?_
 · repeat rw [X_made_nat,Option.bind_some]
   repeat rw [X_made_nat,Option.bind_some]
   refine tot_some ⟨by simp,?_,rfl,by dsimp only;omega,by dsimp only;omega⟩
   simp only [List.forall_mem_cons,List.not_mem_nil,false_implies,implies_true,and_true]
   unfold P.idP;dsimp only;omega
 refine tot_cond (fun _=>?_) fun _=>?_
 · refine tot_bind (T_made_Tape_Next _ a4 8 (by omega) (by omega) (by omega)) ?_
   rintro ⟨⟨(v5:Int),_⟩,⟨(l5:List Int),(a5:Int),_⟩,_⟩ ⟨lo5,hi5,-,el5,b05,b15,-⟩
   dsimp only at lo5 hi5 el5 b05 b15 ⊢
   subst el5
   refine tot_bind (T_made_Tape_Next _ a5 8 (by omega) (by omega) (by omega)) ?_
   rintro ⟨⟨(v6:Int),_⟩,⟨(l6:List Int),(a6:Int),_⟩,_⟩ ⟨lo6,hi6,-,el6,b06,b16,-⟩
   dsimp only at lo6 hi6 el6 b06 b16 ⊢
   subst el6
   refine tot_bind (T_made_Tape_Next _ a6 8 (by omega) (by omega) (by omega)) ?_
   rintro ⟨⟨(v7:Int),_⟩,⟨(l7:List Int),(a7:Int),_⟩,_⟩ ⟨lo7,hi7,-,el7,b07,b17,-⟩
   dsimp only at lo7 hi7 el7 b07 b17 ⊢
   subst el7
   refine tot_bind (T_made_Tape_Next _ a7 8 (by omega) (by omega) (by omega)) ?_
   rintro ⟨⟨(v8:Int),_⟩,⟨(l8:List Int),(a8:Int),_⟩,_⟩ ⟨lo8,hi8,-,el8,b08,b18,-⟩
   dsimp only at lo8 hi8 el8 b08 b18 ⊢
   subst el8
   have hi5:=hi5 (by omega)
   have hi6:=hi6 (by omega)
   have hi7:=hi7 (by omega)
   have hi8:=hi8 (by omega)
   rw [W_id (n:=1+v5) (by omega)]
   repeat rw [X_made_nat,Option.bind_some]
   refine tot_some ⟨by simp,?_,rfl,by dsimp only;omega,by dsimp only;omega⟩
   simp only [List.forall_mem_cons,List.not_mem_nil,false_implies,implies_true,and_true]
   unfold P.idP;dsimp only;omega
 refine tot_cond (fun _=>?_) fun _=>?_
 · refine tot_bind (T_made_Tape_Next _ a4 8 (by omega) (by omega) (by omega)) ?_
   rintro ⟨⟨(v5:Int),_⟩,⟨(l5:List Int),(a5:Int),_⟩,_⟩ ⟨lo5,hi5,-,el5,b05,b15,-⟩
   dsimp only at lo5 hi5 el5 b05 b15 ⊢
   subst el5
   refine tot_bind (T_made_Tape_Next _ a5 4 (by omega) (by omega) (by omega)) ?_
   rintro ⟨⟨(v6:Int),_⟩,⟨(l6:List Int),(a6:Int),_⟩,_⟩ ⟨lo6,hi6,-,el6,b06,b16,-⟩
   dsimp only at lo6 hi6 el6 b06 b16 ⊢
   subst el6
   have hi5:=hi5 (by omega)
   repeat rw [X_made_nat,Option.bind_some]
   refine tot_some ⟨by simp,?_,rfl,by dsimp only;omega,by dsimp only;omega⟩
   simp only [List.forall_mem_cons,List.not_mem_nil,false_implies,implies_true,and_true]
   unfold P.idP;dsimp only;omega
 refine tot_cond (fun _=>?_) fun _=>?_
 · refine tot_bind (T_made_Tape_Next _ a4 3 (by omega) (by omega) (by omega)) ?_
   rintro ⟨⟨(v5:Int),_⟩,⟨(l5:List Int),(a5:Int),_⟩,_⟩ ⟨lo5,hi5,-,el5,b05,b15,-⟩
   dsimp only at lo5 hi5 el5 b05 b15 ⊢
   subst el5
   have hi5:=hi5 (by omega)
   refine tot_need (inB_iff.2 ⟨by omega,by simp only [List.length_cons,List.length_nil];omega⟩) ?_
   have hg:([0,1,2]:List Int).getD v5.toNat 0=v5:=by
    have:v5=0\/v5=1\/v5=2:=by omega
    rcases this with rfl | rfl | rfl <;> rfl
   rw [hg,W_id (n:=9 - v5) (by omega)]
   refine tot_bind (T_made_Tape_Next _ a5 (9 - v5) (by omega) (by omega) (by omega)) ?_
   rintro ⟨⟨(v6:Int),_⟩,⟨(l6:List Int),(a6:Int),_⟩,_⟩ ⟨lo6,hi6,-,el6,b06,b16,-⟩
   dsimp only at lo6 hi6 el6 b06 b16 ⊢
   subst el6
   refine tot_need rfl ?_
   have ht:v6.tmod 8=v6 % 8:=Int.tmod_eq_emod_of_nonneg (by omega)
   rw [ht]
   repeat rw [X_made_nat,Option.bind_some]
   refine tot_some ⟨by simp,?_,rfl,by dsimp only;omega,by dsimp only;omega⟩
   simp only [List.forall_mem_cons,List.not_mem_nil,false_implies,implies_true,and_true]
   unfold P.idP;dsimp only;omega
 refine tot_cond (fun _=>?_) fun _=>?_
 · repeat rw [X_made_nat,Option.bind_some]
   refine tot_some ⟨by simp,?_,rfl,by dsimp only;omega,by dsimp only;omega⟩
   simp only [List.forall_mem_cons,List.not_mem_nil,false_implies,implies_true,and_true]
   unfold P.idP;dsimp only;omega
 · repeat rw [X_made_nat,Option.bind_some]
   refine tot_some ⟨by simp,?_,rfl,by dsimp only;omega,by dsimp only;omega⟩
   simp only [List.forall_mem_cons,List.not_mem_nil,false_implies,implies_true,and_true]
   unfold P.idP;dsimp only;omega
end Go.VI
namespace Go.VI
open Go
theorem getD_set {L:List InD} {k:Nat} (v:InD) (hk:k < L.length) (j:Nat):(L.set k v).getD j In0=if j=k then v else L.getD j In0:=by
 rw [List.getD_eq_getElem?_getD,List.getElem?_set,List.getD_eq_getElem?_getD]
 by_cases h:k=j
 · subst h;rw [if_pos rfl,if_pos hk,if_pos rfl];rfl
 · rw [if_neg h,if_neg (Ne.symm h)]
theorem all_of_getD {L:List InD} {p:InD->Prop} (h:∀ j,j < L.length->p (L.getD j In0)):∀ x∈L,p x:=by
 intro x hx
 obtain ⟨j,hj,rfl⟩:=List.getElem_of_mem hx
 have:=h j hj
 rwa [List.getD_eq_getElem?_getD,List.getElem?_eq_getElem hj] at this
theorem getD_of_all {L:List InD} {p:InD->Prop} (h:∀ x∈L,p x) {j:Nat} (hj:j < L.length):p (L.getD j In0):=by
 rw [List.getD_eq_getElem?_getD,List.getElem?_eq_getElem hj]
 exact h _ (List.getElem_mem hj)
abbrev NX:=(Int × Unit) × Unit × List InD × Unit
theorem X_made_Native (l:List Int) (a args:Int) (h0:0<=a) (h1:a<=10000) :
 Tot (fun (r:((Int × List InD × Unit) × Unit) × (List Int × Int × Unit) × Unit)=>r.1.1.1=args/\r.1.1.2.1.length<=64/\(∀ x∈r.1.1.2.1,P.nokP r.1.1.2.1.length x)) (F_made_Tape_Native ((l,a,()),args,[0,1,2],())):=by
 rw [nf_made_Tape_Native];dsimp only
 refine tot_bind (T_made_Tape_Next l a 7 h0 (by omega) (by omega)) ?_
 rintro ⟨⟨(v0:Int),_⟩,⟨(l1:List Int),(a1:Int),_⟩,_⟩ ⟨lo1,hi1,-,el1,b01,b11,-⟩
 dsimp only at lo1 hi1 el1 b01 b11 ⊢
 subst el1
 have hi1:=hi1 (by omega)
 rw [W_id (n:=1+v0) (by omega)]
 refine tot_bind (P:=fun (r:Unit × (List InD × Unit) × (List Int × Int × Unit) × (Int × Unit × Unit) × Unit)=>r.2.1.1.length<=63/\(∀ x∈r.2.1.1,P.idP x)/\0<=r.2.2.1.2.1/\r.2.2.1.2.1<=20000/\r.2.2.2.1.1=args)
  (tot_loop (fun x=>0<=x.1.1/\x.1.1<=7/\(x.2.1.1.length:Int)+9*x.1.1<=63/\(∀ y∈x.2.1.1,P.idP y)/\0<=x.2.2.1.2.1/\x.2.2.1.2.1+9*x.1.1<=10100/\x.2.2.2.1.1=args) (fun x=>x.1.1.toNat) ⟨by dsimp only;omega,by dsimp only;omega,by simp only [List.length_nil];omega,by simp,by dsimp only;omega,by dsimp only;omega,rfl⟩ ?_) ?_
 · rintro ⟨⟨(n:Int),_⟩,⟨(xs:List InD),_⟩,⟨(lt:List Int),(at':Int),_⟩,⟨(ar:Int),_⟩,_⟩ ⟨n0,n7,hL,hP,t0,t1,ha⟩
   dsimp only at n0 n7 hL hP t0 t1 ha ⊢
   refine tot_cond (fun h2=>?_) fun h2=>tot_some ?_
   · simp only [decide_eq_true_eq] at h2
     refine tot_bind (X_made_idiom lt at' (xs.length:Int) t0 (by omega)) ?_
     rintro ⟨⟨(ys:List InD),_⟩,⟨(l5:List Int),(a5:Int),_⟩,_⟩ ⟨g1,g2,g3,g4,g5⟩
     dsimp only at g1 g2 g3 g4 g5 ⊢
     refine tot_need (small_iff.2 (by omega)) (tot_some ⟨?_,?_⟩)
     · rw [W_id (n:=n - 1) (by omega)]
       refine ⟨by dsimp only;omega,by dsimp only;omega,by dsimp only;rw [List.length_append];omega,?_,by dsimp only;omega,by dsimp only;omega,ha⟩
       intro y hy
       rcases List.mem_append.1 hy with h | h
       · exact hP y h
       · exact g2 y h
     · dsimp only;rw [W_id (n:=n - 1) (by omega)];omega
   · simp only [decide_eq_false_iff_not] at h2
     exact ⟨by dsimp only;omega,hP,t0,by dsimp only;omega,ha⟩
 rintro ⟨_,⟨(xs:List InD),_⟩,⟨(lt:List Int),(at':Int),_⟩,⟨(ar:Int),_⟩,_⟩ ⟨hL,hP,t0,t1,ha⟩
 dsimp only at hL hP t0 t1 ha ⊢
 refine tot_bind (P:=fun (r:Unit × Unit × List InD × Unit)=>r.2.2.1.length=xs.length/\∀ x∈r.2.2.1,P.nokP xs.length x)
  (tot_loop (fun (x:NX)=>∃ k:Nat,x.1.1=(k:Int)/\k<=xs.length/\x.2.2.1.length=xs.length/\(∀ j,j < k->P.nokP xs.length (x.2.2.1.getD j In0))/\∀ j,k<=j->j < xs.length->P.idP (x.2.2.1.getD j In0)) (fun x=>((xs.length:Int) - x.1.1).toNat) ⟨0,rfl,by omega,rfl,fun j hj=>by omega,fun j _ hj=>getD_of_all hP hj⟩ ?_) ?_
 · rintro ⟨⟨(i:Int),_⟩,_,(L:List InD),_⟩ ⟨k,e,hk,eL,hj1,hj2⟩
   dsimp only at e eL hj1 hj2 ⊢
   rw [e]
   refine tot_cond (fun h2=>?_) fun h2=>tot_some ?_
   · simp only [decide_eq_true_eq] at h2
     have hkL:k < L.length:=by omega
     refine tot_need (inB_iff.2 ⟨by omega,by omega⟩) ?_
     rw [Int.toNat_natCast]
     have e1:∀ v,(L.set k v).getD k (0,0,0,0,0,())=v:=fun v=>(getD_set v hkL k).trans (if_pos rfl)
     have e2:∀ v w,(L.set k v).set k w=L.set k w:=fun v w=>List.set_set ..
     have e3:∀ v,(L.set k v).length=L.length:=fun v=>List.length_set ..
     have fin:∀ v,P.nokP xs.length v->Sum.elim (fun (x':NX)=>(∃ k:Nat,x'.1.1=(k:Int)/\k<=xs.length/\x'.2.2.1.length=xs.length/\(∀ j,j < k->P.nokP xs.length (x'.2.2.1.getD j In0))/\∀ j,k<=j->j < xs.length->P.idP (x'.2.2.1.getD j In0))/\((xs.length:Int) - x'.1.1).toNat < ((xs.length:Int) - (k:Int)).toNat) (fun (r:Unit × Unit × List InD × Unit)=>r.2.2.1.length=xs.length/\∀ x∈r.2.2.1,P.nokP xs.length x) (Sum.inl ((W ((k:Int)+1),()),(),L.set k v,())):=by
      intro v hv
      have w1:W ((k:Int)+1)=(k:Int)+1:=W_id (by omega)
      refine ⟨⟨k+1,by dsimp only;rw [w1];omega,by omega,by dsimp only;rw [List.length_set];exact eL,?_,?_⟩,by dsimp only;rw [w1];omega⟩
      · intro j hj
        dsimp only
        rw [getD_set v hkL]
        split
        · exact hv
        · exact hj1 j (by omega)
      · intro j hj hj'
        dsimp only
        rw [getD_set v hkL,if_neg (by omega)]
        exact hj2 j (by omega) hj'
     have fin0:P.nokP xs.length (L.getD k In0)->Sum.elim (fun (x':NX)=>(∃ k:Nat,x'.1.1=(k:Int)/\k<=xs.length/\x'.2.2.1.length=xs.length/\(∀ j,j < k->P.nokP xs.length (x'.2.2.1.getD j In0))/\∀ j,k<=j->j < xs.length->P.idP (x'.2.2.1.getD j In0))/\((xs.length:Int) - x'.1.1).toNat < ((xs.length:Int) - (k:Int)).toNat) (fun (r:Unit × Unit × List InD × Unit)=>r.2.2.1.length=xs.length/\∀ x∈r.2.2.1,P.nokP xs.length x) (Sum.inl ((W ((k:Int)+1),()),(),L,())):=by
      intro hv
      have w1:W ((k:Int)+1)=(k:Int)+1:=W_id (by omega)
      refine ⟨⟨k+1,by dsimp only;rw [w1];omega,by omega,eL,?_,?_⟩,by dsimp only;rw [w1];omega⟩
      · intro j hj
        by_cases hjk:j=k
        · subst hjk;exact hv
        · exact hj1 j (by omega)
      · intro j hj hj'
        exact hj2 j (by omega) hj'
     have hx:=hj2 k (Nat.le_refl _) (by omega)
     have eU:U (L.length:Int)=(xs.length:Int):=by rw [eL];exact U_id (by omega)
     rw [eU]
     change P.idP (L.getD k (0,0,0,0,0,())) at hx
     change P.nokP xs.length (L.getD k (0,0,0,0,0,()))->_ at fin0
     simp only [e1,e2]
     generalize L.getD k (0,0,0,0,0,())=x at hx fin0 ⊢
     obtain ⟨op,a',b,c,kk,_⟩:=x
     unfold P.idP at hx
     dsimp only at hx fin0 ⊢
     refine tot_cond (fun h3=>?_) fun h3=>?_
     · have h9:op=9\/op=10:=by
        cases h:op == 9
        · rw [h] at h3;exact .inr (beq_iff_eq.1 h3)
        · exact .inl (beq_iff_eq.1 h)
       have n13:(op == 13)=false:=beq_eq_false_iff_ne.2 (by omega)
       have n14:(op == 14)=false:=beq_eq_false_iff_ne.2 (by omega)
       simp only [n13,n14,cond_false,cond_true]
       refine tot_some (fin _ ⟨by unfold P.idP;dsimp only;omega,.inr ?_,.inl (by dsimp only;omega),.inl (by dsimp only;omega)⟩)
       dsimp only;split <;> omega
     · have h9:op≠9/\op≠10:=by
        cases h:op == 9
        · rw [h] at h3;exact ⟨beq_eq_false_iff_ne.1 h,beq_eq_false_iff_ne.1 h3⟩
        · rw [h] at h3;exact absurd h3 (by simp)
       have hi:P.idP (op,a',b,c,kk,()):=by unfold P.idP;dsimp only;omega
       have hi0:P.idP (op,a',b,0,kk,()):=by unfold P.idP;dsimp only;omega
       by_cases h13:op=13
       · subst h13
         have n14:((13:Int) == 14)=false:=rfl
         rw [show ((13:Int) == 13)=true from rfl,cond_true,X_r22_Args,Option.bind_some]
         have hA:=P.argN_range b
         dsimp only
         rw [n14,W_id (n:=c+P.argN b) (by omega)]
         simp only [cond_false]
         by_cases h8:c+P.argN b > 8
         · rw [decide_eq_true h8]
           exact tot_some (fin _ ⟨hi0,.inl ⟨by omega,by omega⟩,.inr (by dsimp only;omega),.inl (by dsimp only;omega)⟩)
         · rw [decide_eq_false h8]
           exact tot_some (fin0 ⟨hi,.inl ⟨by omega,by omega⟩,.inr (by dsimp only;omega),.inl (by dsimp only;omega)⟩)
       · rw [beq_eq_false_iff_ne.2 h13,cond_false]
         by_cases h14:op=14
         · subst h14
           have hb:b=0\/b=1\/b=2:=by omega
           rw [show ((14:Int) == 14)=true from rfl]
           simp only [cond_true]
           refine tot_need (inB_iff.2 ⟨by omega,by simp only [List.length_cons,List.length_nil];omega⟩) ?_
           have hg:([0,1,2]:List Int).getD b.toNat 0=b:=by rcases hb with rfl | rfl | rfl <;> rfl
           rw [hg,W_id (n:=c+b) (by omega)]
           by_cases h8:c+b > 8
           · rw [decide_eq_true h8]
             exact tot_some (fin _ ⟨hi0,.inl ⟨by omega,by omega⟩,.inl (by dsimp only;omega),.inr (by dsimp only;omega)⟩)
           · rw [decide_eq_false h8]
             exact tot_some (fin0 ⟨hi,.inl ⟨by omega,by omega⟩,.inl (by dsimp only;omega),.inr (by dsimp only;omega)⟩)
         · rw [beq_eq_false_iff_ne.2 h14]
           simp only [cond_true,cond_false]
           exact tot_some (fin0 ⟨hi,.inl ⟨by omega,by omega⟩,.inl (by dsimp only;omega),.inl (by dsimp only;omega)⟩)
   · simp only [decide_eq_false_iff_not] at h2
     exact ⟨eL,all_of_getD (L:=L) fun j (hj:j < L.length)=>hj1 j (by omega)⟩
 rintro ⟨_,_,(L:List InD),_⟩ ⟨eL,hL2⟩
 dsimp only at eL hL2 ⊢
 refine tot_bind (T_made_Tape_Next lt at' 4 t0 (by omega) (by omega)) ?_
 rintro ⟨⟨(v5:Int),_⟩,⟨(l5:List Int),(a5:Int),_⟩,_⟩ ⟨lo5,hi5,-,el5,b05,b15,-⟩
 dsimp only at lo5 hi5 el5 b05 b15 ⊢
 refine tot_cond (fun _=>?_) fun _=>tot_some ⟨ha,by dsimp only;omega,by dsimp only;rw [eL];exact hL2⟩
 refine tot_bind (T_made_Tape_Next l5 a5 8 (by omega) (by omega) (by omega)) ?_
 rintro ⟨⟨(v6:Int),_⟩,⟨(l6:List Int),(a6:Int),_⟩,_⟩ ⟨lo6,hi6,-,el6,b06,b16,-⟩
 dsimp only at lo6 hi6 el6 b06 b16 ⊢
 have hi6:=hi6 (by omega)
 rw [X_made_nat,Option.bind_some]
 dsimp only
 refine tot_need (small_iff.2 (by simp only [List.length_cons,List.length_nil];omega)) (tot_some ⟨ha,by dsimp only;rw [List.length_append];simp only [List.length_cons,List.length_nil];omega,?_⟩)
 dsimp only
 intro x hx
 have eN:((L ++ [((17:Int),v6,(0:Int),(0:Int),(0:Int),())]).length:Int)=xs.length+1:=by rw [List.length_append,eL];rfl
 rw [eN]
 rcases List.mem_append.1 hx with h | h
 · obtain ⟨q1,q2,q3,q4⟩:=hL2 x h
   exact ⟨q1,by omega,q3,q4⟩
 · rw [List.mem_singleton.1 h]
   exact ⟨by unfold P.idP;dsimp only;omega,.inl (by dsimp only;omega),.inl (by dsimp only;omega),.inl (by dsimp only;omega)⟩
theorem X_l22_made (l:List Int):Tot (fun (r:((Int × List InD × Unit) × Unit) × Unit)=>(0<=r.1.1.1/\r.1.1.1<=3)/\r.1.1.2.1.length<=64/\(∀ x∈r.1.1.2.1,P.nokP r.1.1.2.1.length x)) (F_l22_made (l,())):=by
 rw [nf_l22_made];dsimp only
 refine tot_bind (T_made_Tape_Next l 0 4 (by omega) (by omega) (by omega)) ?_
 rintro ⟨⟨(v5:Int),_⟩,⟨(l5:List Int),(a5:Int),_⟩,_⟩ ⟨lo5,hi5,-,el5,b05,b15,-⟩
 dsimp only at lo5 hi5 el5 b05 b15 ⊢
 have hi5:=hi5 (by omega)
 refine tot_bind (X_made_Native l5 a5 v5 (by omega) (by omega)) ?_
 rintro ⟨⟨⟨(ar:Int),(xs:List InD),_⟩,_⟩,_⟩ ⟨g1,g2,g3⟩
 dsimp only at g1 g2 g3 ⊢
 exact tot_some ⟨⟨by dsimp only;omega,by dsimp only;omega⟩,g2,g3⟩
theorem made_run {a:Int} {l:List InD} (h1:0<=a/\a<=3) (h2:l.length<=64) (h3:∀ x∈l,P.nokP l.length x):P.runB a l=true/\P.checkV a l [0,1,2]=0:=by
 have e1:l.all P.insB=true:=List.all_eq_true.2 fun x hx=>P.nokP_ins (h3 x hx)
 have e2:l.all (P.fitB l.length)=true:=List.all_eq_true.2 fun x hx=>P.nokP_fit (h3 x hx)
 have e3:l.all (P.callB [0,1,2])=true:=List.all_eq_true.2 fun x hx=>P.nokP_call (h3 x hx)
 have f:P.formB a l=true:=by unfold P.formB;rw [e1,decide_eq_true h1,decide_eq_true (show l.length<=256 by omega)];rfl
 have r:P.runB a l=true:=by unfold P.runB;rw [f,e2];rfl
 exact ⟨r,by unfold P.checkV;rw [r,e3];rfl⟩
theorem X_l22_bent (a:Int) (l:List InD) (odd:List Int) (hl:l.length<=1000):Tot (fun (r:((Int × List InD × Unit) × Unit) × Unit)=>r.1.1.2.1.length=l.length) (F_l22_bent ((a,l,()),odd,())):=by
 rw [nf_l22_bent];dsimp only
 refine tot_need (small_iff.2 (by omega)) ?_
 refine tot_cond (fun h=>tot_some rfl) fun h=>?_
 have h:=beq_eq_false_iff_ne.1 h
 refine tot_bind (T_made_Tape_Next odd 0 l.length (by omega) (by omega) (by omega)) ?_
 rintro ⟨⟨(v0:Int),_⟩,⟨(l1:List Int),(a1:Int),_⟩,_⟩ ⟨lo1,hi1,-,el1,b01,b11,-⟩
 dsimp only at lo1 hi1 el1 b01 b11 ⊢
 have hi1:=hi1 (by omega)
 refine tot_need (inB_iff.2 ⟨lo1,hi1⟩) ?_
 refine tot_bind (T_made_Tape_Next l1 a1 6 (by omega) (by omega) (by omega)) ?_
 rintro ⟨⟨(v1:Int),_⟩,⟨(l2:List Int),(a2:Int),_⟩,_⟩ ⟨lo2,hi2,-,el2,b02,b12,-⟩
 dsimp only at lo2 hi2 el2 b02 b12 ⊢
 refine tot_cond (fun _=>?_) fun _=>tot_cond (fun _=>?_) fun _=>tot_cond (fun _=>?_) fun _=>tot_cond (fun _=>?_) fun _=>tot_cond (fun _=>?_) fun _=>?_
 all_goals
  refine tot_bind (T_made_Tape_Next l2 a2 _ (by omega) (by omega) (by omega)) ?_
  rintro ⟨⟨(v2:Int),_⟩,⟨(l3:List Int),(a3:Int),_⟩,_⟩ -
  dsimp only
  refine tot_some ?_
  first | rfl | exact List.length_set ..
end Go.VI
namespace Go.VI
open Go
theorem law_key {o:Option ((Bool × Unit) × Unit)} (h:Tot (fun r=>r.1.1=true) o):o=some ((true,()),()):=by
 obtain ⟨⟨⟨(b:Bool),_⟩,_⟩,rfl,e⟩:=h
 have e:b=true:=e
 rw [e]
abbrev LX:=(Bool × Int × Unit) × Unit × Unit
abbrev LY:=(Bool × Unit) × Unit × Unit ⊕ (Bool × Unit) × Unit × Unit
theorem tot_each {n:Nat} {q0:Bool} {g:LX->Option (LX ⊕ LY)} (hn:n<=1000000000) (h:∀ (q:Bool) (k:Nat),k < n->Tot (fun r=>∃ q',r = .inl ((q',(k:Int)+1,()),(),())) (g ((q,(k:Int),()),(),()))) :
 Tot (fun (r:LY)=>∃ y,r = .inr y) (rl LX LY (fun x=>bif decide (x.1.2.1 < (n:Int)) then bif inB x.1.2.1 n then g x else none else some (Sum.inr (Sum.inr ((x.1.1,()),(),())))) ((q0,0,()),(),())):=by
 refine tot_loop (fun x=>∃ k:Nat,x.1.2.1=(k:Int)/\k<=n) (fun x=>((n:Int) - x.1.2.1).toNat) ⟨0,rfl,by omega⟩ ?_
 rintro ⟨⟨(q:Bool),(i:Int),_⟩,_⟩ ⟨k,e,hk⟩
 dsimp only at e ⊢
 subst e
 refine tot_cond (fun h1=>?_) fun h1=>tot_some ⟨_,rfl⟩
 simp only [decide_eq_true_eq] at h1
 refine tot_need (inB_iff.2 ⟨by omega,by omega⟩) ((h q k (by omega)).mono ?_)
 rintro _ ⟨q',rfl⟩
 exact ⟨⟨k+1,by dsimp only;omega,by omega⟩,by dsimp only;omega⟩
end Go.VI
namespace Go.VI
open Go
theorem X_l22_awake:F_l22_awake ()=some ((true,()),()):=by
 rw [nf_l22_awake];dsimp only
 rw [X_ncode_Encode 0 [(1,1,0,0,5,())] (by simp),Option.bind_some]
 rfl
theorem same_list (l:List Int) (h:l.length<=100000000):F_r01_Same (l,l,())=some ((true,()),()):=by
 obtain ⟨⟨⟨(b:Bool),_⟩,_⟩,h1,h2⟩:=T_r01_Same l h
 rw [h1]
 have h2:b=true:=h2
 rw [h2]
theorem getD2 {α:Type} (P:α->Prop) (x y d:α) (hx:P x) (hy:P y) (k:Nat) (hk:k < 2):P ([x,y].getD k d):=by
 have:k=0\/k=1:=by omega
 rcases this with rfl | rfl
 · exact hx
 · exact hy
theorem getD3 {α:Type} (P:α->Prop) (x y z d:α) (hx:P x) (hy:P y) (hz:P z) (k:Nat) (hk:k < 3):P ([x,y,z].getD k d):=by
 have:k=0\/k=1\/k=2:=by omega
 rcases this with rfl | rfl | rfl
 · exact hx
 · exact hy
 · exact hz
theorem L_NcodeArgs (op:Int):F_l22_NcodeArgs (op,())=some ((true,()),()):=by
 rw [nf_l22_NcodeArgs];dsimp only
 rw [X_l22_awake,Option.bind_some,X_ncode_Args,Option.bind_some,X_r22_Args,Option.bind_some]
 dsimp only
 rw [cond_true,beq_self_eq_true]
abbrev CdD:=Int × List InD × Unit
theorem enc_len (a:Int) (l:List InD):(cond (P.formB a l) (a :: P.encR l) []).length<=600:=by
 cases h:P.formB a l
 · simp
 · have:=P.formB_len h
   simp only [cond_true,List.length_cons,P.encR_len];omega
theorem L_NcodeWords (a:Int) (l:List InD) (ws tape:List Int) (hw:∀ x∈ws,0<=x/\x < 18446744073709551616):F_l22_NcodeWords ((a,l,()),ws,tape,())=some ((true,()),()):=by
 refine law_key ?_
 rw [nf_l22_NcodeWords];dsimp only
 refine tot_cond (fun _=>tot_some rfl) fun h=>?_
 have hl:l.length<=400/\ws.length<=900:=by
  by_cases h1:(l.length:Int) > 400
  · rw [decide_eq_true h1] at h;cases h
  · rw [decide_eq_false h1] at h
    have:=of_decide_eq_false h
    omega
 refine tot_bind (X_l22_made tape) ?_
 rintro ⟨⟨⟨(b:Int),(m:List InD),_⟩,_⟩,_⟩ ⟨hb,hm,-⟩
 dsimp only at hb hm ⊢
 refine tot_bind (tot_each (n:=2) (by omega) ?_) ?_
 · intro q k hk
   dsimp only
   rw [Int.toNat_natCast]
   have hx:=getD2 (fun x:CdD=>x.2.1.length<=400) (a,l,()) (b,m,()) (0,[],()) hl.1 (by dsimp only;omega) k hk
   generalize [(a,l,()),(b,m,())].getD k (0,[],())=x at hx ⊢
   obtain ⟨xa,xl,_⟩:=x
   dsimp only at hx ⊢
   rw [X_l22_given _ _ (by omega),Option.bind_some]
   dsimp only
   rw [X_ncode_Encode _ _ (by omega),Option.bind_some,X_r22_Encode _ _ (by omega),Option.bind_some]
   dsimp only
   rw [bne_self_eq_false,cond_false,same_list _ (by have:=enc_len xa xl;omega),Option.bind_some]
   exact tot_some ⟨q,by rw [W_id (by omega)]⟩
 · rintro _ ⟨y,rfl⟩
   refine tot_sum (fun a h=>by cases h) fun z hz=>?_
   rw [X_ncode_Decode _ (by omega) (P.wOk_all hw),Option.bind_some,X_r22_Decode _ (by omega) (P.wOk_all hw),Option.bind_some,X_l22_awake,Option.bind_some]
   dsimp only
   rw [beq_self_eq_true,cond_true,cond_true]
   have hL:(cond (P.decB ws) (P.decR (ws.drop 1)) []).length<=1000:=by
    cases hd:P.decB ws
    · simp
    · simp only [cond_true]
      unfold P.decB at hd
      simp only [Bool.and_eq_true,decide_eq_true_eq] at hd
      rw [P.decR_len ((ws.length - 1) / 2) _ (by rw [List.length_drop];omega)];omega
   rw [X_l22_told _ _ (by omega),Option.bind_some]
   dsimp only
   rw [X_r22_Same _ _ (by omega),Option.bind_some]
   exact tot_some rfl
theorem L_NcodeBack (a:Int) (l:List InD) (ws tape:List Int) (hw:∀ x∈ws,0<=x/\x < 18446744073709551616):F_l22_NcodeBack ((a,l,()),ws,tape,())=some ((true,()),()):=by
 refine law_key ?_
 rw [nf_l22_NcodeBack];dsimp only
 refine tot_cond (fun _=>tot_some rfl) fun h=>?_
 have hl:l.length<=400/\ws.length<=900:=by
  by_cases h1:(l.length:Int) > 400
  · rw [decide_eq_true h1] at h;cases h
  · rw [decide_eq_false h1] at h
    have:=of_decide_eq_false h
    omega
 refine tot_bind (X_l22_made tape) ?_
 rintro ⟨⟨⟨(b:Int),(m:List InD),_⟩,_⟩,_⟩ ⟨hb,hm,-⟩
 dsimp only at hb hm ⊢
 refine tot_bind (tot_each (n:=2) (by omega) ?_) ?_
 · intro q k hk
   dsimp only
   rw [Int.toNat_natCast]
   have hx:=getD2 (fun x:CdD=>x.2.1.length<=400) (a,l,()) (b,m,()) (0,[],()) hl.1 (by dsimp only;omega) k hk
   generalize [(a,l,()),(b,m,())].getD k (0,[],())=x at hx ⊢
   obtain ⟨xa,xl,_⟩:=x
   dsimp only at hx ⊢
   rw [X_l22_given _ _ (by omega),Option.bind_some]
   dsimp only
   rw [X_ncode_Encode _ _ (by omega),Option.bind_some]
   dsimp only
   cases hf:P.formB xa xl
   · exact tot_some ⟨q,by rw [W_id (by omega)]⟩
   simp only [cond_true]
   rw [show ((0:Int) == 0)=true from rfl,cond_true]
   have h2:=P.formB_len hf
   rw [X_ncode_Decode _ (by simp only [List.length_cons,P.encR_len];omega) (P.wOk_enc hf),Option.bind_some]
   dsimp only
   rw [P.decB_enc hf]
   simp only [cond_true]
   rw [show ((0:Int) != 0)=false from rfl,cond_false,List.getD_cons_zero,List.drop_succ_cons,List.drop_zero,(P.decR_encR (P.formB_all hf)).1,X_l22_told _ _ (by omega),Option.bind_some]
   dsimp only
   rw [X_r22_Same _ _ (by omega),Option.bind_some]
   exact tot_some ⟨q,by rw [W_id (by omega)]⟩
 · rintro _ ⟨y,rfl⟩
   refine tot_sum (fun a h=>by cases h) fun z hz=>?_
   rw [X_ncode_Decode _ (by omega) (P.wOk_all hw),Option.bind_some,X_l22_awake]
   dsimp only
   cases hd:P.decB ws
   · exact tot_some rfl
   simp only [cond_true]
   rw [show ((0:Int) != 0)=false from rfl,cond_false]
   have hd':=hd
   unfold P.decB at hd'
   simp only [Bool.and_eq_true,decide_eq_true_eq] at hd'
   obtain ⟨d1,d2,d3,d4⟩:=hd'
   have hdr:=P.decR_len ((ws.length - 1) / 2) (ws.drop 1) (by rw [List.length_drop];omega)
   have he:=P.encR_decR ((ws.length - 1) / 2) (ws.drop 1) (by rw [List.length_drop];omega) (fun x hx=>(hw x (List.mem_of_mem_drop hx)).1) d4
   have h0:=hw _ (List.mem_of_getElem? (get_getD (show 0 < ws.length by omega)))
   rw [X_ncode_Encode _ _ (by omega),Option.bind_some,Option.bind_some]
   have hf:P.formB (ws.getD 0 0) (P.decR (ws.drop 1))=true:=by
    unfold P.formB
    rw [he.2,decide_eq_true (show 0<=ws.getD 0 0/\ws.getD 0 0<=3 by omega),decide_eq_true (show (P.decR (ws.drop 1)).length<=256 by omega)];rfl
   dsimp only
   rw [hf]
   simp only [cond_true]
   rw [show ((0:Int) == 0)=true from rfl,cond_true,he.1]
   have e:ws.getD 0 0 :: ws.drop 1=ws:=by
    cases ws with
    | nil=>simp at d1
    | cons x r=>rfl
   rw [e,same_list _ (by omega),Option.bind_some]
   exact tot_some rfl
abbrev CX:=(Bool × CdD × CdD × CdD × Int × Unit) × Unit × CdD × CdD × Unit
abbrev CY:=(Bool × Unit) × Unit × CdD × CdD × Unit ⊕ (Bool × CdD × CdD × CdD × Unit) × Unit × CdD × CdD × Unit
theorem L_NcodeChecks (a:Int) (l:List InD) (tape odd fs:List Int):F_l22_NcodeChecks ((a,l,()),tape,odd,fs,())=some ((true,()),()):=by
 refine law_key ?_
 rw [nf_l22_NcodeChecks];dsimp only
 refine tot_cond (fun _=>tot_some rfl) fun h=>?_
 have hl:l.length<=400/\fs.length<=300:=by
  by_cases h1:(l.length:Int) > 400
  · rw [decide_eq_true h1] at h;cases h
  · rw [decide_eq_false h1] at h
    have:=of_decide_eq_false h
    omega
 refine tot_bind (X_l22_made tape) ?_
 rintro ⟨⟨⟨(b:Int),(m:List InD),_⟩,_⟩,_⟩ ⟨hb,hm,hok⟩
 dsimp only at hb hm hok ⊢
 refine tot_bind (X_l22_bent b m odd (by omega)) ?_
 rintro ⟨⟨⟨(c:Int),(o:List InD),_⟩,_⟩,_⟩ ho
 dsimp only at ho ⊢
 refine tot_bind (P:=fun (r:CY)=>∃ y:(Bool × CdD × CdD × CdD × Unit) × Unit × CdD × CdD × Unit,r = .inr y/\y.2.2.1=(b,m,())) (tot_loop (fun (x:CX)=>∃ k:Nat,x.1.2.2.2.2.1=(k:Int)/\k<=2/\x.2.2.1=(b,m,())/\x.2.2.2.1=(c,o,())) (fun x=>(2 - x.1.2.2.2.2.1).toNat) ⟨0,rfl,by omega,rfl,rfl⟩ ?_) ?_
 · rintro ⟨⟨(q:Bool),p1,p2,p3,(i:Int),_⟩,_,z1,z2,_⟩ ⟨k,e,hk,e1,e2⟩
   dsimp only at e e1 e2 ⊢
   rw [e,e1,e2]
   refine tot_cond (fun h1=>?_) fun h1=>tot_some ⟨_,rfl,rfl⟩
   simp only [decide_eq_true_eq,List.length_cons,List.length_nil] at h1
   have hk2:k < 2:=by omega
   refine tot_need (inB_iff.2 ⟨by omega,h1⟩) ?_
   rw [Int.toNat_natCast]
   have hf:=getD2 (fun x:List Int=>x.length<=300) fs [0,1,2] [] hl.2 (by simp) k hk2
   generalize [fs,[0,1,2]].getD k []=ff at hf ⊢
   dsimp only
   refine tot_bind (tot_each (n:=3) (by omega) ?_) ?_
   · intro q' j hj
     dsimp only
     rw [Int.toNat_natCast]
     have hx:=getD3 (fun x:CdD=>x.2.1.length<=400) (a,l,()) (b,m,()) (c,o,()) (0,[],()) hl.1 (by dsimp only;omega) (by dsimp only;omega) j hj
     generalize [(a,l,()),(b,m,()),(c,o,())].getD j (0,[],())=x at hx ⊢
     obtain ⟨xa,xl,_⟩:=x
     dsimp only at hx ⊢
     rw [X_l22_given _ _ (by omega),Option.bind_some]
     dsimp only
     rw [X_ncode_Check _ _ _ (by omega) (by omega),Option.bind_some,X_r22_Check _ _ _ (by omega) (by omega),Option.bind_some]
     dsimp only
     rw [bne_self_eq_false,cond_false]
     exact tot_some ⟨q',by rw [W_id (by omega)]⟩
   · rintro _ ⟨y,rfl⟩
     refine tot_some ⟨⟨k+1,by dsimp only;rw [W_id (by omega)];omega,by omega,rfl,rfl⟩,?_⟩
     dsimp only;rw [W_id (by omega)];omega
 · rintro _ ⟨⟨⟨(q:Bool),p1,p2,p3,_⟩,_,z1,z2,_⟩,rfl,e1⟩
   dsimp only at e1
   subst e1
   dsimp only [Sum.elim_inr]
   rw [X_l22_awake,Option.bind_some,X_l22_given _ _ (by omega)]
   dsimp only
   rw [cond_true,Option.bind_some]
   dsimp only
   rw [X_ncode_Check _ _ _ (by omega) (by simp),Option.bind_some]
   dsimp only
   rw [(made_run hb hm hok).2]
   exact tot_some rfl
theorem L_NcodeArgsu (d) (h:wfP E_l22_NcodeArgs.ps d):F_l22_NcodeArgs d=some ((true,()),()):=by
 obtain ⟨op,_⟩:=d
 exact L_NcodeArgs op
theorem L_NcodeWordsu (d) (h:wfP E_l22_NcodeWords.ps d):F_l22_NcodeWords d=some ((true,()),()):=by
 obtain ⟨⟨a,l,_⟩,ws,tape,_⟩:=d
 obtain ⟨-,hw,-⟩:=h
 exact L_NcodeWords a l ws tape (fun x hx=>wf_u (hw.2 x hx))
theorem L_NcodeBacku (d) (h:wfP E_l22_NcodeBack.ps d):F_l22_NcodeBack d=some ((true,()),()):=by
 obtain ⟨⟨a,l,_⟩,ws,tape,_⟩:=d
 obtain ⟨-,hw,-⟩:=h
 exact L_NcodeBack a l ws tape (fun x hx=>wf_u (hw.2 x hx))
theorem L_NcodeChecksu (d) (h:wfP E_l22_NcodeChecks.ps d):F_l22_NcodeChecks d=some ((true,()),()):=by
 obtain ⟨⟨a,l,_⟩,tape,odd,fs,_⟩:=d
 exact L_NcodeChecks a l tape odd fs
#print axioms L_NcodeChecksu
end Go.VI
