import Derived.Test.YtedihojbnpodgaaGreatQ02
import Derived.Test.YtedihojbnpodgaaGreatQ05
import Derived.Test.YtedihojbnpodgaaGreatQ06
import Derived.Test.YtedihojbnpodgaaGreatQ07
set_option linter.unusedSimpArgs false
set_option linter.unusedVariables false
set_option maxRecDepth 100000
set_option maxHeartbeats 4000000
namespace Go.VI
open Go
theorem T_page_within (a b c:Int):F_page_within (a,b,c,())=some ((decide (b<=a/\a<=c),()),()):=by
 rw [nf_page_within];dsimp only
 rw [cand,Bool.decide_and]
theorem T_page_ValidConf (pw np:Int):F_page_ValidConf ((pw,np,()),())=some ((confB pw np,()),()):=by
 rw [nf_page_ValidConf];dsimp only
 rw [T_page_within,T_page_within,Option.bind_some,Option.bind_some]
 dsimp only
 have e:confB pw np=(decide (16<=pw/\pw<=64) && (pw.tmod 4 == 0) && decide (8<=np/\np<=64)):=by
  rw [Bool.eq_iff_iff,confB_iff]
  simp only [Bool.and_eq_true,decide_eq_true_eq,beq_iff_eq]
  omega
 rw [e]
 cases decide (16<=pw/\pw<=64) <;> cases (pw.tmod 4 == 0) <;> rfl
theorem T_page_size (pw np:Int):F_page_size ((pw,np,()),())=some ((W (pw*np),()),()):=by
 rw [nf_page_size]
theorem T_page_isSpace (n:Int):F_page_isSpace (n,())=some ((P.spaceB n,()),()):=by
 rw [nf_page_isSpace];dsimp only
 rw [cor];unfold P.spaceB
 rw [Bool.decide_or];rfl
theorem T_page_isPins (n:Int):F_page_isPins (n,())=some ((P.pinsB n,()),()):=by
 rw [nf_page_isPins];dsimp only
 rw [T_page_within,Option.bind_some]
 rfl
theorem T_page_SmallWords (pw np:Int):F_page_SmallWords ((pw,np,()),())=some ((P.smallV pw np,()),()):=by
 rw [nf_page_SmallWords];dsimp only
 rw [T_page_ValidConf,Option.bind_some]
 dsimp only
 cases hc:confB pw np
 · rw [P.small_no (by rw [confB_eq];exact hc)];rfl
 · have c:=confB_iff.1 hc
   rw [P.small_ok (by rw [confB_eq];exact hc)]
   have hq:W (pw.tdiv 4)=pw / 4:=by rw [Int.tdiv_eq_ediv_of_nonneg (by omega)];exact W_id (by omega)
   rw [hq];rfl
theorem T_page_Need (pw np n:Int):F_page_Need ((pw,np,()),n,())=some ((P.needV pw np n,()),()):=by
 rw [nf_page_Need];dsimp only
 rw [T_page_ValidConf,T_page_within,T_page_SmallWords,Option.bind_some,Option.bind_some,Option.bind_some]
 dsimp only
 cases hc:confB pw np
 · rw [P.need_no (.inl (by rw [confB_eq];exact hc))];rfl
 have c:=confB_iff.1 hc
 have hc':P.confB pw np=true:=by rw [confB_eq];exact hc
 have w4:W (4*pw)=4*pw:=W_id (by omega)
 rw [w4,P.small_ok hc']
 by_cases h1:1<=n/\n<=4*pw
 · rw [decide_eq_true h1,P.need_ok hc' h1.1]
   by_cases h2:n<=pw / 4
   · rw [decide_eq_true h2,P.needP_small h2];rfl
   · rw [decide_eq_false h2,P.needP_div (by omega) (by omega) (by omega) (by omega)]
     have w1:W (n+pw)=n+pw:=W_id (by omega)
     have w2:W (n+pw - 1)=n+pw - 1:=W_id (by omega)
     rw [w1,w2,Int.tdiv_eq_ediv_of_nonneg (by omega)]
     have hd:=Int.ediv_le_self (a:=n+pw - 1) pw (by omega)
     have hd0:=Int.ediv_nonneg (a:=n+pw - 1) (b:=pw) (by omega) (by omega)
     rw [W_id (by omega)]
     have hpw:(!pw == 0)=true:=by simp;omega
     rw [hpw];rfl
 · rw [decide_eq_false h1]
   have:P.needV pw np n = -1:=by
    by_cases h2:n < 1
    · exact P.need_no (.inr h2)
    · rw [P.need_ok hc' (by omega)]
      exact P.needP_none (by omega) (by omega) (by omega)
   rw [this];rfl
theorem T_page_table_free (pw np:Int) (ps:List PgD) (k:Nat) (hk:k < ps.length) (h0:(ps.getD k PG0).1=0):F_page_table_free (((pw,np,()),ps,()),(k:Int),())=some ((P.freeOK (toPg (ps.getD k PG0)),()),()):=by
 rw [nf_page_table_free];dsimp only
 rw [inB_iff.2 ⟨by omega,by omega⟩,Int.toNat_natCast,h0]
 generalize ps.getD k PG0=X
 obtain ⟨a,b,c,d,_⟩:=X
 have:P.freeOK (toPg (a,b,c,d,()))=((b == 0) && ((c == 0) && ((d == 0) && true))):=by
  show decide (b=0/\c=0/\d=0)=_
  rw [Bool.eq_iff_iff,decide_eq_true_eq]
  simp
 rw [this];rfl
theorem T_page_table_small (pw np:Int) (ps:List PgD) (k:Nat) (hk:k < ps.length):F_page_table_small (((pw,np,()),ps,()),(k:Int),())=some ((P.smallOK pw (toPg (ps.getD k PG0)),()),()):=by
 rw [nf_page_table_small];dsimp only
 rw [inB_iff.2 ⟨by omega,by omega⟩,Int.toNat_natCast]
 generalize ps.getD k PG0=X
 obtain ⟨a,b,c,d,_⟩:=X
 dsimp only
 rw [T_page_isSpace,T_page_within,T_page_isPins,Option.bind_some,Option.bind_some,Option.bind_some]
 dsimp only
 have:P.smallOK pw (toPg (a,b,c,d,()))=(P.spaceB b && decide (0<=c/\c<=pw) && P.pinsB d):=rfl
 rw [this]
 cases P.spaceB b <;> cases decide (0<=c/\c<=pw) <;> rfl
theorem drop_at' {α:Type} {l:List α} {k:Nat} {x:α} (h:l[k]?=some x):l.drop k=x :: l.drop (k+1):=by
 obtain ⟨hk,e⟩:=List.getElem?_eq_some_iff.1 h
 rw [List.drop_eq_getElem_cons hk,e]
theorem toPg_at {ps:List PgD} {k:Nat} (hk:k < ps.length):(ps.map toPg)[k]?=some (toPg (ps.getD k PG0)):=by
 rw [<-map_getD,List.getD_eq_getElem?_getD,List.getElem?_eq_getElem (by rw [List.length_map];exact hk)];rfl
theorem tails_loop (sp:Int) (l:List PgD) (hl:l.length<=100000000):Tot (fun (r:(Bool × Unit) × Unit × Unit ⊕ (Bool × Unit) × Unit × Unit)=>(match r with | .inl x=>x.1.1=false/\P.allTails sp (l.map toPg)=false | .inr _=>P.allTails sp (l.map toPg)=true)) (rl ((Bool × Int × Unit) × Unit × Unit) ((Bool × Unit) × Unit × Unit ⊕ (Bool × Unit) × Unit × Unit) (fun (x:(Bool × Int × Unit) × Unit × Unit) =>
 bif decide (x.1.2.1 < (l.length:Int)) then
 bif inB x.1.2.1 l.length then
 bif bif (l.getD x.1.2.1.toNat PG0).1 != 3 then true
 else (l.getD x.1.2.1.toNat PG0).2.1 != sp then some (Sum.inr (Sum.inl ((false,()),(),())))
 else some (Sum.inl ((x.1.1,W (x.1.2.1+1),()),(),()))
 else none
 else some (Sum.inr (Sum.inr ((x.1.1,()),(),())))) ((false,0,()),(),())):=by
  refine tot_loop (fun x=>∃ k:Nat,x.1.2.1=(k:Int)/\k<=l.length/\P.allTails sp ((l.map toPg).drop k)=P.allTails sp (l.map toPg)) (fun x=>((l.length:Int) - x.1.2.1).toNat) ⟨0,rfl,by omega,rfl⟩ ?_
  rintro ⟨⟨(b:Bool),(i:Int),_⟩,_⟩ ⟨k,e,hk,hp⟩
  dsimp only at e ⊢
  subst e
  refine tot_cond (fun h1=>?_) fun h1=>tot_some ?_
  · simp only [decide_eq_true_eq] at h1
    have hk':k < l.length:=by omega
    rw [drop_at' (toPg_at hk')] at hp
    unfold P.allTails at hp ⊢
    rw [List.all_cons] at hp
    rw [W_id (by omega),Int.toNat_natCast]
    generalize hX:l.getD k PG0=X at *
    obtain ⟨xk,xs,xu,xp,_⟩:=X
    refine tot_need (inB_iff.2 ⟨by omega,by omega⟩) (tot_cond (fun h2=>tot_some ?_) fun h2=>tot_some ?_)
    · refine ⟨rfl,?_⟩
      rw [<-hp,Bool.and_eq_false_iff]
      left
      refine decide_eq_false ?_
      simp only [cor,Bool.or_eq_true,bne_iff_ne,ne_eq] at h2
      rintro ⟨q1,q2⟩
      rcases h2 with h2 | h2
      · exact h2 q1
      · exact h2 q2
    · simp only [Sum.elim_inl]
      refine ⟨⟨k+1,by omega,by omega,?_⟩,by omega⟩
      rw [<-hp]
      simp only [cor,Bool.or_eq_false_iff,bne_eq_false_iff_eq] at h2
      have:decide ((toPg (xk,xs,xu,xp,())).kind=3/\(toPg (xk,xs,xu,xp,())).space=sp)=true:=decide_eq_true h2
      rw [this,Bool.true_and]
  · simp only [decide_eq_false_iff_not] at h1
    simp only [Sum.elim_inr]
    rw [<-hp,List.drop_eq_nil_of_le (by rw [List.length_map];omega)];rfl
theorem T_page_table_large (pw np:Int) (ps:List PgD) (k:Nat) (hk:k < ps.length) (hl:ps.length<=100000000):Tot (fun r=>r.1.1=P.largeOK pw np (ps.map toPg) k (toPg (ps.getD k PG0))) (F_page_table_large (((pw,np,()),ps,()),(k:Int),())):=by
 rw [nf_page_table_large];dsimp only
 refine tot_need (inB_iff.2 ⟨by omega,by omega⟩) ?_
 rw [Int.toNat_natCast]
 generalize hX:ps.getD k PG0=X
 obtain ⟨a,b,c,d,_⟩:=X
 dsimp only
 rw [T_page_Need,Option.bind_some,T_page_isSpace,Option.bind_some,T_page_isPins,Option.bind_some]
 dsimp only
 have hlm:(ps.map toPg).length=ps.length:=List.length_map ..
 have e:P.largeOK pw np (ps.map toPg) k (toPg (a,b,c,d,()))=(P.spaceB b && decide (1<=P.needV pw np c) && P.pinsB d && decide ((k:Int)+P.needV pw np c<=ps.length) && P.allTails b (((ps.map toPg).drop (k+1)).take ((P.needV pw np c).toNat - 1))):=by rw [<-hlm];rfl
 rw [e]
 have b1:=P.needV_le2 pw np c
 have b0:=P.needV_ge pw np c
 generalize P.needV pw np c=N at *
 refine tot_cond (fun h1=>tot_some ?_) fun h1=>?_
 · simp only [Bool.not_eq_true'] at h1;rw [h1];rfl
 simp only [Bool.not_eq_false'] at h1
 rw [h1,Bool.true_and]
 refine tot_cond (fun h2=>tot_some ?_) fun h2=>?_
 · simp only [decide_eq_true_eq] at h2
   rw [decide_eq_false (show ¬1<=N by omega)];rfl
 simp only [decide_eq_false_iff_not] at h2
 rw [decide_eq_true (show 1<=N by omega),Bool.true_and]
 have w1:W ((k:Int)+N)=k+N:=W_id (by omega)
 have w2:W ((k:Int)+1)=k+1:=W_id (by omega)
 rw [w1,w2,cor]
 refine tot_cond (fun h3=>tot_some ?_) fun h3=>?_
 · simp only [Bool.or_eq_true,Bool.not_eq_true',decide_eq_true_eq] at h3
   rcases h3 with h3 | h3
   · rw [h3];rfl
   · rw [decide_eq_false (show ¬(k:Int)+N<=ps.length by omega)];simp
 simp only [Bool.or_eq_false_iff,Bool.not_eq_false',decide_eq_false_iff_not] at h3
 rw [h3.1,decide_eq_true (show (k:Int)+N<=ps.length by omega)]
 simp only [Bool.true_and]
 refine tot_need (decide_eq_true (by omega)) ?_
 have ed:List.drop ((k:Int)+1).toNat (List.take ((k:Int)+N).toNat ps)=(ps.drop (k+1)).take (N.toNat - 1):=by
  rw [List.drop_take]
  congr 1
  omega
 rw [ed]
 have el:((ps.map toPg).drop (k+1)).take (N.toNat - 1)=((ps.drop (k+1)).take (N.toNat - 1)).map toPg:=by
  rw [List.map_take,List.map_drop]
 rw [el]
 refine tot_bind (tails_loop b ((ps.drop (k+1)).take (N.toNat - 1)) (by rw [List.length_take,List.length_drop];omega)) fun r hr=>tot_sum (fun x hx=>?_) fun x hx=>?_
 · subst hx;exact tot_some (hr.1.trans hr.2.symm)
 · subst hx;exact tot_some hr.symm
theorem T_page_table_owned (pw np:Int) (ps:List PgD) (k:Nat) (hk:k < ps.length) (hl:ps.length<=100000000):Tot (fun r=>r.1.1=P.ownedB pw np (ps.map toPg) k) (F_page_table_owned (((pw,np,()),ps,()),(k:Int),())):=by
 rw [nf_page_table_owned];dsimp only
 unfold P.ownedB
 refine tot_bind (P:=fun r=>match r with
  | .inl x=>x.1.1=P.ownedAt pw np (ps.map toPg) k 1
  | .inr _=>P.ownedAt pw np (ps.map toPg) k 1=false) (tot_loop (fun x=>∃ m b:Nat,x.1.2.1=(b:Int)/\m+b=k+1/\1<=b/\P.ownedAt pw np (ps.map toPg) m b=P.ownedAt pw np (ps.map toPg) k 1) (fun x=>((k:Int)+1 - x.1.2.1).toNat) ⟨k,1,rfl,rfl,by omega,rfl⟩ ?_) fun r hr=>tot_sum (fun x hx=>?_) fun x hx=>?_
 · rintro ⟨⟨(q:Bool),(i:Int),_⟩,_⟩ ⟨m,b,e,hm,hb,hp⟩
   dsimp only at e ⊢
   subst e
   refine tot_cond (fun h1=>?_) fun h1=>tot_some ?_
   · simp only [decide_eq_true_eq] at h1
     obtain ⟨m,rfl⟩:∃ n,m=n+1:=⟨m - 1,by omega⟩
     have w1:W ((k:Int) - b)=(m:Nat):=by rw [W_id (by omega)];omega
     rw [w1,W_id (n:=(b:Int)+1) (by omega),Int.toNat_natCast]
     rw [P.ownedAt,map_getD] at hp
     generalize hX:ps.getD m PG0=X at *
     obtain ⟨xk,xs,xu,xp,_⟩:=X
     have hp:(if xk=2 then decide ((b:Int) < P.needV pw np xu) else P.ownedAt pw np (ps.map toPg) m ((b:Int)+1))=P.ownedAt pw np (ps.map toPg) k 1:=hp
     refine tot_need (inB_iff.2 ⟨by omega,by omega⟩) (tot_cond (fun h2=>?_) fun h2=>tot_some ?_)
     · rw [T_page_Need,Option.bind_some]
       simp only [beq_iff_eq] at h2
       rw [if_pos h2] at hp
       exact tot_some hp
     · simp only [beq_eq_false_iff_ne,ne_eq] at h2
       rw [if_neg h2] at hp
       simp only [Sum.elim_inl]
       exact ⟨⟨m,b+1,by omega,by omega,by omega,by rw [<-hp];rfl⟩,by omega⟩
   · simp only [decide_eq_false_iff_not] at h1
     obtain rfl:m=0:=by omega
     simp only [Sum.elim_inr]
     rw [<-hp];rfl
 · subst hx;exact tot_some hr
 · subst hx;exact tot_some hr.symm
theorem T_page_table_tail (pw np:Int) (ps:List PgD) (k:Nat) (hk:k < ps.length) (hl:ps.length<=100000000):Tot (fun r=>r.1.1=P.tailOK pw np (ps.map toPg) k (toPg (ps.getD k PG0))) (F_page_table_tail (((pw,np,()),ps,()),(k:Int),())):=by
 rw [nf_page_table_tail];dsimp only
 refine tot_need (inB_iff.2 ⟨by omega,by omega⟩) ?_
 rw [Int.toNat_natCast]
 generalize hX:ps.getD k PG0=X
 obtain ⟨a,b,c,d,_⟩:=X
 have e:P.tailOK pw np (ps.map toPg) k (toPg (a,b,c,d,()))=((c == 0) && (d == 0) && P.ownedB pw np (ps.map toPg) k):=by
  unfold P.tailOK
  rw [Bool.decide_and];rfl
 rw [e]
 dsimp only
 refine tot_cond (fun h1=>tot_cond (fun h2=>tot_bind (T_page_table_owned pw np ps k hk hl) fun r hr=>tot_some ?_) fun h2=>tot_some ?_) fun h1=>tot_some ?_
 · rw [h1,h2];exact hr
 · rw [h1,h2];rfl
 · rw [h1];rfl
theorem T_page_table_proper (pw np:Int) (ps:List PgD) (hl:ps.length<=100000000):Tot (fun r=>r.1.1=P.tableOK pw np (ps.map toPg)) (F_page_table_proper (((pw,np,()),ps,()),())):=by
 rw [nf_page_table_proper];dsimp only
 unfold P.tableOK
 have hlm:(ps.map toPg).length=ps.length:=List.length_map ..
 refine tot_bind (P:=fun r=>match r with
  | .inl x=>x.1.1=false/\P.tableFrom pw np (ps.map toPg) 0 (ps.map toPg)=false
  | .inr _=>P.tableFrom pw np (ps.map toPg) 0 (ps.map toPg)=true) (tot_loop (fun x=>∃ k:Nat,x.1.2.1=(k:Int)/\k<=ps.length/\P.tableFrom pw np (ps.map toPg) k ((ps.map toPg).drop k)=P.tableFrom pw np (ps.map toPg) 0 (ps.map toPg)) (fun x=>((ps.length:Int) - x.1.2.1).toNat) ⟨0,rfl,by omega,rfl⟩ ?_) fun r hr=>tot_sum (fun x hx=>?_) fun x hx=>?_
 · rintro ⟨⟨(q:Bool),(i:Int),_⟩,_⟩ ⟨k,e,hk,hp⟩
   dsimp only at e ⊢
   subst e
   refine tot_cond (fun h1=>?_) fun h1=>tot_some ?_
   · simp only [decide_eq_true_eq] at h1
     have hk':k < ps.length:=by omega
     rw [P.table_step (toPg_at hk')] at hp
     rw [T_page_within,Option.bind_some,W_id (n:=(k:Int)+1) (by omega),Int.toNat_natCast]
     have hfree:=T_page_table_free pw np ps k hk'
     have hsmall:=T_page_table_small pw np ps k hk'
     have hlarge:=T_page_table_large pw np ps k hk' hl
     have htail:=T_page_table_tail pw np ps k hk' hl
     generalize hX:ps.getD k PG0=X at *
     obtain ⟨xk,xs,xu,xp,_⟩:=X
     dsimp only at hfree ⊢
     have bad:P.pageOK pw np (ps.map toPg) k (toPg (xk,xs,xu,xp,()))=false->Tot (Sum.elim (fun x':(Bool × Int × Unit) × Unit × Unit=>(∃ k:Nat,x'.1.2.1=(k:Int)/\k<=ps.length/\P.tableFrom pw np (ps.map toPg) k ((ps.map toPg).drop k)=P.tableFrom pw np (ps.map toPg) 0 (ps.map toPg))/\((ps.length:Int) - x'.1.2.1).toNat < ((ps.length:Int) - (k:Int)).toNat) fun (r:(Bool × Unit) × Unit × Unit ⊕ (Bool × Unit) × Unit × Unit)=>match r with
      | .inl x=>x.1.1=false/\P.tableFrom pw np (ps.map toPg) 0 (ps.map toPg)=false
      | .inr _=>P.tableFrom pw np (ps.map toPg) 0 (ps.map toPg)=true) (some (Sum.inr (Sum.inl ((false,()),(),())))):=fun hs=>by
      rw [hs] at hp
      exact tot_some ⟨rfl,hp.symm⟩
     have good:P.pageOK pw np (ps.map toPg) k (toPg (xk,xs,xu,xp,()))=true->Tot (Sum.elim (fun x':(Bool × Int × Unit) × Unit × Unit=>(∃ k:Nat,x'.1.2.1=(k:Int)/\k<=ps.length/\P.tableFrom pw np (ps.map toPg) k ((ps.map toPg).drop k)=P.tableFrom pw np (ps.map toPg) 0 (ps.map toPg))/\((ps.length:Int) - x'.1.2.1).toNat < ((ps.length:Int) - (k:Int)).toNat) fun (r:(Bool × Unit) × Unit × Unit ⊕ (Bool × Unit) × Unit × Unit)=>match r with
      | .inl x=>x.1.1=false/\P.tableFrom pw np (ps.map toPg) 0 (ps.map toPg)=false
      | .inr _=>P.tableFrom pw np (ps.map toPg) 0 (ps.map toPg)=true) (some (Sum.inl ((q,(k:Int)+1,()),(),()))):=fun hs=>by
      rw [hs,Bool.true_and] at hp
      refine tot_some ?_
      simp only [Sum.elim_inl]
      exact ⟨⟨k+1,by omega,by omega,hp⟩,by omega⟩
     have st:P.pageOK pw np (ps.map toPg) k (toPg (xk,xs,xu,xp,()))=if xk=0 then P.freeOK (toPg (xk,xs,xu,xp,())) else if xk=1 then P.smallOK pw (toPg (xk,xs,xu,xp,())) else if xk=2 then P.largeOK pw np (ps.map toPg) k (toPg (xk,xs,xu,xp,())) else if xk=3 then P.tailOK pw np (ps.map toPg) k (toPg (xk,xs,xu,xp,())) else false:=rfl
     rw [st] at bad good
     refine tot_need (inB_iff.2 ⟨by omega,by omega⟩) (tot_cond (fun h2=>bad ?_) fun h2=>?_)
     · simp only [Bool.not_eq_true',decide_eq_false_iff_not] at h2
       rw [if_neg (by omega),if_neg (by omega),if_neg (by omega),if_neg (by omega)]
     simp only [Bool.not_eq_false',decide_eq_true_eq] at h2
     refine tot_cond (fun c0=>?_) fun c0=>?_
     · have c0:=of_decide_eq_true c0
       rw [if_pos c0] at bad good
       rw [hfree c0,Option.bind_some]
       exact tot_cond (fun h3=>bad (by simpa using h3)) fun h3=>good (by simpa using h3)
     have c0:=of_decide_eq_false c0
     rw [if_neg c0] at bad good
     refine tot_cond (fun c1=>?_) fun c1=>?_
     · have c1:=of_decide_eq_true c1
       rw [if_pos c1] at bad good
       rw [hsmall,Option.bind_some]
       exact tot_cond (fun h3=>bad (by simpa using h3)) fun h3=>good (by simpa using h3)
     have c1:=of_decide_eq_false c1
     rw [if_neg c1] at bad good
     refine tot_cond (fun c2=>?_) fun c2=>?_
     · have c2:=of_decide_eq_true c2
       rw [if_pos c2] at bad good
       refine tot_bind hlarge fun r hr=>?_
       rw [<-hr] at bad good
       exact tot_cond (fun h3=>bad (by simpa using h3)) fun h3=>good (by simpa using h3)
     have c2:=of_decide_eq_false c2
     rw [if_neg c2] at bad good
     refine tot_cond (fun c3=>?_) fun c3=>?_
     · have c3:=of_decide_eq_true c3
       rw [if_pos c3] at bad good
       refine tot_bind htail fun r hr=>?_
       rw [<-hr] at bad good
       exact tot_cond (fun h3=>bad (by simpa using h3)) fun h3=>good (by simpa using h3)
     · have c3:=of_decide_eq_false c3
       omega
   · simp only [decide_eq_false_iff_not] at h1
     rw [P.table_end (by omega)] at hp
     simp only [Sum.elim_inr]
     exact hp.symm
 · subst hx;exact tot_some (hr.1.trans hr.2.symm)
 · subst hx;exact tot_some hr.symm
theorem T_page_isSmall (ps:List PgD) (b:Int) (hb:¬b = -1) (hl:ps.length<=100000000):F_page_isSmall (ps,b,())=some ((P.bumpB (ps.map toPg) b,()),()):=by
 rw [nf_page_isSmall];dsimp only
 rw [T_page_within,Option.bind_some]
 dsimp only
 have w1:W ((ps.length:Int) - 1)=ps.length - 1:=W_id (by omega)
 have hlm:(ps.map toPg).length=ps.length:=List.length_map ..
 rw [w1]
 unfold P.bumpB
 rw [hlm,map_getD]
 by_cases h:0<=b/\b<=(ps.length:Int) - 1
 · rw [decide_eq_true h,inB_iff.2 ⟨h.1,by omega⟩]
   have:decide (b = -1\/0<=b/\b < (ps.length:Int)/\(toPg (ps.getD b.toNat PG0)).kind=1)=((ps.getD b.toNat PG0).1 == 1):=by
    rw [Bool.eq_iff_iff,decide_eq_true_eq,beq_iff_eq]
    constructor
    · rintro (e | e)
      · exact absurd e hb
      · exact e.2.2
    · intro e;exact .inr ⟨h.1,by omega,e⟩
   rw [this];rfl
 · rw [decide_eq_false h]
   have:decide (b = -1\/0<=b/\b < (ps.length:Int)/\(toPg (ps.getD b.toNat PG0)).kind=1)=false:=decide_eq_false (by
    rintro (e | e)
    · exact hb e
    · exact h ⟨e.1,by omega⟩)
   rw [this];rfl
theorem T_page_Proper (h:HpD) (hw:HpW h):Tot (fun r=>r.1.1=P.okH (toHp h)) (F_page_Proper (h,())):=by
 obtain ⟨⟨pw,np,_⟩,ws,ps,sp,bu,_⟩:=h
 have hl:=hw.pl
 have hwl:=hw.wl
 dsimp only at hl hwl
 have hlm:(ps.map toPg).length=ps.length:=List.length_map ..
 have e:P.okH (toHp ((pw,np,()),ws,ps,sp,bu,()))=(confB pw np && decide ((ws.length:Int)=np*pw) && decide ((ps.length:Int)=np) && P.spaceB sp && P.bumpB (ps.map toPg) bu && P.tableOK pw np (ps.map toPg)):=by
  show P.properB pw np ws.length (ps.map toPg) sp bu=_
  rw [<-P.properP_B,<-confB_eq]
  unfold P.properP
  rw [hlm]
 rw [e]
 rw [nf_page_Proper];dsimp only
 rw [T_page_ValidConf,Option.bind_some]
 refine tot_cond (fun h1=>tot_some ?_) fun h1=>?_
 · simp only [Bool.not_eq_true'] at h1;rw [h1];rfl
 simp only [Bool.not_eq_false'] at h1
 have c2:=confB_iff.1 h1
 have cm:=P.conf_prod (pw:=pw) (np:=np) (by rw [confB_eq];exact h1)
 rw [h1,Bool.true_and,T_page_size,Option.bind_some]
 dsimp only
 rw [cor,Int.mul_comm pw np,W_id (n:=np*pw) (by omega)]
 refine tot_cond (fun h2=>tot_some ?_) fun h2=>?_
 · simp only [Bool.or_eq_true,bne_iff_ne,ne_eq] at h2
   rcases h2 with h2 | h2
   · rw [decide_eq_false h2];rfl
   · rw [decide_eq_false (p:=(ps.length:Int)=np) h2];simp
 simp only [Bool.or_eq_false_iff,bne_eq_false_iff_eq] at h2
 rw [decide_eq_true h2.1,decide_eq_true h2.2,T_page_isSpace,Option.bind_some]
 simp only [Bool.true_and]
 refine tot_cond (fun h3=>tot_some ?_) fun h3=>?_
 · simp only [Bool.not_eq_true'] at h3;rw [h3];rfl
 simp only [Bool.not_eq_false'] at h3
 rw [h3,Bool.true_and]
 have fin:∀ b:Bool,b=true->Tot (fun r=>r.1.1=(b && P.tableOK pw np (ps.map toPg))) ((F_page_table_proper (((pw,np,()),ps,()),())).bind fun (r:(Bool × Unit) × Unit)=>some ((r.1.1,()),())):=fun b hb=>tot_bind (T_page_table_proper pw np ps hl) fun r hr=>tot_some (by rw [hb,Bool.true_and];exact hr)
 refine tot_cond (fun h4=>?_) fun h4=>fin _ ?_
 · simp only [bne_iff_ne,ne_eq] at h4
   rw [T_page_isSmall ps bu h4 hl,Option.bind_some]
   refine tot_cond (fun h5=>tot_some ?_) fun h5=>fin _ (by simpa using h5)
   simp only [Bool.not_eq_true'] at h5;rw [h5];rfl
 · simp only [bne_eq_false_iff_eq] at h4
   subst h4
   unfold P.bumpB;exact decide_eq_true (.inl rfl)
theorem T_page_Of (pw np a:Int) (ha:0<=a/\a < 18446744073709551616):F_page_Of ((pw,np,()),a,())=some ((P.ofI pw np a,P.ofK pw np a,P.ofE pw np a,()),()):=by
 rw [nf_page_Of];dsimp only
 rw [T_page_ValidConf,T_page_size,Option.bind_some,Option.bind_some]
 dsimp only
 cases hc:confB pw np
 · obtain ⟨e1,e2,e3⟩:=P.of_no (pw:=pw) (np:=np) (a:=a) (by rw [confB_eq];exact hc)
   rw [e1,e2,e3];rfl
 have hc':P.confB pw np=true:=by rw [confB_eq];exact hc
 obtain ⟨c1,c2⟩:=P.conf_prod hc'
 have c3:=P.conf_parts hc'
 rw [Int.mul_comm pw np,W_id (n:=np*pw) (by omega),U_id (n:=np*pw) (by omega)]
 have hpw:(!pw == 0)=true:=by simp;omega
 by_cases h1:a < 4096
 · obtain ⟨e1,e2,e3⟩:=P.of_out (a:=a) hc' (by unfold P.inAr;exact decide_eq_false (by omega))
   rw [e1,e2,e3,decide_eq_true h1];rfl
 have w4:U (a - 4096)=a - 4096:=U_id (by omega)
 rw [w4,decide_eq_false h1]
 by_cases h2:a - 4096 >= np*pw
 · obtain ⟨e1,e2,e3⟩:=P.of_out (a:=a) hc' (by unfold P.inAr;exact decide_eq_false (by omega))
   rw [e1,e2,e3,decide_eq_true h2];rfl
 obtain ⟨e1,e2,e3⟩:=P.of_ok (a:=a) hc' (by unfold P.inAr;exact decide_eq_true (by omega))
 have w5:W (a - 4096)=a - 4096:=W_id (by omega)
 have hd:=Int.ediv_le_self (a:=a - 4096) pw (by omega)
 have hd0:=Int.ediv_nonneg (a:=a - 4096) (b:=pw) (by omega) (by omega)
 rw [decide_eq_false h2,w5,hpw,e1,e2,e3,Int.tdiv_eq_ediv_of_nonneg (by omega),Int.tmod_eq_emod_of_nonneg (by omega),W_id (n:=(a - 4096) / pw) (by omega)]
 rfl
end Go.VI
namespace Go.VI
open Go
theorem T_arena_locate (ws:List Int) (a:Int) (n:Nat) (hl:ws.length<=100000000) (hn:n<=100000000) (ha:0<=a/\a < 18446744073709551616):F_arena_locate (ws,a,(n:Int),())=some (((if P.okA ws.length a n then a - 4096 else 0),(if P.okA ws.length a n then 0 else 2),()),()):=by
 rw [nf_arena_locate];dsimp only
 rw [decide_eq_false (show ¬(n:Int) < 0 by omega),U_id (n:=(ws.length:Int)) (by omega),U_id (n:=(n:Int)) (by omega)]
 by_cases h1:a < 4096
 · have:P.okA ws.length a n=false:=by rw [<-Bool.not_eq_true,P.okA_iff];omega
   rw [decide_eq_true h1,this];rfl
 have u1:U (a - 4096)=a - 4096:=U_id (by omega)
 rw [decide_eq_false h1,u1]
 by_cases h2:a - 4096 > (ws.length:Int)
 · have:P.okA ws.length a n=false:=by rw [<-Bool.not_eq_true,P.okA_iff];omega
   rw [decide_eq_true h2,this];rfl
 have u2:U ((ws.length:Int) - (a - 4096))=ws.length - (a - 4096):=U_id (by omega)
 have w1:W (a - 4096)=a - 4096:=W_id (by omega)
 rw [decide_eq_false h2,u2,w1]
 by_cases h3:(n:Int) > (ws.length:Int) - (a - 4096)
 · have:P.okA ws.length a n=false:=by rw [<-Bool.not_eq_true,P.okA_iff];omega
   rw [decide_eq_true h3,this];rfl
 · have:P.okA ws.length a n=true:=by rw [P.okA_iff];omega
   rw [decide_eq_false h3,this];rfl
theorem T_arena_Index (ws:List Int) (a:Int) (hl:ws.length<=100000000) (ha:0<=a/\a < 18446744073709551616):F_arena_Index (ws,a,())=some ((P.indexV ws.length a,P.indexE ws.length a,()),()):=by
 rw [nf_arena_Index];dsimp only
 have h:F_arena_locate (ws,a,1,())=_:=T_arena_locate ws a 1 hl (by omega) ha
 rw [h];rfl
theorem T_arena_Load (ws:List Int) (a:Int) (hl:ws.length<=100000000) (ha:0<=a/\a < 18446744073709551616):F_arena_Load (ws,a,())=some ((P.loadV ws a,P.loadE ws a,()),()):=by
 rw [nf_arena_Load];dsimp only
 rw [T_arena_Index ws a hl ha,Option.bind_some]
 dsimp only
 unfold P.indexV P.indexE P.loadV P.loadE
 cases h:P.okA ws.length a 1
 · rfl
 · have:=P.okA_iff.1 h
   simp only [if_true]
   rw [inB_iff.2 ⟨by omega,by omega⟩];rfl
theorem T_bits_Unpack_S1_c (k:Nat) (ws:List Int) (hk:k < ws.length):F_bits_Unpack_S1_c ((k:Int),ws,())=some ((ws.getD k 0,()),ws,()):=by
 rw [nf_bits_Unpack_S1_c];dsimp only
 rw [inB_iff.2 ⟨by omega,by omega⟩,Int.toNat_natCast];rfl
theorem get_getD {ws:List Int} {k:Nat} (hk:k < ws.length):ws[k]?=some (ws.getD k 0):=by
 rw [List.getD_eq_getElem?_getD,List.getElem?_eq_getElem hk];rfl
theorem T_bits_fit (ws:List Int) (hl:ws.length<=100000000):Tot (fun r=>r.1.1=P.fitL 64 ws/\r.2.1=ws) (F_bits_fit_c_bits_Unpack_S1 ((ws.length:Int),ws,())):=by
 rw [nf_bits_fit_c_bits_Unpack_S1];dsimp only
 refine tot_bind (P:=fun r=>match r with
  | .inl x=>(x.1.1=false/\P.fitL 64 ws=false)/\x.2.2.1.1=ws
  | .inr x=>P.fitL 64 ws=true/\x.2.2.1.1=ws) (tot_loop (fun x=>∃ k:Nat,x.1.2.2.1=(k:Int)/\k<=ws.length/\x.2.2.1.1=ws/\0<=x.1.2.1/\x.1.2.1<=64/\P.fitL x.1.2.1 (ws.drop k)=P.fitL 64 ws) (fun x=>((ws.length:Int) - x.1.2.2.1).toNat) ⟨0,rfl,by omega,rfl,by dsimp only;omega,by dsimp only;omega,rfl⟩ ?_) fun r hr=>tot_sum (fun x hx=>?_) fun x hx=>?_
 · rintro ⟨⟨(q:Bool),(lf:Int),(i:Int),_⟩,_,⟨(l:List Int),_⟩,_⟩ ⟨k,e,hk,el,h0,h64,hp⟩
   dsimp only at e el h0 h64 hp ⊢
   rw [e,el]
   refine tot_cond (fun h1=>?_) fun h1=>tot_some ?_
   · simp only [decide_eq_true_eq] at h1
     have hk':k < ws.length:=by omega
     have hx:=get_getD hk'
     rw [T_bits_Unpack_S1_c k ws hk',Option.bind_some]
     dsimp only
     generalize ws.getD k 0=v at *
     refine tot_cond (fun h2=>tot_some ⟨⟨rfl,?_⟩,rfl⟩) fun h2=>?_
     · rw [<-hp];exact P.fitL_no hx (.inl (by simpa using h2))
     simp only [decide_eq_false_iff_not] at h2
     rw [T_bits_Unpack_S1_c k ws hk',Option.bind_some]
     have hv:ws.getD k 0=v:=by rw [List.getD_eq_getElem?_getD,hx];rfl
     dsimp only
     rw [hv]
     refine tot_cond (fun h3=>tot_some ⟨⟨rfl,?_⟩,rfl⟩) fun h3=>?_
     · rw [<-hp];exact P.fitL_no hx (.inr (by simpa using h3))
     simp only [decide_eq_false_iff_not] at h3
     rw [T_bits_Unpack_S1_c k ws hk',Option.bind_some]
     dsimp only
     rw [hv,W_id (n:=lf - v) (by omega),W_id (n:=(k:Int)+1) (by omega)]
     refine tot_some ⟨⟨k+1,by dsimp only;omega,by omega,rfl,by dsimp only;omega,by dsimp only;omega,?_⟩,by dsimp only;omega⟩
     rw [<-hp];exact (P.fitL_yes hx h2 (by omega)).symm
   · simp only [decide_eq_false_iff_not] at h1
     refine ⟨?_,rfl⟩
     rw [<-hp];exact P.fitL_end (by omega)
 · subst hx;exact tot_some ⟨hr.1.1.trans hr.1.2.symm,hr.2⟩
 · subst hx;exact tot_some ⟨hr.1.symm,hr.2⟩
theorem T_bits_Ones (n:Int):F_bits_Ones (n,())=some ((P.onesV n,()),()):=by
 rw [nf_bits_Ones];dsimp only
 by_cases h:n < 0
 · rw [decide_eq_true h,P.onesV_neg n h];rfl
 · rw [decide_eq_false h]
   have e:U (U (1*2 ^ min n.toNat IntKind.u64.bits) - 1)=P.onesV n:=by
    have hb:IntKind.u64.bits=64:=rfl
    rw [hb,Int.one_mul]
    unfold P.onesV
    by_cases hc:n.toNat < 64
    · rw [show min n.toNat 64=n.toNat from by omega]
      have h1:=P.ipow_lt64 n.toNat hc
      have h2:=P.ipow_pos2 n.toNat
      rw [U_id (n:=2 ^ n.toNat) (by omega),U_id (by omega)]
    · rw [show min n.toNat 64=64 from by omega];rfl
   rw [e];rfl
theorem uvals_get:∀ (ws:List Int) (x k:Nat) (a:Int),ws[k]?=some a->(P.uvals x ws)[k]?=some (((x >>> P.sumW (ws.take k)) &&& P.onesN a:Nat):Int)
 | [],x,k,a,h=>by simp at h
 | b :: r,x,0,a,h=>by
  simp only [List.getElem?_cons_zero,Option.some.injEq] at h
  subst h
  simp [P.uvals,P.sumW]
 | b :: r,x,k+1,a,h=>by
  rw [List.getElem?_cons_succ] at h
  rw [P.uvals,List.getElem?_cons_succ,uvals_get r _ k a h,List.take_succ_cons,P.sumW,Nat.shiftRight_add]
theorem T_bits_Unpack (x:Nat) (hx:x < 18446744073709551616) (ws:List Int) (hl:ws.length<=1000):Tot (fun r=>r.1.1=P.unpV x ws/\r.1.2.1=P.unpE x ws) (F_bits_Unpack ((x:Int),ws,())):=by
 rw [nf_bits_Unpack];dsimp only
 refine tot_bind (T_bits_fit ws (by omega)) ?_
 rintro ⟨⟨(b:Bool),_⟩,(l:List Int),_⟩ ⟨hb,el⟩
 dsimp only at hb el ⊢
 rw [hb,el]
 refine tot_cond (fun h1=>tot_some ?_) fun h1=>?_
 · simp only [Bool.not_eq_true'] at h1
   unfold P.unpV P.unpE
   rw [h1];exact ⟨rfl,rfl⟩
 simp only [Bool.not_eq_false'] at h1
 refine tot_need (decide_eq_true (by omega)) (tot_need (small_iff.2 (by omega)) ?_)
 refine tot_bind (P:=fun r=>r.1.1=((x >>> P.sumW ws:Nat):Int)/\r.2.2.1=P.uvals x ws) (tot_loop (fun y=>∃ k:Nat,y.1.2.1=(k:Int)/\k<=ws.length/\y.1.1=((x >>> P.sumW (ws.take k):Nat):Int)/\y.2.2.1.length=ws.length/\∀ j,j < k->y.2.2.1[j]?=(P.uvals x ws)[j]?) (fun y=>((ws.length:Int) - y.1.2.1).toNat) ⟨0,rfl,by omega,by simp [P.sumW],by simp,fun j hj=>by omega⟩ ?_) ?_
 · rintro ⟨⟨(v:Int),(i:Int),_⟩,_,(L:List Int),_⟩ ⟨k,e,hk,ev,hL,hj⟩
   dsimp only at e ev hL hj ⊢
   rw [e,ev]
   refine tot_cond (fun h2=>?_) fun h2=>tot_some ?_
   · simp only [decide_eq_true_eq] at h2
     have hk':k < ws.length:=by omega
     have hx':=get_getD hk'
     have hm:=P.fitL_mem ws 64 (by omega) h1 _ (List.mem_of_getElem? hx')
     rw [Int.toNat_natCast]
     generalize ws.getD k 0=a at *
     rw [T_bits_Ones,Option.bind_some]
     dsimp only
     have hin:inB (k:Int) ws.length=true:=inB_iff.2 ⟨by omega,by omega⟩
     refine tot_need hin (tot_need (inB_iff.2 ⟨by omega,by omega⟩) (tot_need hin (tot_need (by simp;omega) (tot_some ?_))))
     have hv:x >>> P.sumW (ws.take k) < 18446744073709551616:=P.shr_lt x _ hx
     have e1:bits2 IntKind.u64 (fun (x1 x2:BitVec IntKind.u64.bits)=>x1 &&& x2) ((x >>> P.sumW (ws.take k):Nat):Int) (P.onesV a)=(((x >>> P.sumW (ws.take k)) &&& P.onesN a:Nat):Int):=by
      rw [P.onesV_cast]
      exact bits_and _ _ hv (P.onesN_lt a)
     have e2:(((x >>> P.sumW (ws.take k):Nat):Int)).fdiv (2 ^ min a.toNat IntKind.u64.bits)=((x >>> P.sumW (ws.take (k+1)):Nat):Int):=by
      have hb:IntKind.u64.bits=64:=rfl
      rw [hb,show min a.toNat 64=a.toNat from by omega,<-P.ipow_cast,fdiv_cast _ _ (Nat.pow_pos (by omega)),P.sumT_snoc hx',Nat.shiftRight_add,Nat.shiftRight_eq_div_pow (x >>> _)]
     refine ⟨⟨k+1,?_,by omega,e2,?_,?_⟩,?_⟩
     · dsimp only;exact W_id (by omega)
     · dsimp only;rw [List.length_set];exact hL
     · intro j hjk
       dsimp only
       rw [e1]
       by_cases hq:j=k
       · subst hq
         rw [uvals_get ws x j a hx',List.getElem?_set_self (by omega)]
       · rw [List.getElem?_set_ne (by omega)]
         exact hj j (by omega)
     · dsimp only;rw [W_id (by omega)];omega
   · simp only [decide_eq_false_iff_not] at h2
     obtain rfl:k=ws.length:=by omega
     refine ⟨by rw [List.take_length],?_⟩
     show L=_
     refine List.ext_getElem? fun j=>?_
     by_cases hq:j < ws.length
     · exact hj j hq
     · rw [List.getElem?_eq_none (by omega),List.getElem?_eq_none (by rw [P.uvals_len];omega)]
 · rintro ⟨⟨(v:Int),_⟩,_,(L:List Int),_⟩ ⟨hv,hL⟩
   dsimp only at hv hL ⊢
   subst hv hL
   unfold P.unpV P.unpE
   rw [h1,if_pos rfl,if_pos rfl]
   refine tot_cond (fun h2=>tot_some ?_) fun h2=>tot_some ?_
   · simp only [bne_iff_ne,ne_eq] at h2
     rw [if_neg (by omega),if_neg (by omega)];exact ⟨rfl,rfl⟩
   · simp only [bne_eq_false_iff_eq] at h2
     rw [if_pos (by omega),if_pos (by omega)];exact ⟨rfl,rfl⟩
theorem T_header_Valid (k n m:Int) (hm:0<=m/\m < 4294967296):F_header_Valid ((k,n,m,()),())=some ((P.validB k n m,()),()):=by
 rw [nf_header_Valid];dsimp only
 have key:∀ {o:Option ((Bool × Unit) × Unit)},Tot (fun r=>r.1.1=P.validB k n m) o->o=some ((P.validB k n m,()),()):=fun h=>by
  obtain ⟨⟨⟨(b:Bool),_⟩,_⟩,rfl,e⟩:=h
  have e:b=P.validB k n m:=e
  rw [e]
 refine key (tot_cond (fun h=>?_) fun h=>?_)
 · simp only [beq_iff_eq] at h
   subst h
   refine tot_cond (fun h1=>tot_cond (fun h2=>?_) fun h2=>tot_some ?_) fun h1=>tot_some ?_
   · simp only [decide_eq_true_eq,ge_iff_le] at h1 h2
     rw [T_bits_Ones,Option.bind_some]
     refine tot_some ?_
     dsimp only
     rw [U_id (n:=m) (by omega)]
     by_cases h3:m<=P.onesV n
     · rw [decide_eq_true h3,P.valid_mk ⟨by omega,by omega,h1,by omega,fun _=>⟨h2,(P.ones_map h1 h2).1 h3⟩,fun c=>absurd rfl c⟩]
     · rw [decide_eq_false h3,P.map_no h1 h2 (by omega)]
   · simp only [decide_eq_false_iff_not] at h2
     exact (P.valid_no (fun c=>h2 (c.2.2.2.2.1 rfl).1)).symm
   · simp only [decide_eq_false_iff_not,ge_iff_le] at h1
     exact (P.valid_no (fun c=>h1 c.2.2.1)).symm
 · simp only [beq_eq_false_iff_ne,ne_eq] at h
   refine tot_cond (fun h1=>tot_some ?_) fun h1=>tot_some ?_
   · have hk:k=0\/k=2\/k=3:=by
      by_cases c0:k=0
      · exact .inl c0
      · by_cases c2:k=2
        · exact .inr (.inl c2)
        · rw [show (k == 0)=false from by simpa using c0,show (k == 2)=false from by simpa using c2] at h1
          simp only [cond_false,beq_iff_eq] at h1
          exact .inr (.inr h1)
     dsimp only
     have e:((k == k) && ((n == n) && ((m == 0) && true)))=(m == 0):=by simp
     rw [e]
     by_cases q1:0<=n
     · by_cases q2:n<=255
       · rw [decide_eq_true (show n >= 0 from q1),decide_eq_true q2]
         by_cases q3:m=0
         · rw [P.valid_plain hk q1 q2 q3,q3];rfl
         · rw [P.valid_no (fun c=>q3 (c.2.2.2.2.2 h))];simp [q3]
       · rw [decide_eq_true (show n >= 0 from q1),decide_eq_false q2,P.valid_no (fun c=>q2 c.2.2.2.1)];rfl
     · rw [decide_eq_false (show ¬n >= 0 from q1),P.valid_no (fun c=>q1 c.2.2.1)];rfl
   · rw [P.valid_no]
     rintro ⟨q1,q2,-⟩
     have hk:k=0\/k=2\/k=3:=by omega
     rcases hk with e | e | e <;> subst e <;> simp at h1
theorem T_header_Size (k n m:Int) (hm:0<=m/\m < 4294967296):F_header_Size ((k,n,m,()),())=some ((P.sizeV k n m,()),()):=by
 rw [nf_header_Size];dsimp only
 rw [T_header_Valid k n m hm,Option.bind_some]
 dsimp only
 cases h:P.validB k n m
 · rw [P.size_no h];rfl
 · have:=P.valid_parts h
   rw [P.size_ok h,W_id (n:=n+1) (by omega)];rfl
theorem T_header_Decode (x:Nat) (hx:x < 18446744073709551616):F_header_Decode ((x:Int),())=some (((P.decK x,P.decN x,P.decM x,()),P.okD x,()),()):=by
 rw [nf_header_Decode];dsimp only
 obtain ⟨⟨⟨(l:List Int),(e:Int),_⟩,_⟩,he,h1,h2⟩:=T_bits_Unpack x hx [2,2,12,32] (by simp)
 rw [he,Option.bind_some]
 dsimp only at h1 h2 ⊢
 have hf:P.fitL 64 [2,2,12,32]=true:=by decide
 have hs:P.sumW [2,2,12,32]=48:=by decide
 unfold P.unpV at h1
 unfold P.unpE at h2
 rw [hf,if_pos rfl,hs] at h1 h2
 by_cases hz:x >>> 48=0
 · have hz':x < 281474976710656:=by
    rw [Nat.shiftRight_eq_div_pow] at hz
    omega
   rw [if_pos hz] at h1 h2
   have uv:P.uvals x [2,2,12,32]=[((x % 4:Nat):Int),(P.dK x:Int),(P.dN x:Int),(P.dM x:Int)]:=by
    show [((x &&& P.onesN 2:Nat):Int),((x >>> 2 &&& P.onesN 2:Nat):Int),((x >>> 2 >>> 2 &&& P.onesN 12:Nat):Int),((x >>> 2 >>> 2 >>> 12 &&& P.onesN 32:Nat):Int)]=_
    rw [P.and_ones,P.and_ones,P.and_ones,P.and_ones,<-Nat.shiftRight_add,<-Nat.shiftRight_add,Nat.shiftRight_eq_div_pow,Nat.shiftRight_eq_div_pow,Nat.shiftRight_eq_div_pow]
    rfl
   rw [uv] at h1
   subst h1 h2
   have hmb:(0:Int)<=(P.dM x:Int)/\(P.dM x:Int) < 4294967296:=by unfold P.dM;omega
   have w1:W (P.dK x:Int)=P.dK x:=W_id (by unfold P.dK;omega)
   have w2:W (P.dN x:Int)=P.dN x:=W_id (by unfold P.dN;omega)
   have w3:U32 (P.dM x:Int)=P.dM x:=by rw [U32,IntKind.wrap_u32];omega
   have i0:∀ a b c d:Int,inB 0 ([a,b,c,d]:List Int).length=true:=fun _ _ _ _=>rfl
   have i1:∀ a b c d:Int,inB 1 ([a,b,c,d]:List Int).length=true:=fun _ _ _ _=>rfl
   have i2:∀ a b c d:Int,inB 2 ([a,b,c,d]:List Int).length=true:=fun _ _ _ _=>rfl
   have i3:∀ a b c d:Int,inB 3 ([a,b,c,d]:List Int).length=true:=fun _ _ _ _=>rfl
   have g0:∀ a b c d:Int,([a,b,c,d]:List Int).getD (Int.toNat 0) 0=a:=fun _ _ _ _=>rfl
   have g1:∀ a b c d:Int,([a,b,c,d]:List Int).getD (Int.toNat 1) 0=b:=fun _ _ _ _=>rfl
   have g2:∀ a b c d:Int,([a,b,c,d]:List Int).getD (Int.toNat 2) 0=c:=fun _ _ _ _=>rfl
   have g3:∀ a b c d:Int,([a,b,c,d]:List Int).getD (Int.toNat 3) 0=d:=fun _ _ _ _=>rfl
   simp only [i0,i1,i2,i3,g0,g1,g2,g3,w1,w2,w3,T_header_Valid _ _ _ hmb,Option.bind_some,bne_self_eq_false,cond_false,cond_true]
   by_cases h4:x % 4=1
   · rw [h4]
     cases hv:P.validB (P.dK x) (P.dN x) (P.dM x)
     · have hok:=P.okD_no (x:=x) (.inr (.inr hv))
       obtain ⟨f1,f2,f3⟩:=P.dec_no hok
       rw [hok,f1,f2,f3];rfl
     · have hok:=P.okD_mk h4 hz' hv
       obtain ⟨f1,f2,f3⟩:=P.dec_ok hok
       rw [hok,f1,f2,f3];rfl
   · have hok:=P.okD_no (x:=x) (.inl h4)
     obtain ⟨f1,f2,f3⟩:=P.dec_no hok
     have:((((x % 4:Nat):Int)) != 1)=true:=by simp;omega
     rw [this,hok,f1,f2,f3];rfl
 · have hz':¬x < 281474976710656:=by
    intro c
    apply hz
    rw [Nat.shiftRight_eq_div_pow]
    omega
   rw [if_neg hz] at h1 h2
   subst h1 h2
   have hok:=P.okD_no (x:=x) (.inr (.inl hz'))
   obtain ⟨f1,f2,f3⟩:=P.dec_no hok
   rw [hok,f1,f2,f3];rfl
theorem T_object_fits (k s u p o n:Int) (ho:0<=o/\o<=100000000) (hn:0<=n/\n<=100000000):F_object_fits ((k,s,u,p,()),o,n,())=some (((if k=1 then decide (o+n<=u) else if k=2 then decide (o=0/\n=u) else false),()),()):=by
 rw [nf_object_fits];dsimp only
 rw [W_id (n:=o+n) (by omega)]
 by_cases h1:k=1
 · subst h1;rfl
 · rw [if_neg h1,show (k == 1)=false from by simpa using h1]
   by_cases h2:k=2
   · subst h2
     rw [if_pos rfl,Bool.decide_and]
     simp only [cand];rfl
   · rw [if_neg h2,show (k == 2)=false from by simpa using h2];rfl
end Go.VI
namespace Go.VI
open Go
theorem X_made_World_Spoil (n:Nat) (d:WdD) (hm:Mk n d) (l:List Int) (a:Int) (h0:0<=a) (h1:a<=1000000) :
 Tot (fun (r:(WdD × Unit) × (List Int × Int × Unit) × Unit)=>HpW r.1.1.1) (F_made_World_Spoil (d,(l,a,()),())):=by
 obtain ⟨⟨⟨pw,np,_⟩,ws,ps,sp,bu,_⟩,st,wk,_⟩:=d
 have L:=hm.lens
 have hw:=hm.hw
 have hcf:P.confB pw np=true:=L.conf
 have c3:=P.conf_parts hcf
 obtain ⟨cp1,cp2⟩:=P.conf_prod hcf
 have hwl:(ws.length:Int)=np*pw:=L.words
 have hlm:(ps.map toPg).length=ps.length:=List.length_map ..
 have hpn:(ps.length:Int)=np:=by have:=L.pages;rw [<-hlm];exact this
 have hwb:WBo ws:=hm.wb
 have fin:∀ (cf:CfD) (ws':List Int) (ps':List PgD) (s b:Int) (tp:List Int × Int × Unit),ws'.length<=100000000->ps'.length<=100000000->WBo ws'->Tot (fun (r:(WdD × Unit) × (List Int × Int × Unit) × Unit)=>HpW r.1.1.1) (some ((((cf,ws',ps',s,b,()),st,wk,()),()),tp,())):=fun cf ws' ps' s b tp q1 q2 q3=>tot_some ⟨q1,q2,q3⟩
 have setW:∀ (i:Nat) (v:Int),0<=v/\v < 18446744073709551616->(ws.set i v).length<=100000000/\WBo (ws.set i v):=fun i v hv=>⟨by rw [List.length_set];omega,hwb.set hv⟩
 have setP:∀ (i:Nat) (v:PgD),(ps.set i v).length<=100000000:=fun i v=>by rw [List.length_set];omega
 rw [nf_made_World_Spoil];dsimp only
 refine tot_need (small_iff.2 (by omega)) (tot_need (small_iff.2 (by omega)) (tot_bind (T_made_Tape_Next l a (ws.length:Int) h0 (by omega) (by omega)) ?_))
 rintro ⟨⟨(wi:Int),_⟩,⟨(l1:List Int),(a1:Int),_⟩,_⟩ g1
 have q1:=g1.lo;have q2:=g1.hi (by omega);have q4:=g1.a0;have q5:=g1.a1
 dsimp only at q1 q2 q4 q5 ⊢
 refine tot_bind (T_made_Tape_Next l1 a1 (ps.length:Int) (by omega) (by omega) (by omega)) ?_
 rintro ⟨⟨(pi:Int),_⟩,⟨(l2:List Int),(a2:Int),_⟩,_⟩ g2
 have r1:=g2.lo;have r2:=g2.hi (by omega);have r4:=g2.a0;have r5:=g2.a1
 dsimp only at r1 r2 r4 r5 ⊢
 refine tot_bind (T_made_Tape_Next l2 a2 12 (by omega) (by omega) (by omega)) ?_
 rintro ⟨⟨(v:Int),_⟩,⟨(l3:List Int),(a3:Int),_⟩,_⟩ g3
 have s4:=g3.a0;have s5:=g3.a1
 dsimp only at s4 s5 ⊢
 have hiw:inB wi ws.length=true:=inB_iff.2 ⟨q1,q2⟩
 have hip:inB pi ps.length=true:=inB_iff.2 ⟨r1,r2⟩
 have next:∀ m:Int,1<=m->m<=1000->Tot (fun r=>0<=(r.1.1:Int)/\(r.1.1:Int) < m) (F_made_Tape_Next ((l3,a3,()),m,())):=fun m m0 m1=>(T_made_Tape_Next l3 a3 m (by omega) (by omega) (by omega)).mono fun r hr=>⟨hr.lo,hr.hi m0⟩
 refine tot_cond (fun _=>?_) fun _=>tot_need (need_if fun _=>hiw) (tot_cond (fun _=>?_) fun _=>tot_cond (fun _=>?_) fun _=>tot_cond (fun _=>?_) fun _=>tot_need (need_if fun _=>hip) (tot_cond (fun _=>?_) fun _=>tot_cond (fun _=>?_) fun _=>tot_cond (fun _=>?_) fun _=>tot_cond (fun _=>?_) fun _=>tot_need ?_ (tot_cond (fun _=>?_) fun _=>tot_cond (fun _=>?_) fun _=>tot_cond (fun _=>?_) fun _=>?_)))
 · refine tot_bind (next 10 (by omega) (by omega)) ?_
   rintro ⟨⟨(u:Int),_⟩,tp,_⟩ ⟨u0,u1⟩
   dsimp only at u0 u1 ⊢
   have hv:∀ x∈[(0:Int),1,5,21,4096,4097,4112,16386,1099511627776,61],0<=x/\x < 18446744073709551616:=by
    intro x hx
    simp only [List.mem_cons,List.not_mem_nil,or_false] at hx
    omega
   have hs:=setW wi.toNat _ (hv _ (getD_mem (d:=0) (i:=u.toNat) (by simp only [List.length_cons,List.length_nil];omega)))
   exact tot_need (inB_iff.2 ⟨u0,by simp only [List.length_cons,List.length_nil];omega⟩) (tot_need hiw (fin _ _ _ _ _ _ hs.1 (by omega) hs.2))
 · refine tot_bind (next 64 (by omega) (by omega)) ?_
   rintro ⟨⟨(u:Int),_⟩,tp,_⟩ ⟨u0,u1⟩
   dsimp only at u0 u1 ⊢
   have hbx:∀ x y:Int,0<=bits2 IntKind.u64 (fun (x1 x2:BitVec IntKind.u64.bits)=>x1 ^^^ x2) x y/\bits2 IntKind.u64 (fun (x1 x2:BitVec IntKind.u64.bits)=>x1 ^^^ x2) x y < 18446744073709551616:=fun x y=>U_range _
   have hs:=setW wi.toNat _ (hbx (ws.getD wi.toNat 0) (U (1*2 ^ min (U u).toNat IntKind.u64.bits)))
   refine tot_need ?_ (tot_need hiw (fin _ _ _ _ _ _ hs.1 (by omega) hs.2))
   have:=U_range u
   simp only [Bool.not_eq_true',decide_eq_false_iff_not];omega
 · refine tot_bind (next 5 (by omega) (by omega)) fun r hr=>tot_need hip (fin _ _ _ _ _ _ (by omega) (setP _ _) hwb)
 · refine tot_bind (next 3 (by omega) (by omega)) fun r hr=>tot_need hip (fin _ _ _ _ _ _ (by omega) (setP _ _) hwb)
 · refine tot_bind (next 9 (by omega) (by omega)) fun r hr=>tot_need hip (fin _ _ _ _ _ _ (by omega) (setP _ _) hwb)
 · refine tot_bind (next 3 (by omega) (by omega)) fun r hr=>tot_need hip (fin _ _ _ _ _ _ (by omega) (setP _ _) hwb)
 · refine tot_bind (next 3 (by omega) (by omega)) fun r hr=>fin _ _ _ _ _ _ (by omega) (by omega) hwb
 · have w:W ((ps.length:Int)+2)=ps.length+2:=W_id (by omega)
   rw [w]
   refine tot_bind (next ((ps.length:Int)+2) (by omega) (by omega)) fun r hr=>fin _ _ _ _ _ _ (by omega) (by omega) hwb
 · cases (v == 9) <;> cases (v == 10) <;> first | rfl | exact decide_eq_true (by omega)
 · exact fin _ _ _ _ _ _ (by omega) (by omega) hwb
 · exact fin _ _ _ _ _ _ (by omega) (by rw [List.length_take,List.length_drop];omega) hwb
 · refine tot_bind (P:=fun r=>r.2.2.1.length=ps.length) (tot_loop (fun x=>0<=x.1.1/\x.1.1<=(ps.length:Int)/\x.2.2.1.length=ps.length) (fun x=>((ps.length:Int) - x.1.1).toNat) ?_ ?_) ?_
   · exact ⟨by dsimp only;omega,by dsimp only;omega,rfl⟩
   · rintro ⟨⟨(i:Int),_⟩,_,(qs:List PgD),_⟩ ⟨i0,i1,i2⟩
     dsimp only at i0 i1 i2 ⊢
     refine tot_cond (fun h=>?_) fun _=>tot_some i2
     simp only [decide_eq_true_eq] at h
     have hi:inB i qs.length=true:=inB_iff.2 ⟨i0,h⟩
     have w:W (i+1)=i+1:=W_id (by omega)
     rw [w]
     refine tot_need hi (tot_need (need_if fun _=>hi) (tot_cond (fun _=>tot_some ?_) fun _=>tot_some ?_))
     · simp only [Sum.elim_inl]
       exact ⟨⟨by omega,by omega,by rw [List.length_set];exact i2⟩,by omega⟩
     · simp only [Sum.elim_inl]
       exact ⟨⟨by omega,by omega,i2⟩,by omega⟩
   · rintro ⟨_,_,(qs:List PgD),_⟩ hq
     dsimp only at hq ⊢
     exact fin _ _ _ _ _ _ (by omega) (by omega) hwb
 · exact fin _ _ _ _ _ _ (by omega) (by omega) hwb
end Go.VI
namespace Go.VI
open Go
theorem need_or {c e:Bool} (h:e=true):(bif c then true else e)=true:=by subst h;cases c <;> rfl
theorem T_object_reader (h:HpD):F_object_reader (h,())=some (((h,()),()),()):=by
 rw [nf_object_reader]
theorem T_object_reader_S1_c (h:HpD) (hw:HpW h) (a:Int) (ha:0<=a/\a < 18446744073709551616):F_object_reader_S1_c (a,h,())=some ((P.loadV h.2.1 a,P.loadE h.2.1 a,()),h,()):=by
 rw [nf_object_reader_S1_c];dsimp only
 rw [T_arena_Load _ _ hw.wl ha,Option.bind_some]
theorem in_arena {h:HpD} (hw:HpW h) (hok:P.okH (toHp h)=true) {a:Int} (hof:P.ofE (toHp h).pw (toHp h).np a=0) :
 (0<=P.ofI (toHp h).pw (toHp h).np a/\P.ofI (toHp h).pw (toHp h).np a < h.2.2.1.length)/\(0<=P.ofK (toHp h).pw (toHp h).np a/\P.ofK (toHp h).pw (toHp h).np a<=64)/\P.loadE h.2.1 a=0/\P.loadV h.2.1 a=P.wordAt (toHp h) a/\P.wordAt (toHp h) a < 18446744073709551616:=by
 obtain ⟨q1,⟨i,j,e1,e2,e3,e4,e5⟩,-⟩:=P.of_in hok hof
 have hlm:(toHp h).pages.length=h.2.2.1.length:=List.length_map ..
 have c:=P.conf_parts (P.okH_parts hok).1
 have hwb:P.WB (toHp h).words:=hw.wb
 obtain ⟨w1,w2,w3⟩:=P.word_of hwb hok hof
 rw [e1,e2]
 exact ⟨by omega,by omega,w2,w1,w3⟩
theorem T_object_At (h:HpD) (hw:HpW h) (a:Int) (ha:0<=a/\a < 18446744073709551616):Tot (fun r=>r.1.2.1=P.atE (toHp h) a/\toHd r.1.1=P.atH (toHp h) a) (F_object_At (h,a,())):=by
 obtain ⟨⟨pw,np,_⟩,ws,ps,sp,bu,_⟩:=h
 rw [nf_object_At];dsimp only
 generalize hX:toHp ((pw,np,()),ws,ps,sp,bu,())=X
 have bad:∀ (c:Int),P.atE X a=c/\P.atH X a=P.Hd.zero->Tot (fun r:((Int × Int × Int × Unit) × Int × Unit) × Unit=>r.1.2.1=P.atE X a/\toHd r.1.1=P.atH X a) (some (((0,0,0,()),c,()),())):=fun c he=>tot_some ⟨he.1.symm,he.2.symm⟩
 refine tot_bind (T_page_Proper _ hw) ?_
 rintro ⟨⟨(b:Bool),_⟩,_⟩ hb
 have hb:b=P.okH X:=hX ▸ hb
 subst hb
 refine tot_cond (fun h1=>bad 1 (P.atE_bad (by simpa using h1))) fun h1=>?_
 simp only [Bool.not_eq_false'] at h1
 have xw:X.pw=pw:=hX ▸ rfl
 have xn:X.np=np:=hX ▸ rfl
 have hc:=(P.okH_parts h1).1
 rw [xw,xn] at hc
 rw [T_page_Of pw np a ha,Option.bind_some]
 dsimp only
 refine tot_cond (fun h2=>?_) fun h2=>?_
 · simp only [bne_iff_ne,ne_eq] at h2
   have e2:P.ofE pw np a=2:=by
    cases hq:P.inAr pw np a
    · exact (P.of_out (a:=a) hc hq).2.2
    · exact absurd (P.of_ok hc hq).2.2 h2
   rw [e2]
   exact bad 2 (P.atE_out h1 (by rw [xw,xn];exact h2))
 simp only [bne_eq_false_iff_eq] at h2
 have hof:P.ofE X.pw X.np a=0:=by rw [xw,xn];exact h2
 have I:=in_arena hw (hX ▸ h1) (a:=a) (hX ▸ hof)
 rw [hX,xw,xn] at I
 obtain ⟨hi,ho,l1,l2,hy⟩:=I
 dsimp only at hi l1 l2
 rw [T_object_reader,Option.bind_some]
 dsimp only
 rw [T_object_reader_S1_c _ hw a ha,Option.bind_some]
 dsimp only
 rw [l1,l2]
 refine tot_cond (fun c=>by simp at c) fun _=>?_
 have hpg:P.pageOf X a=toPg (ps.getD (P.ofI pw np a).toNat PG0):=by
  unfold P.pageOf
  rw [xw,xn]
  have:X.pages=ps.map toPg:=hX ▸ rfl
  rw [this,map_getD]
 have hatB:P.atB X a=atBx (P.pageOf X a).kind (P.pageOf X a).used (P.ofK X.pw X.np a) (P.wordAt X a):=rfl
 rw [hpg,xw,xn] at hatB
 have hH:=P.atE_ok h1 hof
 have hN:=P.atE_no h1 hof
 rw [hatB] at hH hN
 generalize P.wordAt X a=y at *
 generalize P.ofK pw np a=o at *
 rw [T_header_Decode y hy,Option.bind_some]
 dsimp only
 refine tot_need (need_or (inB_iff.2 hi)) ?_
 generalize ps.getD (P.ofI pw np a).toNat PG0=G at *
 obtain ⟨gk,gs,gu,gp,_⟩:=G
 have hab:atBx (toPg (gk,gs,gu,gp,())).kind (toPg (gk,gs,gu,gp,())).used o y=atBx gk gu o y:=rfl
 rw [hab] at hH hN
 unfold atBx at hH hN
 refine tot_cond (fun h3=>bad 19 (hN ?_)) fun h3=>?_
 · simp only [Bool.not_eq_true'] at h3
   rw [h3];simp
 simp only [Bool.not_eq_false'] at h3
 obtain ⟨d1,d2,d3⟩:=P.okD_parts h3
 obtain ⟨f1,f2,f3⟩:=P.dec_ok h3
 have hmb:(0:Int)<=(P.dM y:Int)/\(P.dM y:Int) < 4294967296:=by unfold P.dM;omega
 have vp:=P.valid_parts d3
 rw [f1,f2,f3,T_header_Size _ _ _ hmb,Option.bind_some,P.size_ok d3]
 dsimp only
 rw [T_object_fits gk gs gu gp o _ (by omega) (by omega),Option.bind_some]
 dsimp only
 refine tot_cond (fun h4=>bad 19 (hN ?_)) fun h4=>tot_some ?_
 · by_cases k1:gk=1
   · subst k1
     simp only [if_true,Bool.not_eq_true'] at h4 ⊢
     rw [h4];simp
   · rw [if_neg k1] at h4 ⊢
     by_cases k2:gk=2
     · subst k2
       simp only [if_true,Bool.not_eq_true'] at h4 ⊢
       rw [h4];simp
     · rw [show decide (gk=1\/gk=2)=false from decide_eq_false (by omega)];rfl
 · have:(decide (gk=1\/gk=2) && decide (o < gu) && P.okD y && if gk=1 then decide (o+((P.dN y:Int)+1)<=gu) else decide (o=0/\(P.dN y:Int)+1=gu))=true:=by
    by_cases k1:gk=1
    · subst k1
      simp only [if_true,Bool.not_eq_false',decide_eq_true_eq] at h4
      rw [h3,decide_eq_true (show o < gu by omega),if_pos rfl,decide_eq_true h4];rfl
    · rw [if_neg k1] at h4
      by_cases k2:gk=2
      · subst k2
        simp only [if_true,Bool.not_eq_false',decide_eq_true_eq] at h4
        rw [h3,decide_eq_true (show o < gu by omega),if_neg k1,decide_eq_true h4];rfl
      · rw [if_neg k2] at h4;simp at h4
   obtain ⟨g1,g2⟩:=hH this
   rw [g1,g2]
   exact ⟨rfl,rfl⟩
theorem T_object_Get (h:HpD) (hw:HpW h) (a:Int) (ha:0<=a/\a < 18446744073709551616):Tot (fun r=>r.1.2.1=P.getE (toHp h) a/\toHd r.1.1=P.getH (toHp h) a) (F_object_Get (h,a,())):=by
 rw [nf_object_Get];dsimp only
 rw [toHp_eta]
 refine tot_bind (T_object_At h hw a ha) ?_
 rintro ⟨⟨⟨(k:Int),(n:Int),(m:Int),_⟩,(e:Int),_⟩,_⟩ hr
 dsimp only at hr ⊢
 obtain ⟨r1,r2⟩:=hr
 have r2:P.atH (toHp h) a=⟨k,n,m⟩:=r2.symm
 generalize toHp h=X at *
 have out:∀ (c:Int),¬c=0->P.getE X a=c->Tot (fun r:((Int × Int × Int × Unit) × Int × Unit) × Unit=>r.1.2.1=P.getE X a/\toHd r.1.1=P.getH X a) (some (((0,0,0,()),c,()),())):=fun c h0 he=>by
  refine tot_some ⟨he.symm,?_⟩
  unfold P.getH;rw [if_neg (by rw [he];exact h0)];rfl
 simp only [cand]
 cases hok:P.okH X
 · have g:=P.getE_bad (h:=X) (a:=a) hok
   have t:=P.atE_bad (h:=X) (a:=a) hok
   rw [t.1] at r1
   rw [t.2] at r2
   subst r1
   simp only [P.Hd.zero,P.Hd.mk.injEq] at r2
   obtain ⟨e1,e2,e3⟩:=r2
   subst e1 e2 e3
   exact out 1 (by decide) g.1
 by_cases h0:a=0
 · subst h0
   have g:=P.getE_null (h:=X) hok
   have c:=P.conf_parts (P.okH_parts hok).1
   have hno:¬P.ofE X.pw X.np 0=0:=by
    rw [(P.of_out (a:=0) (P.okH_parts hok).1 (by unfold P.inAr;exact decide_eq_false (by omega))).2.2];decide
   have t:=P.atE_out (h:=X) (a:=0) hok hno
   rw [t.1] at r1
   subst r1
   exact out 5 (by decide) g.1
 have h0':(a == 0)=false:=by simpa using h0
 rw [h0',Bool.and_false]
 refine tot_cond (fun c=>by simp at c) fun _=>tot_cond (fun h3=>out 4 (by decide) ?_) fun h3=>tot_some ?_
 · simp only [Bool.and_eq_true,beq_iff_eq] at h3
   exact (P.getE_kind hok h0 (by rw [<-r1];exact h3.1) (by rw [r2];exact h3.2)).1
 · obtain ⟨g1,g2⟩:=P.getE_at (a:=a) hok h0 (by
    rintro ⟨q1,q2⟩
    rw [r2] at q2
    rw [<-r1] at q1
    have q2:k=0:=q2
    rw [q1,q2] at h3
    simp at h3)
   rw [g1,g2,r1,r2]
   exact ⟨rfl,rfl⟩
theorem T_object_locate (h:HpD) (hw:HpW h) (a i:Int) (ha:0<=a/\a < 18446744073709551616) (hi : -9223372036854775808<=i/\i < 9223372036854775808):Tot (fun r=>(r.1.2.1=if P.getE (toHp h) a=0 then (if i < 0\/(P.getH (toHp h) a).n<=i then 2 else 0) else P.getE (toHp h) a)/\(r.1.2.1=0->r.1.1=a+1+i)) (F_object_locate (h,a,i,())):=by
 rw [nf_object_locate];dsimp only
 rw [toHp_eta]
 refine tot_bind (T_object_Get h hw a ha) ?_
 rintro ⟨⟨⟨(k:Int),(n:Int),(m:Int),_⟩,(e:Int),_⟩,_⟩ hr
 dsimp only at hr ⊢
 obtain ⟨r1,r2⟩:=hr
 have r2:P.getH (toHp h) a=⟨k,n,m⟩:=r2.symm
 rw [<-r1,r2]
 refine tot_cond (fun h1=>tot_some ?_) fun h1=>?_
 · simp only [bne_iff_ne,ne_eq] at h1
   rw [if_neg h1]
   exact ⟨rfl,fun c=>absurd c h1⟩
 simp only [bne_eq_false_iff_eq] at h1
 rw [if_pos h1,cor]
 have g:=P.getE_in (h:=toHp h) (a:=a) (by rw [<-r1];exact h1)
 rw [r2] at g
 have gn:0<=n/\n<=255:=⟨g.2.2.2.2.2.2.2.1,g.2.2.2.2.2.2.2.2.1⟩
 refine tot_cond (fun h2=>tot_some ?_) fun h2=>tot_some ?_
 · simp only [Bool.or_eq_true,decide_eq_true_eq,ge_iff_le] at h2
   rw [if_pos h2]
   exact ⟨rfl,fun c=>by cases c⟩
 · simp only [Bool.or_eq_false_iff,decide_eq_false_iff_not,ge_iff_le] at h2
   rw [if_neg (by rintro (c | c);exact h2.1 c;exact h2.2 c)]
   refine ⟨rfl,fun _=>?_⟩
   have ga:4096<=a/\a < 8192:=⟨g.2.2.2.2.2.1,g.2.2.2.2.2.2.1⟩
   dsimp only
   rw [U_id (n:=i) (by omega),U_id (n:=a+1) (by omega),U_id (by omega)]
theorem T_object_Field (h:HpD) (hw:HpW h) (a i:Int) (ha:0<=a/\a < 18446744073709551616) (hi : -9223372036854775808<=i/\i < 9223372036854775808):Tot (fun r=>r.1.1=P.fieldV (toHp h) a i/\r.1.2.1=P.fieldE (toHp h) a i) (F_object_Field (h,a,i,())):=by
 rw [nf_object_Field];dsimp only
 rw [toHp_eta]
 refine tot_bind (T_object_locate h hw a i ha hi) ?_
 rintro ⟨⟨(at':Int),(e:Int),_⟩,_⟩ ⟨hr,h2⟩
 dsimp only at hr h2 ⊢
 unfold P.fieldV P.fieldE
 refine tot_cond (fun h1=>tot_some ?_) fun h1=>?_
 · simp only [bne_iff_ne,ne_eq] at h1
   by_cases g:P.getE (toHp h) a=0
   · rw [if_pos g] at hr ⊢
     rw [if_pos g]
     by_cases c:i < 0\/(P.getH (toHp h) a).n<=i
     · rw [if_pos c] at hr ⊢
       rw [if_pos c]
       exact ⟨rfl,hr⟩
     · rw [if_neg c] at hr;exact absurd hr h1
   · rw [if_neg g] at hr ⊢
     rw [if_neg g]
     exact ⟨rfl,hr⟩
 · simp only [bne_eq_false_iff_eq] at h1
   have h2:=h2 h1
   have g:P.getE (toHp h) a=0:=Decidable.by_contra fun g=>by rw [if_neg g,h1] at hr;exact g hr.symm
   rw [if_pos g] at hr
   have c:¬(i < 0\/(P.getH (toHp h) a).n<=i):=fun c=>by rw [if_pos c,h1] at hr;cases hr
   rw [if_pos g,if_pos g,if_neg c,if_neg c]
   have gi:=P.getE_in g
   rw [T_object_reader,Option.bind_some]
   dsimp only
   subst h2
   have e:toHp h=toHp h:=rfl
   rw [toHp_eta,T_object_reader_S1_c h hw (a+1+i) (by omega),Option.bind_some]
   exact tot_some ⟨rfl,rfl⟩
theorem T_l05_awake:F_l05_awake ()=some ((true,()),()):=by
 have key:∀ {o:Option ((Bool × Unit) × Unit)},Tot (fun r=>r.1.1=true) o->o=some ((true,()),()):=fun h=>by
  obtain ⟨⟨⟨(b:Bool),_⟩,_⟩,rfl,e⟩:=h
  have e:b=true:=e
  rw [e]
 refine key ?_
 rw [nf_l05_awake];dsimp only
 refine tot_bind (X_r04_New 16 8 (by decide)) ?_
 rintro ⟨⟨⟨⟨(pw:Int),(np:Int),_⟩,(ws:List Int),(ps:List PgD),(sp:Int),(bu:Int),_⟩,(e:Int),_⟩,_⟩ ⟨h1,h2⟩
 have hn:P.newHV 16 8=⟨16,8,List.replicate 128 0,List.replicate 8 P.Pg.zero,0,-1⟩:=(P.newH_ok (pw:=16) (np:=8) (by decide)).1.trans rfl
 rw [hn] at h1
 simp only [toHp,P.Hp.mk.injEq] at h1
 obtain ⟨e1,e2,e3,e4,e5,e6⟩:=h1
 subst e1 e2 e3 e5 e6
 have hpl:ps.length=8:=by rw [<-List.length_map (f:=toPg),e4];rfl
 dsimp only
 refine tot_need (inB_iff.2 ⟨by omega,by omega⟩) (tot_need (by decide) (tot_need (by decide) ?_))
 generalize hW:((List.replicate 128 (0:Int)).set (Int.toNat 0) 29).set (Int.toNat 1) 55=w2
 have hw:HpW ((16,8,()),w2,ps.set (Int.toNat 0) (1,0,2,0,()),0,-1,()):=by
  subst hW
  exact ⟨by simp,by simp [hpl],((WBo.set (WBo.set (P.WB.zeros 128) (by omega)) (by omega)))⟩
 have hT:toHp ((16,8,()),w2,ps.set (Int.toNat 0) (1,0,2,0,()),0,-1,())=⟨16,8,w2,(List.replicate 8 P.Pg.zero).set 0 ⟨1,0,2,0⟩,0,-1⟩:=by
  simp only [toHp,P.Hp.mk.injEq,true_and,and_true]
  rw [List.map_set,e4];rfl
 refine tot_bind (T_object_Get _ hw 4096 (by omega)) ?_
 rintro ⟨⟨⟨(k:Int),(n:Int),(m:Int),_⟩,(e:Int),_⟩,_⟩ hr
 refine tot_bind (T_object_Field _ hw 4096 0 (by omega) (by omega)) ?_
 rintro ⟨⟨(v:Int),(e':Int),_⟩,_⟩ hs
 dsimp only at hr hs ⊢
 rw [hT,<-hW] at hr hs
 obtain ⟨r1,r2⟩:=hr
 obtain ⟨s1,s2⟩:=hs
 have q1:P.getE ⟨16,8,((List.replicate 128 (0:Int)).set (Int.toNat 0) 29).set (Int.toNat 1) 55,(List.replicate 8 P.Pg.zero).set 0 ⟨1,0,2,0⟩,0,-1⟩ 4096=0:=by decide +kernel
 have q2:P.getH ⟨16,8,((List.replicate 128 (0:Int)).set (Int.toNat 0) 29).set (Int.toNat 1) 55,(List.replicate 8 P.Pg.zero).set 0 ⟨1,0,2,0⟩,0,-1⟩ 4096=⟨3,1,0⟩:=by decide +kernel
 have q3:P.fieldV ⟨16,8,((List.replicate 128 (0:Int)).set (Int.toNat 0) 29).set (Int.toNat 1) 55,(List.replicate 8 P.Pg.zero).set 0 ⟨1,0,2,0⟩,0,-1⟩ 4096 0=55:=by decide +kernel
 have q4:P.fieldE ⟨16,8,((List.replicate 128 (0:Int)).set (Int.toNat 0) 29).set (Int.toNat 1) 55,(List.replicate 8 P.Pg.zero).set 0 ⟨1,0,2,0⟩,0,-1⟩ 4096 0=0:=by decide +kernel
 rw [q1] at r1
 rw [q2] at r2
 rw [q3] at s1
 rw [q4] at s2
 simp only [toHd,P.Hd.mk.injEq] at r2
 obtain ⟨t1,t2,t3⟩:=r2
 subst r1 s1 s2 t1 t2 t3
 exact tot_some rfl
theorem T_made_Light (h:HpD):F_made_Light (h,())=some ((decide (h.2.1.length<=5000/\h.2.2.1.length<=100),()),()):=by
 rw [nf_made_Light];dsimp only
 rw [cand,Bool.decide_and]
 have e1:decide ((h.2.1.length:Int)<=5000)=decide (h.2.1.length<=5000):=decide_eq_decide.2 (by omega)
 have e2:decide ((h.2.2.1.length:Int)<=100)=decide (h.2.2.1.length<=100):=decide_eq_decide.2 (by omega)
 rw [e1,e2]
theorem T_l05_heaps (raw:HpD) (hr:WBo raw.2.1) (tape odd:List Int):Tot (fun (r:(List HpD × Unit) × Unit)=>r.1.1.length<=3/\∀ h∈r.1.1,HpW h) (F_l05_heaps (raw,tape,odd,())):=by
 rw [nf_l05_heaps];dsimp only
 refine tot_bind (X_made_Make tape) ?_
 rintro ⟨⟨⟨⟨⟨pw,np,_⟩,ws,ps,sp,bu,_⟩,st,wk,_⟩,_⟩,_⟩ ⟨n,hm⟩
 have hw:=hm.hw
 dsimp only at hm hw ⊢
 refine tot_bind (X_made_World_Spoil n _ hm odd 0 (by omega) (by omega)) ?_
 rintro ⟨⟨⟨⟨⟨pw',np',_⟩,ws',ps',sp',bu',_⟩,st',wk',_⟩,_⟩,_⟩ hw'
 dsimp only at hw' ⊢
 obtain ⟨⟨rpw,rnp,_⟩,rws,rps,rsp,rbu,_⟩:=raw
 rw [T_made_Light,Option.bind_some]
 dsimp only at hr ⊢
 refine tot_need (need_if fun _=>small_iff.2 (by simp)) (tot_cond (fun h1=>tot_some ⟨by simp,?_⟩) fun h1=>tot_some ⟨by simp,?_⟩)
 · simp only [decide_eq_true_eq] at h1
   intro h hh
   simp only [List.cons_append,List.nil_append,List.mem_cons,List.not_mem_nil,or_false] at hh
   rcases hh with e | e | e
   · rw [e];exact hw
   · rw [e];exact hw'
   · rw [e];exact ⟨by dsimp only;omega,by dsimp only;omega,hr⟩
 · intro h hh
   simp only [List.mem_cons,List.not_mem_nil,or_false] at hh
   rcases hh with e | e
   · rw [e];exact hw
   · rw [e];exact hw'
theorem T_l05_near (h:HpD) (hw:HpW h) (a:Int) (ha:0<=a/\a < 18446744073709551616):Tot (fun (r:(List Int × Unit) × Unit)=>r.1.1.length<=5/\WBo r.1.1) (F_l05_near (h,a,())):=by
 rw [nf_l05_near];dsimp only
 rw [toHp_eta]
 refine tot_bind (X_r06_Starts h hw) ?_
 rintro ⟨⟨(l:List Int),(e:Int),_⟩,_⟩ ⟨h1,h2⟩
 dsimp only at h1 ⊢
 have hll:l.length<=4096:=by rw [h1];exact P.startsV_len _
 have hlb:WBo l:=by rw [h1];exact P.startsV_wb _
 rw [U_id (n:=(l.length:Int)) (by omega)]
 have b1:=U_range (4096+a.tmod 5000)
 refine tot_need rfl (tot_need ?_ (tot_need ?_ (tot_need ?_ (tot_cond (fun h3=>tot_some ⟨by simp,?_⟩) fun h3=>tot_some ⟨by simp,?_⟩))))
 · refine need_if fun h3=>?_
   simp only [decide_eq_true_eq] at h3
   rw [Bool.not_eq_true',beq_eq_false_iff_ne];omega
 · refine need_if fun h3=>?_
   simp only [decide_eq_true_eq] at h3
   rw [Int.tmod_eq_emod_of_nonneg (by omega)]
   exact inB_iff.2 ⟨Int.emod_nonneg _ (by omega),Int.emod_lt_of_pos _ (by omega)⟩
 · exact need_if fun _=>small_iff.2 (by simp)
 · have b2:=WBo.getD hlb (a.tmod (l.length:Int)).toNat
   have b3:=U_range (l.getD (a.tmod (l.length:Int)).toNat 0+1)
   intro x hx
   simp only [List.cons_append,List.nil_append,List.mem_cons,List.not_mem_nil,or_false] at hx
   rcases hx with e | e | e | e | e <;> rw [e]
   · exact ha
   · omega
   · exact b1
   · exact b2
   · exact b3
 · intro x hx
   simp only [List.mem_cons,List.not_mem_nil,or_false] at hx
   rcases hx with e | e | e <;> rw [e]
   · exact ha
   · omega
   · exact b1
end Go.VI
namespace Go.VI
open Go
theorem toPg_inj {x y:PgD} (h:toPg x=toPg y):x=y:=by
 obtain ⟨a,b,c,d,_⟩:=x
 obtain ⟨a',b',c',d',_⟩:=y
 simp only [toPg,P.Pg.mk.injEq] at h
 obtain ⟨rfl,rfl,rfl,rfl⟩:=h
 rfl
theorem toHp_inj {x y:HpD} (h:toHp x=toHp y):x=y:=by
 obtain ⟨⟨a,b,_⟩,c,d,e,f,_⟩:=x
 obtain ⟨⟨a',b',_⟩,c',d',e',f',_⟩:=y
 simp only [toHp,P.Hp.mk.injEq] at h
 obtain ⟨rfl,rfl,rfl,h4,rfl,rfl⟩:=h
 have:d=d':=List.map_inj_right (fun _ _=>toPg_inj) |>.1 h4
 rw [this]
theorem T_r01_Same (l:List Int) (hl:l.length<=100000000):Tot (fun r=>r.1.1=true) (F_r01_Same (l,l,())):=by
 rw [nf_r01_Same];dsimp only
 refine tot_cond (fun h=>by simp at h) fun _=>?_
 refine tot_bind (P:=fun r=>match r with | .inl _=>False | .inr _=>True) (tot_loop (fun x=>∃ k:Nat,x.1.2.1=(k:Int)/\k<=l.length) (fun x=>((l.length:Int) - x.1.2.1).toNat) ⟨0,rfl,by omega⟩ ?_) fun r hr=>tot_sum (fun x hx=>?_) fun x hx=>tot_some rfl
 · rintro ⟨⟨(q:Bool),(i:Int),_⟩,_⟩ ⟨k,e,hk⟩
   dsimp only at e ⊢
   subst e
   refine tot_cond (fun h1=>?_) fun h1=>tot_some trivial
   simp only [decide_eq_true_eq] at h1
   have hin:inB (k:Int) l.length=true:=inB_iff.2 ⟨by omega,by omega⟩
   refine tot_need hin (tot_need hin (tot_cond (fun h=>by simp at h) fun _=>tot_some ?_))
   rw [W_id (by omega)]
   exact ⟨⟨k+1,by dsimp only;omega,by omega⟩,by dsimp only;omega⟩
 · subst hx;exact hr.elim
theorem T_r04_SamePages (l:List PgD) (hl:l.length<=100000000):Tot (fun r=>r.1.1=true) (F_r04_SamePages (l,l,())):=by
 rw [nf_r04_SamePages];dsimp only
 refine tot_cond (fun h=>by simp at h) fun _=>?_
 refine tot_bind (P:=fun r=>match r with | .inl _=>False | .inr _=>True) (tot_loop (fun x=>∃ k:Nat,x.1.2.1=(k:Int)/\k<=l.length) (fun x=>((l.length:Int) - x.1.2.1).toNat) ⟨0,rfl,by omega⟩ ?_) fun r hr=>tot_sum (fun x hx=>?_) fun x hx=>tot_some rfl
 · rintro ⟨⟨(q:Bool),(i:Int),_⟩,_⟩ ⟨k,e,hk⟩
   dsimp only at e ⊢
   subst e
   refine tot_cond (fun h1=>?_) fun h1=>tot_some trivial
   simp only [decide_eq_true_eq] at h1
   have hin:inB (k:Int) l.length=true:=inB_iff.2 ⟨by omega,by omega⟩
   refine tot_need hin (tot_need hin (tot_cond (fun h=>by simp at h) fun _=>tot_some ?_))
   rw [W_id (by omega)]
   exact ⟨⟨k+1,by dsimp only;omega,by omega⟩,by dsimp only;omega⟩
 · subst hx;exact hr.elim
theorem T_r04_Same (h:HpD) (h1:h.2.1.length<=100000000) (h2:h.2.2.1.length<=100000000):Tot (fun r=>r.1.1=true) (F_r04_Same (h,h,())):=by
 obtain ⟨⟨pw,np,_⟩,l,ps,sp,bu,_⟩:=h
 dsimp only at h1 h2
 rw [nf_r04_Same];dsimp only
 refine tot_cond (fun h=>by simp at h) fun _=>tot_cond (fun h=>by simp at h) fun _=>tot_cond (fun h=>by simp at h) fun _=>tot_bind (T_r04_SamePages ps h2) ?_
 rintro ⟨⟨(b:Bool),_⟩,_⟩ hb
 have hb:b=true:=hb
 subst hb
 refine tot_cond (fun h=>by simp at h) fun _=>?_
 refine tot_bind (P:=fun r=>match r with | .inl _=>False | .inr _=>True) (tot_loop (fun x=>∃ k:Nat,x.1.2.1=(k:Int)/\k<=l.length) (fun x=>((l.length:Int) - x.1.2.1).toNat) ⟨0,rfl,by omega⟩ ?_) fun r hr=>tot_sum (fun x hx=>?_) fun x hx=>tot_some rfl
 · rintro ⟨⟨(q:Bool),(i:Int),_⟩,_⟩ ⟨k,e,hk⟩
   dsimp only at e ⊢
   subst e
   refine tot_cond (fun h1=>?_) fun h1=>tot_some trivial
   simp only [decide_eq_true_eq] at h1
   have hin:inB (k:Int) l.length=true:=inB_iff.2 ⟨by omega,by omega⟩
   refine tot_need hin (tot_need hin (tot_cond (fun h=>by simp at h) fun _=>tot_some ?_))
   rw [W_id (by omega)]
   exact ⟨⟨k+1,by dsimp only;omega,by omega⟩,by dsimp only;omega⟩
 · subst hx;exact hr.elim
def extA (h:P.Hp) (a:Int):Int:=if P.getE h a=0 then U (a+1) else 0
def extB (h:P.Hp) (a:Int):Int:=if P.getE h a=0 then U (U (a+1)+U (P.getH h a).n) else 0
theorem T_object_Extent (h:HpD) (hw:HpW h) (a:Int) (ha:0<=a/\a < 18446744073709551616):Tot (fun r=>r.1.1=extA (toHp h) a/\r.1.2.1=extB (toHp h) a/\r.1.2.2.1=P.getE (toHp h) a) (F_object_Extent (h,a,())):=by
 rw [nf_object_Extent];dsimp only
 rw [toHp_eta]
 refine tot_bind (T_object_Get h hw a ha) ?_
 rintro ⟨⟨⟨(k:Int),(n:Int),(m:Int),_⟩,(e:Int),_⟩,_⟩ ⟨r1,r2⟩
 dsimp only at r1 r2 ⊢
 have r2:P.getH (toHp h) a=⟨k,n,m⟩:=r2.symm
 unfold extA extB
 rw [<-r1,r2]
 refine tot_cond (fun h1=>tot_some ?_) fun h1=>tot_some ?_
 · simp only [bne_iff_ne,ne_eq] at h1
   rw [if_neg h1,if_neg h1];exact ⟨rfl,rfl,rfl⟩
 · simp only [bne_eq_false_iff_eq] at h1
   rw [if_pos h1,if_pos h1,h1];exact ⟨rfl,rfl,rfl⟩
theorem X_r05_Extent (h:HpD) (hw:HpW h) (a:Int) (ha:0<=a/\a < 18446744073709551616):Tot (fun r=>r.1.1=extA (toHp h) a/\r.1.2.1=extB (toHp h) a/\r.1.2.2.1=P.getE (toHp h) a) (F_r05_Extent (h,a,())):=by
 rw [nf_r05_Extent];dsimp only
 rw [toHp_eta]
 refine tot_bind (X_r05_Get h hw a ha) ?_
 rintro ⟨⟨⟨(k:Int),(n:Int),(m:Int),_⟩,(e:Int),_⟩,_⟩ ⟨r1,r2⟩
 dsimp only at r1 r2 ⊢
 have r2:P.getH (toHp h) a=⟨k,n,m⟩:=r2.symm
 unfold extA extB
 rw [<-r1,r2]
 refine tot_cond (fun h1=>tot_some ?_) fun h1=>tot_some ?_
 · simp only [bne_iff_ne,ne_eq] at h1
   rw [if_neg h1,if_neg h1];exact ⟨rfl,rfl,rfl⟩
 · simp only [bne_eq_false_iff_eq] at h1
   rw [if_pos h1,if_pos h1,h1];exact ⟨rfl,rfl,rfl⟩
theorem get_words {h:P.Hp} {a:Int} (g:P.getE h a=0):4096<=a/\a < 8192/\0<=(P.getH h a).n/\(P.getH h a).n<=255/\a+1+(P.getH h a).n<=4096+h.words.length:=by
 have gi:=P.getE_in g
 obtain ⟨i,j,G,b⟩:=P.begins gi.2.1
 have:=b.wl
 unfold P.osz at this
 rw [<-gi.2.2.1] at this
 exact ⟨gi.2.2.2.2.2.1,gi.2.2.2.2.2.2.1,gi.2.2.2.2.2.2.2.1,gi.2.2.2.2.2.2.2.2.1,by omega⟩
theorem take_succ_getD {ws:List Int} {i k:Nat} (h:i+k < ws.length):(ws.drop i).take (k+1)=(ws.drop i).take k ++ [ws.getD (i+k) 0]:=by
 refine P.take_snoc' ?_
 rw [List.getElem?_drop]
 exact get_getD h
theorem T_object_Fields (h:HpD) (hw:HpW h) (a:Int) (ha:0<=a/\a < 18446744073709551616):Tot (fun r=>r.1.1=P.fieldsV (toHp h) a/\r.1.2.1=P.fieldsE (toHp h) a) (F_object_Fields (h,a,())):=by
 rw [nf_object_Fields];dsimp only
 rw [toHp_eta]
 refine tot_bind (T_object_Extent h hw a ha) ?_
 rintro ⟨⟨(f:Int),(t:Int),(e:Int),_⟩,_⟩ ⟨r1,r2,r3⟩
 dsimp only at r1 r2 r3 ⊢
 unfold extA at r1
 unfold extB at r2
 unfold P.fieldsV P.fieldsE
 rw [<-r3] at r1 r2 ⊢
 refine tot_cond (fun h1=>tot_some ?_) fun h1=>?_
 · simp only [bne_iff_ne,ne_eq] at h1
   rw [if_neg h1,if_neg h1];exact ⟨rfl,rfl⟩
 simp only [bne_eq_false_iff_eq] at h1
 rw [h1,if_pos rfl] at r1 r2
 rw [h1] at r3
 obtain ⟨g1,g2,g3,g4,g5⟩:=get_words r3.symm
 rw [if_pos h1,if_pos h1]
 generalize (P.getH (toHp h) a).n=n at *
 obtain ⟨n,rfl⟩:=Int.eq_ofNat_of_zero_le g3
 rw [U_id (n:=a+1) (by omega)] at r1 r2
 rw [U_id (n:=(n:Int)) (by omega),U_id (by omega)] at r2
 subst r1 r2
 have hl:=hw.wl
 have hok:P.okA (toHp h).words.length (a+1) n=true:=P.okA_iff.2 (by omega)
 obtain ⟨i,hi⟩:∃ i:Nat,a+1=4096+(i:Int):=⟨(a+1 - 4096).toNat,by omega⟩
 rw [hi] at hok
 obtain ⟨q1,q2⟩:=P.read_ok hok
 rw [hi,q1,q2,T_object_reader,Option.bind_some]
 dsimp only
 have hwl:(toHp h).words=h.2.1:=rfl
 rw [hwl] at g5 ⊢
 obtain ⟨⟨pw,np,_⟩,ws,ps,sp,bu,_⟩:=h
 dsimp only at hl g5 ⊢
 refine tot_bind (P:=fun r=>match r with | .inl _=>False | .inr y=>y.2.1.1=(ws.drop i).take n) (tot_loop (fun x=>∃ k:Nat,x.1.2.2.2.1=4096+(i:Int)+k/\k<=n/\x.2.1.1=(ws.drop i).take k/\x.2.2.1=(pw,np,ws,ps,sp,bu,())) (fun x=>(4096+(i:Int)+n - x.1.2.2.2.1).toNat) ⟨0,by dsimp only;omega,by omega,rfl,rfl⟩ ?_) fun r hr=>tot_sum (fun x hx=>?_) fun x hx=>?_
 · rintro ⟨⟨(x1:List Int),(x2:Int),_,(x3:Int),_⟩,⟨(l:List Int),_⟩,⟨(y1:Int),(y2:Int),(y3:List Int),(y4:List PgD),(y5:Int),(y6:Int),_⟩,_⟩ ⟨k,e,hk,el,eh⟩
   dsimp only at e el eh ⊢
   simp only [Prod.mk.injEq,and_true] at eh
   obtain ⟨e1,e2,e3,e4,e5,e6⟩:=eh
   subst e el e1 e2 e3 e4 e5 e6
   refine tot_cond (fun h2=>?_) fun h2=>tot_some ?_
   · simp only [decide_eq_true_eq] at h2
     rw [T_object_reader_S1_c _ hw _ (by omega),Option.bind_some]
     dsimp only
     have ho:P.okA y3.length (4096+((i+k:Nat):Int)) 1=true:=P.okA_iff.2 (by omega)
     obtain ⟨l1,l2⟩:=P.load_ok' ho (get_getD (by omega:i+k < y3.length))
     rw [show 4096+(i:Int)+k=4096+((i+k:Nat):Int) from by omega,l1,l2]
     refine tot_cond (fun c=>by simp at c) fun _=>tot_need (small_iff.2 ?_) (tot_some ?_)
     · rw [List.length_take];simp;omega
     · rw [U_id (by omega)]
       refine ⟨⟨k+1,by dsimp only;omega,by omega,?_,rfl⟩,by dsimp only;omega⟩
       dsimp only
       rw [take_succ_getD (by omega)]
   · simp only [decide_eq_false_iff_not] at h2
     obtain rfl:k=n:=by omega
     rfl
 · subst hx;exact hr.elim
 · subst hx;exact tot_some ⟨hr,rfl⟩
theorem T_arena_duplicate (ws:List Int) (hl:ws.length<=100000000):F_arena_duplicate (ws,())=some ((ws,()),()):=by
 rw [nf_arena_duplicate];dsimp only
 rw [decide_eq_true (show 0<=(ws.length:Int)/\(ws.length:Int)<=ws.length by omega),Int.toNat_natCast,small_iff.2 (by omega),List.length_replicate,List.take_length,List.drop_of_length_le (by rw [List.length_replicate];exact Nat.le_refl _),List.append_nil]
 rfl
theorem T_arena_Write (ws:List Int) (a:Int) (l:List Int) (hl:ws.length<=100000000) (hl2:l.length<=100000000) (ha:0<=a/\a < 18446744073709551616):F_arena_Write (ws,a,l,())=some ((P.writeV ws a l,P.writeE ws a l,()),()):=by
 rw [nf_arena_Write];dsimp only
 rw [T_arena_locate ws a l.length hl hl2 ha,Option.bind_some,T_arena_duplicate ws hl,Option.bind_some]
 dsimp only
 unfold P.writeV P.writeE
 cases h:P.okA ws.length a l.length
 · rfl
 · have:=P.okA_iff.1 h
   simp only [if_true]
   obtain ⟨i,hi⟩:∃ i:Nat,a - 4096=(i:Int):=⟨(a - 4096).toNat,by omega⟩
   rw [hi,Int.toNat_natCast,show ((ws.length:Int) - (i:Int)).toNat=ws.length - i from by omega,decide_eq_true (show 0<=(i:Int)/\(i:Int)<=ws.length/\(ws.length:Int)<=ws.length by omega),List.take_of_length_le (l:=l) (by omega),show min l.length (ws.length - i)=l.length from by omega]
   have:Go.splice ws i l=ws.take i ++ (l ++ ws.drop (i+l.length)):=rfl
   rw [this];rfl
theorem T_slices_Clone_api_Page (ps:List PgD) (hl:ps.length<=100000000):F_slices_Clone_api_Page (ps,())=some ((ps,()),()):=by
 unfold F_slices_Clone_api_Page cloneF
 have:∀ b,b<=1000->small (0+ps.length) b=true:=fun b hb=>small_iff.2 (by
  rw [Nat.zero_add]
  calc ps.length*b<=100000000*1000:=Nat.mul_le_mul hl hb
   _<=_:=by decide)
 show cond (small (0+ps.length) _) _ _=_
 rw [this _ (by decide)];rfl
theorem T_object_write (h:HpD) (hw:HpW h) (a:Int) (l:List Int) (hl:l.length<=100000000) (ha:0<=a/\a < 18446744073709551616):F_object_write (h,a,l,())=some (((if P.writeE h.2.1 a l=0 then (h.1,P.writeV h.2.1 a l,h.2.2) else H0),P.writeE h.2.1 a l,()),()):=by
 obtain ⟨⟨pw,np,_⟩,ws,ps,sp,bu,_⟩:=h
 have h1:=hw.wl
 have h2:=hw.pl
 dsimp only at h1 h2
 rw [nf_object_write];dsimp only
 rw [T_arena_Write ws a l h1 hl ha,Option.bind_some,T_slices_Clone_api_Page ps h2,Option.bind_some]
 dsimp only
 by_cases h:P.writeE ws a l=0
 · rw [h];rfl
 · rw [if_neg h,show (P.writeE ws a l != 0)=true from by simpa using h];rfl
theorem T_object_SetField (h:HpD) (hw:HpW h) (a i v:Int) (ha:0<=a/\a < 18446744073709551616) (hi : -9223372036854775808<=i/\i < 9223372036854775808):Tot (fun r=>toHp r.1.1=P.setV (toHp h) a i v/\r.1.2.1=P.setE (toHp h) a i) (F_object_SetField (h,a,i,v,())):=by
 rw [nf_object_SetField];dsimp only
 rw [toHp_eta]
 refine tot_bind (T_object_locate h hw a i ha hi) ?_
 rintro ⟨⟨(at':Int),(e:Int),_⟩,_⟩ ⟨hr,h2⟩
 dsimp only at hr h2 ⊢
 unfold P.setV P.setE
 by_cases h1:e=0
 · have h3:=h2 h1
   clear h2
   subst h1
   refine tot_cond (fun c=>by simp at c) fun _=>?_
   have g:P.getE (toHp h) a=0:=Decidable.by_contra fun g=>by rw [if_neg g] at hr;exact g hr.symm
   rw [if_pos g] at hr
   have c:¬(i < 0\/(P.getH (toHp h) a).n<=i):=fun c=>by rw [if_pos c] at hr;cases hr
   obtain ⟨f1,f2⟩:=P.field_zero (i:=i) g (by omega) (by omega)
   have gw:=get_words g
   rw [if_pos f1,f1]
   subst h3
   have hwE:P.writeE h.2.1 (a+1+i) [v]=0:=by unfold P.writeE;exact if_pos f2
   rw [T_object_write h hw (a+1+i) [v] (by simp) (by omega),Option.bind_some]
   rw [if_pos hwE,hwE]
   exact tot_some ⟨rfl,rfl⟩
 · refine tot_cond (fun _=>tot_some ?_) fun c=>absurd (by simpa using c) h1
   have hf:P.fieldE (toHp h) a i=e:=by
    unfold P.fieldE
    by_cases g:P.getE (toHp h) a=0
    · rw [if_pos g] at hr ⊢
      by_cases c:i < 0\/(P.getH (toHp h) a).n<=i
      · rw [if_pos c] at hr ⊢;exact hr.symm
      · rw [if_neg c] at hr;exact absurd hr h1
    · rw [if_neg g] at hr ⊢;exact hr.symm
   rw [hf,if_neg h1]
   exact ⟨rfl,rfl⟩
end Go.VI
namespace Go.VI
open Go
theorem law_key {o:Option ((Bool × Unit) × Unit)} (h:Tot (fun r=>r.1.1=true) o):o=some ((true,()),()):=by
 obtain ⟨⟨⟨(b:Bool),_⟩,_⟩,rfl,e⟩:=h
 have e:b=true:=e
 rw [e]
abbrev LX:=(Bool × Int × Unit) × Unit × Unit
abbrev LY:=(Bool × Unit) × Unit × Unit ⊕ (Bool × Unit) × Unit × Unit
theorem tot_each {n:Nat} {q0:Bool} {g:LX->Option (LX ⊕ LY)} (hn:n<=1000000000) (h:∀ (q:Bool) (k:Nat),k < n->Tot (fun r=>∃ q',r = .inl ((q',(k:Int)+1,()),(),())) (g ((q,(k:Int),()),(),()))) :
 Tot (fun (r:LY)=>∃ y,r = .inr y) (rl LX LY (fun x=>bif decide (x.1.2.1 < (n:Int)) then bif inB x.1.2.1 n then g x else none else some (Sum.inr (Sum.inr ((x.1.1,()),(),())))) ((q0,0,()),(),())):=by
 refine tot_loop (fun x=>∃ k:Nat,x.1.2.1=(k:Int)/\k<=n) (fun x=>((n:Int) - x.1.2.1).toNat) ⟨0,rfl,by omega⟩ ?_
 rintro ⟨⟨(q:Bool),(i:Int),_⟩,_⟩ ⟨k,e,hk⟩
 dsimp only at e ⊢
 subst e
 refine tot_cond (fun h1=>?_) fun h1=>tot_some ⟨_,rfl⟩
 simp only [decide_eq_true_eq] at h1
 refine tot_need (inB_iff.2 ⟨by omega,by omega⟩) ((h q k (by omega)).mono ?_)
 rintro _ ⟨q',rfl⟩
 exact ⟨⟨k+1,by dsimp only;omega,by omega⟩,by dsimp only;omega⟩
end Go.VI
namespace Go.VI
open Go
theorem wf_u {n:Int} (h:(Lit.int .u64 n).wf=true):0<=n/\n < 18446744073709551616:=by
 simp only [Lit.wf,Bool.and_eq_true,decide_eq_true_eq] at h
 have e1:IntKind.u64.min=0:=rfl
 have e2:IntKind.u64.max=18446744073709551615:=rfl
 omega
theorem wf_i {n:Int} (h:(Lit.int .i64 n).wf=true) : -9223372036854775808<=n/\n < 9223372036854775808:=by
 simp only [Lit.wf,Bool.and_eq_true,decide_eq_true_eq] at h
 have e1:IntKind.i64.min = -9223372036854775808:=rfl
 have e2:IntKind.i64.max=9223372036854775807:=rfl
 omega
theorem wf_u32 {n:Int} (h:(Lit.int .u32 n).wf=true):0<=n/\n < 4294967296:=by
 simp only [Lit.wf,Bool.and_eq_true,decide_eq_true_eq] at h
 have e1:IntKind.u32.min=0:=rfl
 have e2:IntKind.u32.max=4294967295:=rfl
 omega
end Go.VI
namespace Go.VI
open Go
theorem two_idx (i:Int) (hi : -9223372036854775808<=i/\i < 9223372036854775808) (k:Nat) : -9223372036854775808<=([i,bits2 IntKind.i64 (fun (x1 x2:BitVec IntKind.i64.bits)=>x1 &&& x2) i 7]:List Int).getD k 0/\([i,bits2 IntKind.i64 (fun (x1 x2:BitVec IntKind.i64.bits)=>x1 &&& x2) i 7]:List Int).getD k 0 < 9223372036854775808:=by
 have hb:∀ x y:Int,-9223372036854775808<=bits2 IntKind.i64 (fun (x1 x2:BitVec IntKind.i64.bits)=>x1 &&& x2) x y/\bits2 IntKind.i64 (fun (x1 x2:BitVec IntKind.i64.bits)=>x1 &&& x2) x y < 9223372036854775808:=fun x y=>W_range _
 rcases k with _ | _ | k
 · exact hi
 · exact hb i 7
 · simp
theorem L_ObjectFields (raw:HpD) (hr:WBo raw.2.1) (tape odd:List Int) (a:Int) (ha:0<=a/\a < 18446744073709551616) (i:Int) (hi : -9223372036854775808<=i/\i < 9223372036854775808):F_l05_ObjectFields (raw,tape,odd,a,i,())=some ((true,()),()):=by
 refine law_key ?_
 rw [nf_l05_ObjectFields];dsimp only
 rw [toHp_eta]
 refine tot_bind (T_l05_heaps raw hr tape odd) ?_
 rintro ⟨⟨(hs:List HpD),_⟩,_⟩ ⟨hl,hh⟩
 dsimp only at hl hh ⊢
 refine tot_bind (tot_each (by omega) fun q k hk=>?_) ?_
 · dsimp only
   rw [Int.toNat_natCast,W_id (n:=(k:Int)+1) (by omega)]
   have hwk:=hh (hs.getD k H0) (getD_mem (by omega))
   simp only [toHp_eta]
   generalize hs.getD k H0=h at *
   refine tot_bind (T_l05_near h hwk a ha) ?_
   rintro ⟨⟨(bs:List Int),_⟩,_⟩ ⟨al,ab⟩
   dsimp only at al ab ⊢
   refine tot_bind (tot_each (by omega) fun q' j hj=>?_) ?_
   · dsimp only
     rw [Int.toNat_natCast,W_id (n:=(j:Int)+1) (by omega)]
     have hb:=WBo.getD ab j
     generalize bs.getD j 0=b at *
     refine tot_bind (tot_each (by simp) fun q2 t ht=>?_) ?_
     · dsimp only
       rw [Int.toNat_natCast,W_id (n:=(t:Int)+1) (by simp at ht;omega)]
       have hi':=two_idx i hi t
       generalize ([i,bits2 IntKind.i64 (fun (x1 x2:BitVec IntKind.i64.bits)=>x1 &&& x2) i 7]:List Int).getD t 0=c at *
       refine tot_bind (T_object_Field h hwk b c hb hi') ?_
       rintro ⟨⟨(v1:Int),(e1:Int),_⟩,_⟩ ⟨x1,x2⟩
       refine tot_bind (X_r05_Field h hwk b c hb) ?_
       rintro ⟨⟨(v2:Int),(e2:Int),_⟩,_⟩ ⟨y1,y2⟩
       dsimp only at x1 x2 y1 y2 ⊢
       have p1:=x1.trans y1.symm
       have p2:=x2.trans y2.symm
       subst p1 p2
       exact tot_cond (fun h3=>by simp at h3) fun h3=>tot_some ⟨_,rfl⟩
     rintro _ ⟨y,rfl⟩
     dsimp only [Sum.elim_inr]
     refine tot_bind (T_object_Fields h hwk b hb) ?_
     rintro ⟨⟨(v1:List Int),(e1:Int),_⟩,_⟩ ⟨x1,x2⟩
     refine tot_bind (X_r05_Fields h hwk b hb) ?_
     rintro ⟨⟨(v2:List Int),(e2:Int),_⟩,_⟩ ⟨y1,y2⟩
     refine tot_bind (T_object_Extent h hwk b hb) ?_
     rintro ⟨⟨(s1:Int),(t1:Int),(f1:Int),_⟩,_⟩ ⟨z1,z2,z3⟩
     refine tot_bind (X_r05_Extent h hwk b hb) ?_
     rintro ⟨⟨(s2:Int),(t2:Int),(f2:Int),_⟩,_⟩ ⟨w1,w2,w3⟩
     dsimp only at x1 x2 y1 y2 z1 z2 z3 w1 w2 w3 ⊢
     have hlen:v1.length<=100000000:=by
      rw [x1]
      refine Nat.le_trans (P.fieldsV_len _ _) hwk.wl
     have p1:=x1.trans y1.symm
     have p2:=x2.trans y2.symm
     have p3:=z1.trans w1.symm
     have p4:=z2.trans w2.symm
     have p5:=z3.trans w3.symm
     clear x1 x2 y1 y2 z1 z2 z3 w1 w2 w3
     subst p1 p2 p3 p4 p5
     refine tot_cond (fun h3=>by simp at h3) fun _=>tot_bind (T_r01_Same v1 hlen) ?_
     rintro ⟨⟨(b1:Bool),_⟩,_⟩ hb1
     have hb1:b1=true:=hb1
     subst hb1
     exact tot_cond (fun h3=>by simp at h3) fun h3=>tot_some ⟨_,rfl⟩
   · rintro _ ⟨y,rfl⟩
     exact tot_some ⟨_,rfl⟩
 · rintro _ ⟨y,rfl⟩
   dsimp only [Sum.elim_inr]
   rw [T_l05_awake]
   exact tot_some rfl
theorem hp_len {h:HpD} {X:P.Hp} (e:toHp h=X) (h1:X.words.length<=100000000) (h2:X.pages.length<=100000000):h.2.1.length<=100000000/\h.2.2.1.length<=100000000:=by
 subst e
 exact ⟨h1,by have:(toHp h).pages.length=h.2.2.1.length:=List.length_map ..;omega⟩
theorem setV_len (h:P.Hp) (a i v:Int) (h1:h.words.length<=100000000) (h2:h.pages.length<=100000000):(P.setV h a i v).words.length<=100000000/\(P.setV h a i v).pages.length<=100000000:=by
 unfold P.setV
 split
 · exact ⟨Nat.le_trans (P.writeV_le _ _ _) h1,h2⟩
 · exact ⟨by simp [P.Hp.zero],by simp [P.Hp.zero]⟩
theorem L_ObjectSets (raw:HpD) (hr:WBo raw.2.1) (tape odd:List Int) (a:Int) (ha:0<=a/\a < 18446744073709551616) (i:Int) (hi : -9223372036854775808<=i/\i < 9223372036854775808) (v:Int):F_l05_ObjectSets (raw,tape,odd,a,i,v,())=some ((true,()),()):=by
 refine law_key ?_
 rw [nf_l05_ObjectSets];dsimp only
 rw [toHp_eta]
 refine tot_bind (T_l05_heaps raw hr tape odd) ?_
 rintro ⟨⟨(hs:List HpD),_⟩,_⟩ ⟨hl,hh⟩
 dsimp only at hl hh ⊢
 refine tot_bind (tot_each (by omega) fun q k hk=>?_) ?_
 · dsimp only
   rw [Int.toNat_natCast,W_id (n:=(k:Int)+1) (by omega)]
   have hwk:=hh (hs.getD k H0) (getD_mem (by omega))
   simp only [toHp_eta]
   generalize hs.getD k H0=h at *
   refine tot_bind (T_l05_near h hwk a ha) ?_
   rintro ⟨⟨(bs:List Int),_⟩,_⟩ ⟨al,ab⟩
   dsimp only at al ab ⊢
   refine tot_bind (tot_each (by omega) fun q' j hj=>?_) ?_
   · dsimp only
     rw [Int.toNat_natCast,W_id (n:=(j:Int)+1) (by omega)]
     have hb:=WBo.getD ab j
     generalize bs.getD j 0=b at *
     refine tot_bind (tot_each (by simp) fun q2 t ht=>?_) ?_
     · dsimp only
       rw [Int.toNat_natCast,W_id (n:=(t:Int)+1) (by simp at ht;omega)]
       have hi':=two_idx i hi t
       generalize ([i,bits2 IntKind.i64 (fun (x1 x2:BitVec IntKind.i64.bits)=>x1 &&& x2) i 7]:List Int).getD t 0=c at *
       refine tot_bind (T_object_SetField h hwk b c v hb hi') ?_
       rintro ⟨⟨(v1:HpD),(e1:Int),_⟩,_⟩ ⟨x1,x2⟩
       refine tot_bind (X_r05_SetField h hwk b c v hb) ?_
       rintro ⟨⟨(v2:HpD),(e2:Int),_⟩,_⟩ ⟨y1,y2⟩
       dsimp only at x1 x2 y1 y2 ⊢
       have hpl:(toHp h).pages.length<=100000000:=by
        have:(toHp h).pages.length=h.2.2.1.length:=List.length_map ..
        have:=hwk.pl
        omega
       have hs2:=setV_len (toHp h) b c v hwk.wl hpl
       have hl2:=hp_len x1 hs2.1 hs2.2
       have p1:v1=v2:=toHp_inj (x1.trans y1.symm)
       have p2:=x2.trans y2.symm
       subst p1 p2
       refine tot_cond (fun h3=>by simp at h3) fun h3=>tot_bind (T_r04_Same v1 hl2.1 hl2.2) ?_
       rintro ⟨⟨(b1:Bool),_⟩,_⟩ hb1
       have hb1:b1=true:=hb1
       subst hb1
       exact tot_cond (fun h3=>by simp at h3) fun h3=>tot_some ⟨_,rfl⟩
     · rintro _ ⟨y,rfl⟩
       exact tot_some ⟨_,rfl⟩
   · rintro _ ⟨y,rfl⟩
     exact tot_some ⟨_,rfl⟩
 · rintro _ ⟨y,rfl⟩
   dsimp only [Sum.elim_inr]
   rw [T_l05_awake]
   exact tot_some rfl
theorem L_ObjectFieldsu (d) (h:wfP E_l05_ObjectFields.ps d):F_l05_ObjectFields d=some ((true,()),()):=by
 obtain ⟨raw,tape,odd,a,i,_⟩:=d
 obtain ⟨hr,-,-,ha,hi,-⟩:=h
 exact L_ObjectFields raw (fun x hx=>wf_u (hr.2.1.2 x hx)) tape odd a (wf_u ha) i (wf_i hi)
theorem L_ObjectSetsu (d) (h:wfP E_l05_ObjectSets.ps d):F_l05_ObjectSets d=some ((true,()),()):=by
 obtain ⟨raw,tape,odd,a,i,v,_⟩:=d
 obtain ⟨hr,-,-,ha,hi,-⟩:=h
 exact L_ObjectSets raw (fun x hx=>wf_u (hr.2.1.2 x hx)) tape odd a (wf_u ha) i (wf_i hi) v
end Go.VI
namespace Go.VI
open Go
abbrev FiD:=Int × Int × Unit
def toFi (f:Int × Nat):FiD:=(f.1,(f.2:Int),())
theorem bits_or (a b:Nat) (ha:a < 18446744073709551616) (hb:b < 18446744073709551616):bits2 IntKind.u64 (fun (x1 x2:BitVec IntKind.u64.bits)=>x1 ||| x2) (a:Int) (b:Int)=((a ||| b:Nat):Int):=by
 have hx:a ||| b < 2 ^ 64:=Nat.or_lt_two_pow (by omega) (by omega)
 show IntKind.u64.wrap ((BitVec.ofInt 64 (a:Int) ||| BitVec.ofInt 64 (b:Int)).toNat:Int)=_
 have e:∀ c:Nat,c < 18446744073709551616->(BitVec.ofInt 64 (c:Int)).toNat=c:=fun c hc=>by
  rw [BitVec.toNat_ofInt];omega
 rw [BitVec.toNat_or,e a ha,e b hb,IntKind.wrap_u64]
 omega
theorem fi_at (fs:List (Int × Nat)) {k:Nat} (hk:k < fs.length):∃ x,fs[k]?=some x/\(fs.map toFi).getD k (0,0,())=toFi x:=by
 refine ⟨fs[k],List.getElem?_eq_getElem hk,?_⟩
 rw [List.getD_eq_getElem?_getD,List.getElem?_map,List.getElem?_eq_getElem hk];rfl
theorem T_bits_Pack_S1_c (fs:List (Int × Nat)) (k:Nat) (x:Int × Nat) (hx:fs[k]?=some x):F_bits_Pack_S1_c ((k:Int),fs.map toFi,())=some ((x.1,()),fs.map toFi,()):=by
 obtain ⟨hk,-⟩:=List.getElem?_eq_some_iff.1 hx
 obtain ⟨y,hy,e⟩:=fi_at fs hk
 obtain rfl:x=y:=by rw [hx] at hy;exact Option.some.inj hy
 rw [nf_bits_Pack_S1_c];dsimp only
 rw [inB_iff.2 ⟨by omega,by rw [List.length_map];omega⟩,Int.toNat_natCast,e];rfl
theorem T_bits_fit_Pack (fs:List (Int × Nat)) (hl:fs.length<=100000000):Tot (fun r=>r.1.1=P.fitL 64 (fs.map (·.1))/\r.2.1=fs.map toFi) (F_bits_fit_c_bits_Pack_S1 (((fs.map toFi).length:Int),fs.map toFi,())):=by
 rw [nf_bits_fit_c_bits_Pack_S1];dsimp only
 rw [List.length_map]
 have hlm:(fs.map (·.1)).length=fs.length:=List.length_map ..
 refine tot_bind (P:=fun r=>match r with
  | .inl x=>(x.1.1=false/\P.fitL 64 (fs.map (·.1))=false)/\x.2.2.1.1=fs.map toFi
  | .inr x=>P.fitL 64 (fs.map (·.1))=true/\x.2.2.1.1=fs.map toFi) (tot_loop (fun x=>∃ k:Nat,x.1.2.2.1=(k:Int)/\k<=fs.length/\x.2.2.1.1=fs.map toFi/\0<=x.1.2.1/\x.1.2.1<=64/\P.fitL x.1.2.1 ((fs.map (·.1)).drop k)=P.fitL 64 (fs.map (·.1))) (fun x=>((fs.length:Int) - x.1.2.2.1).toNat) ⟨0,rfl,by omega,rfl,by dsimp only;omega,by dsimp only;omega,rfl⟩ ?_) fun r hr=>tot_sum (fun x hx=>?_) fun x hx=>?_
 · rintro ⟨⟨(q:Bool),(lf:Int),(i:Int),_⟩,_,⟨(l:List FiD),_⟩,_⟩ ⟨k,e,hk,el,h0,h64,hp⟩
   dsimp only at e el h0 h64 hp ⊢
   rw [e,el]
   refine tot_cond (fun h1=>?_) fun h1=>tot_some ?_
   · simp only [decide_eq_true_eq] at h1
     have hk':k < fs.length:=by omega
     obtain ⟨x,hx,-⟩:=fi_at fs hk'
     have hx':(fs.map (·.1))[k]?=some x.1:=by rw [List.getElem?_map,hx];rfl
     rw [T_bits_Pack_S1_c fs k x hx,Option.bind_some]
     dsimp only
     refine tot_cond (fun h2=>tot_some ⟨⟨rfl,?_⟩,rfl⟩) fun h2=>?_
     · rw [<-hp];exact P.fitL_no hx' (.inl (by simpa using h2))
     simp only [decide_eq_false_iff_not] at h2
     rw [T_bits_Pack_S1_c fs k x hx,Option.bind_some]
     dsimp only
     refine tot_cond (fun h3=>tot_some ⟨⟨rfl,?_⟩,rfl⟩) fun h3=>?_
     · rw [<-hp];exact P.fitL_no hx' (.inr (by simpa using h3))
     simp only [decide_eq_false_iff_not] at h3
     rw [T_bits_Pack_S1_c fs k x hx,Option.bind_some]
     dsimp only
     rw [W_id (n:=lf - x.1) (by omega),W_id (n:=(k:Int)+1) (by omega)]
     refine tot_some ⟨⟨k+1,by dsimp only;omega,by omega,rfl,by dsimp only;omega,by dsimp only;omega,?_⟩,by dsimp only;omega⟩
     rw [<-hp];exact (P.fitL_yes hx' h2 (by omega)).symm
   · simp only [decide_eq_false_iff_not] at h1
     refine ⟨?_,rfl⟩
     rw [<-hp];exact P.fitL_end (by omega)
 · subst hx;exact tot_some ⟨hr.1.1.trans hr.1.2.symm,hr.2⟩
 · subst hx;exact tot_some ⟨hr.1.symm,hr.2⟩
theorem T_bits_Pack (fs:List (Int × Nat)) (hl:fs.length<=1000) (hv:∀ f∈fs,f.2 < 18446744073709551616):Tot (fun r=>r.1.1=(P.packB fs).1/\r.1.2.1=(P.packB fs).2) (F_bits_Pack (fs.map toFi,())):=by
 rw [nf_bits_Pack];dsimp only
 refine tot_bind (T_bits_fit_Pack fs (by omega)) ?_
 rintro ⟨⟨(b:Bool),_⟩,(l:List FiD),_⟩ ⟨hb,el⟩
 dsimp only at hb el ⊢
 rw [hb,el,List.length_map]
 refine tot_cond (fun h1=>tot_some ?_) fun h1=>?_
 · simp only [Bool.not_eq_true'] at h1
   rw [P.packB_no (by rw [h1];decide)];exact ⟨rfl,rfl⟩
 simp only [Bool.not_eq_false'] at h1
 rw [W_id (n:=(fs.length:Int) - 1) (by omega)]
 refine tot_bind (P:=fun r=>match r with
  | .inl x=>P.okF fs=false/\x.1.1=0/\x.1.2.1=2
  | .inr y=>P.okF fs=true/\y.1.2.2.1=((P.packR fs:Nat):Int)) (tot_loop (fun y=>∃ j:Nat,y.1.2.2.2.1=(j:Int)/\j<=fs.length/\P.okF (fs.drop (fs.length - j))=true/\y.1.2.2.1=((P.packR (fs.drop (fs.length - j)):Nat):Int)) (fun y=>((fs.length:Int) - y.1.2.2.2.1).toNat) ⟨0,rfl,by omega,by rw [List.drop_of_length_le (by omega)];rfl,by rw [List.drop_of_length_le (by omega)];rfl⟩ ?_) ?_
 · rintro ⟨⟨(y1:Int),(y2:Int),(v:Int),(i:Int),_⟩,_⟩ ⟨j,e,hj,ho,ev⟩
   dsimp only at e ev ⊢
   rw [e]
   refine tot_cond (fun h2=>?_) fun h2=>tot_some ?_
   · simp only [decide_eq_true_eq] at h2
     obtain ⟨k,hk⟩:∃ k:Nat,k+1+j=fs.length:=⟨fs.length - 1 - j,by omega⟩
     have w1:W ((fs.length:Int) - 1 - j)=(k:Nat):=by rw [W_id (by omega)];omega
     have hk':k < fs.length:=by omega
     obtain ⟨x,hx,hg⟩:=fi_at fs hk'
     rw [w1,Int.toNat_natCast,hg]
     rw [show fs.length - j=k+1 from by omega] at ho ev
     have hin:inB (k:Int) fs.length=true:=inB_iff.2 ⟨by omega,by omega⟩
     refine tot_need hin ?_
     have hx1:(toFi x).1=x.1:=rfl
     have hx2:(toFi x).2.1=(x.2:Int):=rfl
     rw [hx1,hx2,T_bits_Ones,Option.bind_some]
     dsimp only
     refine tot_cond (fun h3=>tot_some ⟨?_,rfl,rfl⟩) fun h3=>?_
     · simp only [decide_eq_true_eq] at h3
       exact P.pack_bad hx (by omega)
     simp only [decide_eq_false_iff_not] at h3
     obtain ⟨fa1,fa2⟩:=P.fits_all h1 k
     rw [drop_at' hx] at fa1 fa2
     have hxb:=fa1 x.1 (by simp)
     refine tot_need (by simp;omega) (tot_some ?_)
     have hlt:=P.packR_lt (fs.drop (k+1)) ho (fun z hz=>(P.fits_all h1 (k+1)).1 z hz)
     simp only [List.map_cons,P.sumW] at fa2
     generalize hR:P.packR (fs.drop (k+1))=R at *
     generalize hS:P.sumW ((fs.drop (k+1)).map (·.1))=S at *
     have hpow:R*2 ^ x.1.toNat < 18446744073709551616:=by
      calc R*2 ^ x.1.toNat < 2 ^ S*2 ^ x.1.toNat:=Nat.mul_lt_mul_of_pos_right hlt (Nat.pow_pos (by omega))
       _=2 ^ (S+x.1.toNat):=(Nat.pow_add ..).symm
       _<=2 ^ 64:=Nat.pow_le_pow_right (by omega) (by omega)
       _=_:=by decide
     have hu:U (v*2 ^ min x.1.toNat IntKind.u64.bits)=((R <<< x.1.toNat:Nat):Int):=by
      have hb:IntKind.u64.bits=64:=rfl
      rw [hb,show min x.1.toNat 64=x.1.toNat from by omega,ev,<-P.ipow_cast,<-Int.natCast_mul,Nat.shiftLeft_eq]
      exact U_id (by omega)
     have hp:P.packR (fs.drop k)=R <<< x.1.toNat ||| x.2:=by rw [drop_at' hx,P.packR,hR]
     have hx3:=hv x (List.mem_of_getElem? hx)
     rw [hu,bits_or _ _ (by rw [Nat.shiftLeft_eq];exact hpow) hx3]
     rw [W_id (n:=(j:Int)+1) (by omega)]
     refine ⟨⟨j+1,by dsimp only;omega,by omega,?_,?_⟩,by dsimp only;omega⟩
     · rw [show fs.length - (j+1)=k from by omega,drop_at' hx]
       unfold P.okF at ho ⊢
       rw [List.all_cons,ho,Bool.and_true]
       exact decide_eq_true (by omega)
     · rw [show fs.length - (j+1)=k from by omega,hp]
   · simp only [decide_eq_false_iff_not] at h2
     obtain rfl:j=fs.length:=by omega
     rw [Nat.sub_self,List.drop_zero] at ho ev
     exact ⟨ho,ev⟩
 · intro r hr
   refine tot_sum (fun x hx=>?_) fun x hx=>?_
   · subst hx
     obtain ⟨h2,h3,h4⟩:=hr
     rw [P.packB_bad h1 h2]
     exact tot_some ⟨h3,h4⟩
   · subst hx
     obtain ⟨h2,h3⟩:=hr
     rw [P.packB_ok h1 h2]
     exact tot_some ⟨h3,rfl⟩
theorem T_header_Encode (k n m:Int) (hm:0<=m/\m < 4294967296):F_header_Encode ((k,n,m,()),())=some ((P.encV k n m,P.encE k n m,()),()):=by
 have key:∀ {o:Option ((Int × Int × Unit) × Unit)},Tot (fun r=>r.1.1=P.encV k n m/\r.1.2.1=P.encE k n m) o->o=some ((P.encV k n m,P.encE k n m,()),()):=fun h=>by
  obtain ⟨⟨⟨(a:Int),(b:Int),_⟩,_⟩,rfl,e1,e2⟩:=h
  dsimp only at e1 e2
  rw [e1,e2]
 refine key ?_
 rw [nf_header_Encode];dsimp only
 rw [T_header_Valid k n m hm,Option.bind_some]
 dsimp only
 cases hv:P.validB k n m
 · obtain ⟨e1,e2⟩:=P.enc_no hv
   rw [e1,e2];exact tot_some ⟨rfl,rfl⟩
 · obtain ⟨e1,e2⟩:=P.enc_ok hv
   have vp:=P.valid_parts hv
   obtain ⟨k,rfl⟩:=Int.eq_ofNat_of_zero_le vp.1
   obtain ⟨n,rfl⟩:=Int.eq_ofNat_of_zero_le vp.2.2.1
   obtain ⟨m,rfl⟩:=Int.eq_ofNat_of_zero_le hm.1
   rw [e1,e2,U_id (n:=(k:Int)) (by omega),U_id (n:=(n:Int)) (by omega),U_id (n:=(m:Int)) (by omega)]
   have hp:=P.pack_head (k:=k) (n:=n) (m:=m) (by omega) (by omega) (by omega)
   have ht:=T_bits_Pack [(2,1),(2,k),(12,n),(32,m)] (by simp) (by
    intro f hf
    simp only [List.mem_cons,List.not_mem_nil,or_false] at hf
    rcases hf with e | e | e | e <;> rw [e] <;> dsimp only <;> omega)
   rw [hp] at ht
   have e:([(2,1,()),(2,(k:Int),()),(12,(n:Int),()),(32,(m:Int),())]:List FiD)=([(2,1),(2,k),(12,n),(32,m)]:List (Int × Nat)).map toFi:=rfl
   rw [e]
   refine tot_cond (fun c=>by simp at c) fun _=>tot_bind ht ?_
   rintro ⟨⟨(a:Int),(b:Int),_⟩,_⟩ hr
   exact tot_some hr
theorem T_object_Init (h:HpD) (hw:HpW h) (a k n m:Int) (ha:0<=a/\a < 18446744073709551616) (hm:0<=m/\m < 4294967296):Tot (fun r=>r.1.2.1=P.initE (toHp h) a k n m/\toHp r.1.1=P.initV (toHp h) a k n m) (F_object_Init (h,a,(k,n,m,()),())):=by
 rw [nf_object_Init];dsimp only
 rw [toHp_eta]
 have bad:P.initE (toHp h) a k n m=1->Tot (fun r:(HpD × Int × Unit) × Unit=>r.1.2.1=P.initE (toHp h) a k n m/\toHp r.1.1=P.initV (toHp h) a k n m) (some ((H0,1,()),())):=fun e=>by
  unfold P.initV
  rw [e]
  exact tot_some ⟨rfl,rfl⟩
 refine tot_bind (T_page_Proper h hw) ?_
 rintro ⟨⟨(b:Bool),_⟩,_⟩ hb
 have hb:b=P.okH (toHp h):=hb
 subst hb
 refine tot_cond (fun h1=>bad ?_) fun h1=>?_
 · simp only [Bool.not_eq_true'] at h1
   unfold P.initE
   rw [if_neg (by rw [h1];simp)]
 simp only [Bool.not_eq_false'] at h1
 rw [T_header_Encode k n m hm,Option.bind_some]
 dsimp only
 cases hv:P.validB k n m
 · obtain ⟨e1,e2⟩:=P.enc_no hv
   rw [e2]
   refine bad ?_
   unfold P.initE
   rw [if_neg (by rw [hv];simp)]
 obtain ⟨e1,e2⟩:=P.enc_ok hv
 have vp:=P.valid_parts hv
 rw [e1,e2,T_header_Size k n m hm,Option.bind_some,P.size_ok hv]
 dsimp only
 refine tot_cond (fun c=>by simp at c) fun _=>tot_need (decide_eq_true (by omega)) (tot_need (small_iff.2 (by omega)) (tot_need (inB_iff.2 ⟨by omega,by rw [List.length_replicate];omega⟩) ?_))
 have el:(List.replicate (n+1).toNat (0:Int)).set (Int.toNat 0) (P.wordV k n m)=P.initL k n m:=by
  rw [show (n+1).toNat=n.toNat+1 from by omega,List.replicate_succ];rfl
 rw [el,T_object_write h hw a (P.initL k n m) (by rw [P.initL_len];omega) ha,Option.bind_some]
 refine tot_some ?_
 have hE:P.initE (toHp h) a k n m=P.writeE h.2.1 a (P.initL k n m):=by unfold P.initE;rw [if_pos ⟨hv,h1⟩];rfl
 unfold P.initV
 rw [hE]
 by_cases hz:P.writeE h.2.1 a (P.initL k n m)=0
 · rw [if_pos hz,if_pos hz];exact ⟨rfl,rfl⟩
 · rw [if_neg hz,if_neg hz];exact ⟨rfl,rfl⟩
end Go.VI
namespace Go.VI
open Go
theorem initV_len (h:P.Hp) (a k n m:Int) (h1:h.words.length<=100000000) (h2:h.pages.length<=100000000):(P.initV h a k n m).words.length<=100000000/\(P.initV h a k n m).pages.length<=100000000:=by
 unfold P.initV
 split
 · exact ⟨Nat.le_trans (P.writeV_le _ _ _) h1,h2⟩
 · exact ⟨by simp [P.Hp.zero],by simp [P.Hp.zero]⟩
theorem L_ObjectInits (raw:HpD) (hr:WBo raw.2.1) (tape odd:List Int) (a:Int) (ha:0<=a/\a < 18446744073709551616) (kd n m:Int) (hm:0<=m/\m < 4294967296):F_l05_ObjectInits (raw,tape,odd,a,(kd,n,m,()),())=some ((true,()),()):=by
 refine law_key ?_
 rw [nf_l05_ObjectInits];dsimp only
 rw [toHp_eta]
 refine tot_bind (T_l05_heaps raw hr tape odd) ?_
 rintro ⟨⟨(hs:List HpD),_⟩,_⟩ ⟨hl,hh⟩
 dsimp only at hl hh ⊢
 refine tot_bind (tot_each (by omega) fun q k hk=>?_) ?_
 · dsimp only
   rw [Int.toNat_natCast,W_id (n:=(k:Int)+1) (by omega)]
   have hwk:=hh (hs.getD k H0) (getD_mem (by omega))
   simp only [toHp_eta]
   generalize hs.getD k H0=h at *
   refine tot_bind (T_l05_near h hwk a ha) ?_
   rintro ⟨⟨(bs:List Int),_⟩,_⟩ ⟨al,ab⟩
   dsimp only at al ab ⊢
   refine tot_bind (tot_each (by omega) fun q' j hj=>?_) ?_
   · dsimp only
     rw [Int.toNat_natCast,W_id (n:=(j:Int)+1) (by omega)]
     have hb:=WBo.getD ab j
     generalize bs.getD j 0=b at *
     refine tot_bind (T_object_Init h hwk b kd n m hb hm) ?_
     rintro ⟨⟨(v1:HpD),(e1:Int),_⟩,_⟩ ⟨x2,x1⟩
     refine tot_bind (X_r05_Init h hwk b kd n m hb hm) ?_
     rintro ⟨⟨(v2:HpD),(e2:Int),_⟩,_⟩ ⟨y2,y1⟩
     dsimp only at x1 x2 y1 y2 ⊢
     have hpl:(toHp h).pages.length<=100000000:=by
      have:(toHp h).pages.length=h.2.2.1.length:=List.length_map ..
      have:=hwk.pl
      omega
     have hs2:=initV_len (toHp h) b kd n m hwk.wl hpl
     have hl2:=hp_len x1 hs2.1 hs2.2
     have p1:v1=v2:=toHp_inj (x1.trans y1.symm)
     have p2:=x2.trans y2.symm
     subst p1 p2
     refine tot_cond (fun h3=>by simp at h3) fun h3=>tot_bind (T_r04_Same v1 hl2.1 hl2.2) ?_
     rintro ⟨⟨(b1:Bool),_⟩,_⟩ hb1
     have hb1:b1=true:=hb1
     subst hb1
     exact tot_cond (fun h3=>by simp at h3) fun h3=>tot_some ⟨_,rfl⟩
   · rintro _ ⟨y,rfl⟩
     exact tot_some ⟨_,rfl⟩
 · rintro _ ⟨y,rfl⟩
   dsimp only [Sum.elim_inr]
   rw [T_l05_awake]
   exact tot_some rfl
theorem L_ObjectInitsu (d) (h:wfP E_l05_ObjectInits.ps d):F_l05_ObjectInits d=some ((true,()),()):=by
 obtain ⟨raw,tape,odd,a,⟨kd,n,m,_⟩,_⟩:=d
 obtain ⟨hr,-,-,ha,hd,-⟩:=h
 exact L_ObjectInits raw (fun x hx=>wf_u (hr.2.1.2 x hx)) tape odd a (wf_u ha) kd n m (wf_u32 hd.2.2.1)
end Go.VI
