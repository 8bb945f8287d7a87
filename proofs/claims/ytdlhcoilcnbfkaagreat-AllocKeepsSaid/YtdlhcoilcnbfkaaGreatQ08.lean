import Derived.Test.YtdlhcoilcnbfkaaGreatQ02
import Derived.Test.YtdlhcoilcnbfkaaGreatQ03
import Derived.Test.YtdlhcoilcnbfkaaGreatQ05
import Derived.Test.YtdlhcoilcnbfkaaGreatQ06
import Derived.Test.YtdlhcoilcnbfkaaGreatQ07
set_option linter.unusedSimpArgs false
set_option linter.unusedVariables false
set_option maxRecDepth 100000
set_option maxHeartbeats 4000000
namespace Go.VI
open Go
theorem T_page_within (a b c:Int):F_page_within (a,b,c,())=some ((decide (b<=a/\a<=c),()),()):=by
 rw [nf_page_within];dsimp only
 rw [cand,Bool.decide_and]
theorem T_page_ValidConf (pw np:Int):F_page_ValidConf ((pw,np,()),())=some ((confB pw np,()),()):=by
 rw [nf_page_ValidConf];dsimp only
 rw [T_page_within,T_page_within,Option.bind_some,Option.bind_some]
 dsimp only
 have e:confB pw np=(decide (16<=pw/\pw<=64) && (pw.tmod 4 == 0) && decide (8<=np/\np<=64)):=by
  rw [Bool.eq_iff_iff,confB_iff]
  simp only [Bool.and_eq_true,decide_eq_true_eq,beq_iff_eq]
  omega
 rw [e]
 cases decide (16<=pw/\pw<=64) <;> cases (pw.tmod 4 == 0) <;> rfl
theorem T_page_size (pw np:Int):F_page_size ((pw,np,()),())=some ((W (pw*np),()),()):=by
 rw [nf_page_size]
theorem T_page_isSpace (n:Int):F_page_isSpace (n,())=some ((P.spaceB n,()),()):=by
 rw [nf_page_isSpace];dsimp only
 rw [cor];unfold P.spaceB
 rw [Bool.decide_or];rfl
theorem T_page_isPins (n:Int):F_page_isPins (n,())=some ((P.pinsB n,()),()):=by
 rw [nf_page_isPins];dsimp only
 rw [T_page_within,Option.bind_some]
 rfl
theorem T_page_SmallWords (pw np:Int):F_page_SmallWords ((pw,np,()),())=some ((P.smallV pw np,()),()):=by
 rw [nf_page_SmallWords];dsimp only
 rw [T_page_ValidConf,Option.bind_some]
 dsimp only
 cases hc:confB pw np
 · rw [P.small_no (by rw [confB_eq];exact hc)];rfl
 · have c:=confB_iff.1 hc
   rw [P.small_ok (by rw [confB_eq];exact hc)]
   have hq:W (pw.tdiv 4)=pw / 4:=by rw [Int.tdiv_eq_ediv_of_nonneg (by omega)];exact W_id (by omega)
   rw [hq];rfl
theorem T_page_Need (pw np n:Int):F_page_Need ((pw,np,()),n,())=some ((P.needV pw np n,()),()):=by
 rw [nf_page_Need];dsimp only
 rw [T_page_ValidConf,T_page_within,T_page_SmallWords,Option.bind_some,Option.bind_some,Option.bind_some]
 dsimp only
 cases hc:confB pw np
 · rw [P.need_no (.inl (by rw [confB_eq];exact hc))];rfl
 have c:=confB_iff.1 hc
 have hc':P.confB pw np=true:=by rw [confB_eq];exact hc
 have w4:W (4*pw)=4*pw:=W_id (by omega)
 rw [w4,P.small_ok hc']
 by_cases h1:1<=n/\n<=4*pw
 · rw [decide_eq_true h1,P.need_ok hc' h1.1]
   by_cases h2:n<=pw / 4
   · rw [decide_eq_true h2,P.needP_small h2];rfl
   · rw [decide_eq_false h2,P.needP_div (by omega) (by omega) (by omega) (by omega)]
     have w1:W (n+pw)=n+pw:=W_id (by omega)
     have w2:W (n+pw - 1)=n+pw - 1:=W_id (by omega)
     rw [w1,w2,Int.tdiv_eq_ediv_of_nonneg (by omega)]
     have hd:=Int.ediv_le_self (a:=n+pw - 1) pw (by omega)
     have hd0:=Int.ediv_nonneg (a:=n+pw - 1) (b:=pw) (by omega) (by omega)
     rw [W_id (by omega)]
     have hpw:(!pw == 0)=true:=by simp;omega
     rw [hpw];rfl
 · rw [decide_eq_false h1]
   have:P.needV pw np n = -1:=by
    by_cases h2:n < 1
    · exact P.need_no (.inr h2)
    · rw [P.need_ok hc' (by omega)]
      exact P.needP_none (by omega) (by omega) (by omega)
   rw [this];rfl
theorem T_page_table_free (pw np:Int) (ps:List PgD) (k:Nat) (hk:k < ps.length) (h0:(ps.getD k PG0).1=0):F_page_table_free (((pw,np,()),ps,()),(k:Int),())=some ((P.freeOK (toPg (ps.getD k PG0)),()),()):=by
 rw [nf_page_table_free];dsimp only
 rw [inB_iff.2 ⟨by omega,by omega⟩,Int.toNat_natCast,h0]
 generalize ps.getD k PG0=X
 obtain ⟨a,b,c,d,_⟩:=X
 have:P.freeOK (toPg (a,b,c,d,()))=((b == 0) && ((c == 0) && ((d == 0) && true))):=by
  show decide (b=0/\c=0/\d=0)=_
  rw [Bool.eq_iff_iff,decide_eq_true_eq]
  simp
 rw [this];rfl
theorem T_page_table_small (pw np:Int) (ps:List PgD) (k:Nat) (hk:k < ps.length):F_page_table_small (((pw,np,()),ps,()),(k:Int),())=some ((P.smallOK pw (toPg (ps.getD k PG0)),()),()):=by
 rw [nf_page_table_small];dsimp only
 rw [inB_iff.2 ⟨by omega,by omega⟩,Int.toNat_natCast]
 generalize ps.getD k PG0=X
 obtain ⟨a,b,c,d,_⟩:=X
 dsimp only
 rw [T_page_isSpace,T_page_within,T_page_isPins,Option.bind_some,Option.bind_some,Option.bind_some]
 dsimp only
 have:P.smallOK pw (toPg (a,b,c,d,()))=(P.spaceB b && decide (0<=c/\c<=pw) && P.pinsB d):=rfl
 rw [this]
 cases P.spaceB b <;> cases decide (0<=c/\c<=pw) <;> rfl
theorem drop_at' {α:Type} {l:List α} {k:Nat} {x:α} (h:l[k]?=some x):l.drop k=x :: l.drop (k+1):=by
 obtain ⟨hk,e⟩:=List.getElem?_eq_some_iff.1 h
 rw [List.drop_eq_getElem_cons hk,e]
theorem toPg_at {ps:List PgD} {k:Nat} (hk:k < ps.length):(ps.map toPg)[k]?=some (toPg (ps.getD k PG0)):=by
 rw [<-map_getD,List.getD_eq_getElem?_getD,List.getElem?_eq_getElem (by rw [List.length_map];exact hk)];rfl
theorem tails_loop (sp:Int) (l:List PgD) (hl:l.length<=100000000):Tot (fun (r:(Bool × Unit) × Unit × Unit ⊕ (Bool × Unit) × Unit × Unit)=>(match r with | .inl x=>x.1.1=false/\P.allTails sp (l.map toPg)=false | .inr _=>P.allTails sp (l.map toPg)=true)) (rl ((Bool × Int × Unit) × Unit × Unit) ((Bool × Unit) × Unit × Unit ⊕ (Bool × Unit) × Unit × Unit) (fun (x:(Bool × Int × Unit) × Unit × Unit) =>
 bif decide (x.1.2.1 < (l.length:Int)) then
 bif inB x.1.2.1 l.length then
 bif bif (l.getD x.1.2.1.toNat PG0).1 != 3 then true
 else (l.getD x.1.2.1.toNat PG0).2.1 != sp then some (Sum.inr (Sum.inl ((false,()),(),())))
 else some (Sum.inl ((x.1.1,W (x.1.2.1+1),()),(),()))
 else none
 else some (Sum.inr (Sum.inr ((x.1.1,()),(),())))) ((false,0,()),(),())):=by
  refine tot_loop (fun x=>∃ k:Nat,x.1.2.1=(k:Int)/\k<=l.length/\P.allTails sp ((l.map toPg).drop k)=P.allTails sp (l.map toPg)) (fun x=>((l.length:Int) - x.1.2.1).toNat) ⟨0,rfl,by omega,rfl⟩ ?_
  rintro ⟨⟨(b:Bool),(i:Int),_⟩,_⟩ ⟨k,e,hk,hp⟩
  dsimp only at e ⊢
  subst e
  refine tot_cond (fun h1=>?_) fun h1=>tot_some ?_
  · simp only [decide_eq_true_eq] at h1
    have hk':k < l.length:=by omega
    rw [drop_at' (toPg_at hk')] at hp
    unfold P.allTails at hp ⊢
    rw [List.all_cons] at hp
    rw [W_id (by omega),Int.toNat_natCast]
    generalize hX:l.getD k PG0=X at *
    obtain ⟨xk,xs,xu,xp,_⟩:=X
    refine tot_need (inB_iff.2 ⟨by omega,by omega⟩) (tot_cond (fun h2=>tot_some ?_) fun h2=>tot_some ?_)
    · refine ⟨rfl,?_⟩
      rw [<-hp,Bool.and_eq_false_iff]
      left
      refine decide_eq_false ?_
      simp only [cor,Bool.or_eq_true,bne_iff_ne,ne_eq] at h2
      rintro ⟨q1,q2⟩
      rcases h2 with h2 | h2
      · exact h2 q1
      · exact h2 q2
    · simp only [Sum.elim_inl]
      refine ⟨⟨k+1,by omega,by omega,?_⟩,by omega⟩
      rw [<-hp]
      simp only [cor,Bool.or_eq_false_iff,bne_eq_false_iff_eq] at h2
      have:decide ((toPg (xk,xs,xu,xp,())).kind=3/\(toPg (xk,xs,xu,xp,())).space=sp)=true:=decide_eq_true h2
      rw [this,Bool.true_and]
  · simp only [decide_eq_false_iff_not] at h1
    simp only [Sum.elim_inr]
    rw [<-hp,List.drop_eq_nil_of_le (by rw [List.length_map];omega)];rfl
theorem T_page_table_large (pw np:Int) (ps:List PgD) (k:Nat) (hk:k < ps.length) (hl:ps.length<=100000000):Tot (fun r=>r.1.1=P.largeOK pw np (ps.map toPg) k (toPg (ps.getD k PG0))) (F_page_table_large (((pw,np,()),ps,()),(k:Int),())):=by
 rw [nf_page_table_large];dsimp only
 refine tot_need (inB_iff.2 ⟨by omega,by omega⟩) ?_
 rw [Int.toNat_natCast]
 generalize hX:ps.getD k PG0=X
 obtain ⟨a,b,c,d,_⟩:=X
 dsimp only
 rw [T_page_Need,Option.bind_some,T_page_isSpace,Option.bind_some,T_page_isPins,Option.bind_some]
 dsimp only
 have hlm:(ps.map toPg).length=ps.length:=List.length_map ..
 have e:P.largeOK pw np (ps.map toPg) k (toPg (a,b,c,d,()))=(P.spaceB b && decide (1<=P.needV pw np c) && P.pinsB d && decide ((k:Int)+P.needV pw np c<=ps.length) && P.allTails b (((ps.map toPg).drop (k+1)).take ((P.needV pw np c).toNat - 1))):=by rw [<-hlm];rfl
 rw [e]
 have b1:=P.needV_le2 pw np c
 have b0:=P.needV_ge pw np c
 generalize P.needV pw np c=N at *
 refine tot_cond (fun h1=>tot_some ?_) fun h1=>?_
 · simp only [Bool.not_eq_true'] at h1;rw [h1];rfl
 simp only [Bool.not_eq_false'] at h1
 rw [h1,Bool.true_and]
 refine tot_cond (fun h2=>tot_some ?_) fun h2=>?_
 · simp only [decide_eq_true_eq] at h2
   rw [decide_eq_false (show ¬1<=N by omega)];rfl
 simp only [decide_eq_false_iff_not] at h2
 rw [decide_eq_true (show 1<=N by omega),Bool.true_and]
 have w1:W ((k:Int)+N)=k+N:=W_id (by omega)
 have w2:W ((k:Int)+1)=k+1:=W_id (by omega)
 rw [w1,w2,cor]
 refine tot_cond (fun h3=>tot_some ?_) fun h3=>?_
 · simp only [Bool.or_eq_true,Bool.not_eq_true',decide_eq_true_eq] at h3
   rcases h3 with h3 | h3
   · rw [h3];rfl
   · rw [decide_eq_false (show ¬(k:Int)+N<=ps.length by omega)];simp
 simp only [Bool.or_eq_false_iff,Bool.not_eq_false',decide_eq_false_iff_not] at h3
 rw [h3.1,decide_eq_true (show (k:Int)+N<=ps.length by omega)]
 simp only [Bool.true_and]
 refine tot_need (decide_eq_true (by omega)) ?_
 have ed:List.drop ((k:Int)+1).toNat (List.take ((k:Int)+N).toNat ps)=(ps.drop (k+1)).take (N.toNat - 1):=by
  rw [List.drop_take]
  congr 1
  omega
 rw [ed]
 have el:((ps.map toPg).drop (k+1)).take (N.toNat - 1)=((ps.drop (k+1)).take (N.toNat - 1)).map toPg:=by
  rw [List.map_take,List.map_drop]
 rw [el]
 refine tot_bind (tails_loop b ((ps.drop (k+1)).take (N.toNat - 1)) (by rw [List.length_take,List.length_drop];omega)) fun r hr=>tot_sum (fun x hx=>?_) fun x hx=>?_
 · subst hx;exact tot_some (hr.1.trans hr.2.symm)
 · subst hx;exact tot_some hr.symm
theorem T_page_table_owned (pw np:Int) (ps:List PgD) (k:Nat) (hk:k < ps.length) (hl:ps.length<=100000000):Tot (fun r=>r.1.1=P.ownedB pw np (ps.map toPg) k) (F_page_table_owned (((pw,np,()),ps,()),(k:Int),())):=by
 rw [nf_page_table_owned];dsimp only
 unfold P.ownedB
 refine tot_bind (P:=fun r=>match r with
  | .inl x=>x.1.1=P.ownedAt pw np (ps.map toPg) k 1
  | .inr _=>P.ownedAt pw np (ps.map toPg) k 1=false) (tot_loop (fun x=>∃ m b:Nat,x.1.2.1=(b:Int)/\m+b=k+1/\1<=b/\P.ownedAt pw np (ps.map toPg) m b=P.ownedAt pw np (ps.map toPg) k 1) (fun x=>((k:Int)+1 - x.1.2.1).toNat) ⟨k,1,rfl,rfl,by omega,rfl⟩ ?_) fun r hr=>tot_sum (fun x hx=>?_) fun x hx=>?_
 · rintro ⟨⟨(q:Bool),(i:Int),_⟩,_⟩ ⟨m,b,e,hm,hb,hp⟩
   dsimp only at e ⊢
   subst e
   refine tot_cond (fun h1=>?_) fun h1=>tot_some ?_
   · simp only [decide_eq_true_eq] at h1
     obtain ⟨m,rfl⟩:∃ n,m=n+1:=⟨m - 1,by omega⟩
     have w1:W ((k:Int) - b)=(m:Nat):=by rw [W_id (by omega)];omega
     rw [w1,W_id (n:=(b:Int)+1) (by omega),Int.toNat_natCast]
     rw [P.ownedAt,map_getD] at hp
     generalize hX:ps.getD m PG0=X at *
     obtain ⟨xk,xs,xu,xp,_⟩:=X
     have hp:(if xk=2 then decide ((b:Int) < P.needV pw np xu) else P.ownedAt pw np (ps.map toPg) m ((b:Int)+1))=P.ownedAt pw np (ps.map toPg) k 1:=hp
     refine tot_need (inB_iff.2 ⟨by omega,by omega⟩) (tot_cond (fun h2=>?_) fun h2=>tot_some ?_)
     · rw [T_page_Need,Option.bind_some]
       simp only [beq_iff_eq] at h2
       rw [if_pos h2] at hp
       exact tot_some hp
     · simp only [beq_eq_false_iff_ne,ne_eq] at h2
       rw [if_neg h2] at hp
       simp only [Sum.elim_inl]
       exact ⟨⟨m,b+1,by omega,by omega,by omega,by rw [<-hp];rfl⟩,by omega⟩
   · simp only [decide_eq_false_iff_not] at h1
     obtain rfl:m=0:=by omega
     simp only [Sum.elim_inr]
     rw [<-hp];rfl
 · subst hx;exact tot_some hr
 · subst hx;exact tot_some hr.symm
theorem T_page_table_tail (pw np:Int) (ps:List PgD) (k:Nat) (hk:k < ps.length) (hl:ps.length<=100000000):Tot (fun r=>r.1.1=P.tailOK pw np (ps.map toPg) k (toPg (ps.getD k PG0))) (F_page_table_tail (((pw,np,()),ps,()),(k:Int),())):=by
 rw [nf_page_table_tail];dsimp only
 refine tot_need (inB_iff.2 ⟨by omega,by omega⟩) ?_
 rw [Int.toNat_natCast]
 generalize hX:ps.getD k PG0=X
 obtain ⟨a,b,c,d,_⟩:=X
 have e:P.tailOK pw np (ps.map toPg) k (toPg (a,b,c,d,()))=((c == 0) && (d == 0) && P.ownedB pw np (ps.map toPg) k):=by
  unfold P.tailOK
  rw [Bool.decide_and];rfl
 rw [e]
 dsimp only
 refine tot_cond (fun h1=>tot_cond (fun h2=>tot_bind (T_page_table_owned pw np ps k hk hl) fun r hr=>tot_some ?_) fun h2=>tot_some ?_) fun h1=>tot_some ?_
 · rw [h1,h2];exact hr
 · rw [h1,h2];rfl
 · rw [h1];rfl
theorem T_page_table_proper (pw np:Int) (ps:List PgD) (hl:ps.length<=100000000):Tot (fun r=>r.1.1=P.tableOK pw np (ps.map toPg)) (F_page_table_proper (((pw,np,()),ps,()),())):=by
 rw [nf_page_table_proper];dsimp only
 unfold P.tableOK
 have hlm:(ps.map toPg).length=ps.length:=List.length_map ..
 refine tot_bind (P:=fun r=>match r with
  | .inl x=>x.1.1=false/\P.tableFrom pw np (ps.map toPg) 0 (ps.map toPg)=false
  | .inr _=>P.tableFrom pw np (ps.map toPg) 0 (ps.map toPg)=true) (tot_loop (fun x=>∃ k:Nat,x.1.2.1=(k:Int)/\k<=ps.length/\P.tableFrom pw np (ps.map toPg) k ((ps.map toPg).drop k)=P.tableFrom pw np (ps.map toPg) 0 (ps.map toPg)) (fun x=>((ps.length:Int) - x.1.2.1).toNat) ⟨0,rfl,by omega,rfl⟩ ?_) fun r hr=>tot_sum (fun x hx=>?_) fun x hx=>?_
 · rintro ⟨⟨(q:Bool),(i:Int),_⟩,_⟩ ⟨k,e,hk,hp⟩
   dsimp only at e ⊢
   subst e
   refine tot_cond (fun h1=>?_) fun h1=>tot_some ?_
   · simp only [decide_eq_true_eq] at h1
     have hk':k < ps.length:=by omega
     rw [P.table_step (toPg_at hk')] at hp
     rw [T_page_within,Option.bind_some,W_id (n:=(k:Int)+1) (by omega),Int.toNat_natCast]
     have hfree:=T_page_table_free pw np ps k hk'
     have hsmall:=T_page_table_small pw np ps k hk'
     have hlarge:=T_page_table_large pw np ps k hk' hl
     have htail:=T_page_table_tail pw np ps k hk' hl
     generalize hX:ps.getD k PG0=X at *
     obtain ⟨xk,xs,xu,xp,_⟩:=X
     dsimp only at hfree ⊢
     have bad:P.pageOK pw np (ps.map toPg) k (toPg (xk,xs,xu,xp,()))=false->Tot (Sum.elim (fun x':(Bool × Int × Unit) × Unit × Unit=>(∃ k:Nat,x'.1.2.1=(k:Int)/\k<=ps.length/\P.tableFrom pw np (ps.map toPg) k ((ps.map toPg).drop k)=P.tableFrom pw np (ps.map toPg) 0 (ps.map toPg))/\((ps.length:Int) - x'.1.2.1).toNat < ((ps.length:Int) - (k:Int)).toNat) fun (r:(Bool × Unit) × Unit × Unit ⊕ (Bool × Unit) × Unit × Unit)=>match r with
      | .inl x=>x.1.1=false/\P.tableFrom pw np (ps.map toPg) 0 (ps.map toPg)=false
      | .inr _=>P.tableFrom pw np (ps.map toPg) 0 (ps.map toPg)=true) (some (Sum.inr (Sum.inl ((false,()),(),())))):=fun hs=>by
      rw [hs] at hp
      exact tot_some ⟨rfl,hp.symm⟩
     have good:P.pageOK pw np (ps.map toPg) k (toPg (xk,xs,xu,xp,()))=true->Tot (Sum.elim (fun x':(Bool × Int × Unit) × Unit × Unit=>(∃ k:Nat,x'.1.2.1=(k:Int)/\k<=ps.length/\P.tableFrom pw np (ps.map toPg) k ((ps.map toPg).drop k)=P.tableFrom pw np (ps.map toPg) 0 (ps.map toPg))/\((ps.length:Int) - x'.1.2.1).toNat < ((ps.length:Int) - (k:Int)).toNat) fun (r:(Bool × Unit) × Unit × Unit ⊕ (Bool × Unit) × Unit × Unit)=>match r with
      | .inl x=>x.1.1=false/\P.tableFrom pw np (ps.map toPg) 0 (ps.map toPg)=false
      | .inr _=>P.tableFrom pw np (ps.map toPg) 0 (ps.map toPg)=true) (some (Sum.inl ((q,(k:Int)+1,()),(),()))):=fun hs=>by
      rw [hs,Bool.true_and] at hp
      refine tot_some ?_
      simp only [Sum.elim_inl]
      exact ⟨⟨k+1,by omega,by omega,hp⟩,by omega⟩
     have st:P.pageOK pw np (ps.map toPg) k (toPg (xk,xs,xu,xp,()))=if xk=0 then P.freeOK (toPg (xk,xs,xu,xp,())) else if xk=1 then P.smallOK pw (toPg (xk,xs,xu,xp,())) else if xk=2 then P.largeOK pw np (ps.map toPg) k (toPg (xk,xs,xu,xp,())) else if xk=3 then P.tailOK pw np (ps.map toPg) k (toPg (xk,xs,xu,xp,())) else false:=rfl
     rw [st] at bad good
     refine tot_need (inB_iff.2 ⟨by omega,by omega⟩) (tot_cond (fun h2=>bad ?_) fun h2=>?_)
     · simp only [Bool.not_eq_true',decide_eq_false_iff_not] at h2
       rw [if_neg (by omega),if_neg (by omega),if_neg (by omega),if_neg (by omega)]
     simp only [Bool.not_eq_false',decide_eq_true_eq] at h2
     refine tot_cond (fun c0=>?_) fun c0=>?_
     · have c0:=of_decide_eq_true c0
       rw [if_pos c0] at bad good
       rw [hfree c0,Option.bind_some]
       exact tot_cond (fun h3=>bad (by simpa using h3)) fun h3=>good (by simpa using h3)
     have c0:=of_decide_eq_false c0
     rw [if_neg c0] at bad good
     refine tot_cond (fun c1=>?_) fun c1=>?_
     · have c1:=of_decide_eq_true c1
       rw [if_pos c1] at bad good
       rw [hsmall,Option.bind_some]
       exact tot_cond (fun h3=>bad (by simpa using h3)) fun h3=>good (by simpa using h3)
     have c1:=of_decide_eq_false c1
     rw [if_neg c1] at bad good
     refine tot_cond (fun c2=>?_) fun c2=>?_
     · have c2:=of_decide_eq_true c2
       rw [if_pos c2] at bad good
       refine tot_bind hlarge fun r hr=>?_
       rw [<-hr] at bad good
       exact tot_cond (fun h3=>bad (by simpa using h3)) fun h3=>good (by simpa using h3)
     have c2:=of_decide_eq_false c2
     rw [if_neg c2] at bad good
     refine tot_cond (fun c3=>?_) fun c3=>?_
     · have c3:=of_decide_eq_true c3
       rw [if_pos c3] at bad good
       refine tot_bind htail fun r hr=>?_
       rw [<-hr] at bad good
       exact tot_cond (fun h3=>bad (by simpa using h3)) fun h3=>good (by simpa using h3)
     · have c3:=of_decide_eq_false c3
       omega
   · simp only [decide_eq_false_iff_not] at h1
     rw [P.table_end (by omega)] at hp
     simp only [Sum.elim_inr]
     exact hp.symm
 · subst hx;exact tot_some (hr.1.trans hr.2.symm)
 · subst hx;exact tot_some hr.symm
theorem T_page_isSmall (ps:List PgD) (b:Int) (hb:¬b = -1) (hl:ps.length<=100000000):F_page_isSmall (ps,b,())=some ((P.bumpB (ps.map toPg) b,()),()):=by
 rw [nf_page_isSmall];dsimp only
 rw [T_page_within,Option.bind_some]
 dsimp only
 have w1:W ((ps.length:Int) - 1)=ps.length - 1:=W_id (by omega)
 have hlm:(ps.map toPg).length=ps.length:=List.length_map ..
 rw [w1]
 unfold P.bumpB
 rw [hlm,map_getD]
 by_cases h:0<=b/\b<=(ps.length:Int) - 1
 · rw [decide_eq_true h,inB_iff.2 ⟨h.1,by omega⟩]
   have:decide (b = -1\/0<=b/\b < (ps.length:Int)/\(toPg (ps.getD b.toNat PG0)).kind=1)=((ps.getD b.toNat PG0).1 == 1):=by
    rw [Bool.eq_iff_iff,decide_eq_true_eq,beq_iff_eq]
    constructor
    · rintro (e | e)
      · exact absurd e hb
      · exact e.2.2
    · intro e;exact .inr ⟨h.1,by omega,e⟩
   rw [this];rfl
 · rw [decide_eq_false h]
   have:decide (b = -1\/0<=b/\b < (ps.length:Int)/\(toPg (ps.getD b.toNat PG0)).kind=1)=false:=decide_eq_false (by
    rintro (e | e)
    · exact hb e
    · exact h ⟨e.1,by omega⟩)
   rw [this];rfl
theorem T_page_Proper (h:HpD) (hw:HpW h):Tot (fun r=>r.1.1=P.okH (toHp h)) (F_page_Proper (h,())):=by
 obtain ⟨⟨pw,np,_⟩,ws,ps,sp,bu,_⟩:=h
 have hl:=hw.pl
 have hwl:=hw.wl
 dsimp only at hl hwl
 have hlm:(ps.map toPg).length=ps.length:=List.length_map ..
 have e:P.okH (toHp ((pw,np,()),ws,ps,sp,bu,()))=(confB pw np && decide ((ws.length:Int)=np*pw) && decide ((ps.length:Int)=np) && P.spaceB sp && P.bumpB (ps.map toPg) bu && P.tableOK pw np (ps.map toPg)):=by
  show P.properB pw np ws.length (ps.map toPg) sp bu=_
  rw [<-P.properP_B,<-confB_eq]
  unfold P.properP
  rw [hlm]
 rw [e]
 rw [nf_page_Proper];dsimp only
 rw [T_page_ValidConf,Option.bind_some]
 refine tot_cond (fun h1=>tot_some ?_) fun h1=>?_
 · simp only [Bool.not_eq_true'] at h1;rw [h1];rfl
 simp only [Bool.not_eq_false'] at h1
 have c2:=confB_iff.1 h1
 have cm:=P.conf_prod (pw:=pw) (np:=np) (by rw [confB_eq];exact h1)
 rw [h1,Bool.true_and,T_page_size,Option.bind_some]
 dsimp only
 rw [cor,Int.mul_comm pw np,W_id (n:=np*pw) (by omega)]
 refine tot_cond (fun h2=>tot_some ?_) fun h2=>?_
 · simp only [Bool.or_eq_true,bne_iff_ne,ne_eq] at h2
   rcases h2 with h2 | h2
   · rw [decide_eq_false h2];rfl
   · rw [decide_eq_false (p:=(ps.length:Int)=np) h2];simp
 simp only [Bool.or_eq_false_iff,bne_eq_false_iff_eq] at h2
 rw [decide_eq_true h2.1,decide_eq_true h2.2,T_page_isSpace,Option.bind_some]
 simp only [Bool.true_and]
 refine tot_cond (fun h3=>tot_some ?_) fun h3=>?_
 · simp only [Bool.not_eq_true'] at h3;rw [h3];rfl
 simp only [Bool.not_eq_false'] at h3
 rw [h3,Bool.true_and]
 have fin:∀ b:Bool,b=true->Tot (fun r=>r.1.1=(b && P.tableOK pw np (ps.map toPg))) ((F_page_table_proper (((pw,np,()),ps,()),())).bind fun (r:(Bool × Unit) × Unit)=>some ((r.1.1,()),())):=fun b hb=>tot_bind (T_page_table_proper pw np ps hl) fun r hr=>tot_some (by rw [hb,Bool.true_and];exact hr)
 refine tot_cond (fun h4=>?_) fun h4=>fin _ ?_
 · simp only [bne_iff_ne,ne_eq] at h4
   rw [T_page_isSmall ps bu h4 hl,Option.bind_some]
   refine tot_cond (fun h5=>tot_some ?_) fun h5=>fin _ (by simpa using h5)
   simp only [Bool.not_eq_true'] at h5;rw [h5];rfl
 · simp only [bne_eq_false_iff_eq] at h4
   subst h4
   unfold P.bumpB;exact decide_eq_true (.inl rfl)
end Go.VI
namespace Go.VI
open Go
theorem T_arena_locate (ws:List Int) (a:Int) (n:Nat) (hl:ws.length<=100000000) (hn:n<=100000000) (ha:0<=a/\a < 18446744073709551616):F_arena_locate (ws,a,(n:Int),())=some (((if P.okA ws.length a n then a - 4096 else 0),(if P.okA ws.length a n then 0 else 2),()),()):=by
 rw [nf_arena_locate];dsimp only
 rw [decide_eq_false (show ¬(n:Int) < 0 by omega),U_id (n:=(ws.length:Int)) (by omega),U_id (n:=(n:Int)) (by omega)]
 by_cases h1:a < 4096
 · have:P.okA ws.length a n=false:=by rw [<-Bool.not_eq_true,P.okA_iff];omega
   rw [decide_eq_true h1,this];rfl
 have u1:U (a - 4096)=a - 4096:=U_id (by omega)
 rw [decide_eq_false h1,u1]
 by_cases h2:a - 4096 > (ws.length:Int)
 · have:P.okA ws.length a n=false:=by rw [<-Bool.not_eq_true,P.okA_iff];omega
   rw [decide_eq_true h2,this];rfl
 have u2:U ((ws.length:Int) - (a - 4096))=ws.length - (a - 4096):=U_id (by omega)
 have w1:W (a - 4096)=a - 4096:=W_id (by omega)
 rw [decide_eq_false h2,u2,w1]
 by_cases h3:(n:Int) > (ws.length:Int) - (a - 4096)
 · have:P.okA ws.length a n=false:=by rw [<-Bool.not_eq_true,P.okA_iff];omega
   rw [decide_eq_true h3,this];rfl
 · have:P.okA ws.length a n=true:=by rw [P.okA_iff];omega
   rw [decide_eq_false h3,this];rfl
theorem T_bits_Ones (n:Int):F_bits_Ones (n,())=some ((P.onesV n,()),()):=by
 rw [nf_bits_Ones];dsimp only
 by_cases h:n < 0
 · rw [decide_eq_true h,P.onesV_neg n h];rfl
 · rw [decide_eq_false h]
   have e:U (U (1*2 ^ min n.toNat IntKind.u64.bits) - 1)=P.onesV n:=by
    have hb:IntKind.u64.bits=64:=rfl
    rw [hb,Int.one_mul]
    unfold P.onesV
    by_cases hc:n.toNat < 64
    · rw [show min n.toNat 64=n.toNat from by omega]
      have h1:=P.ipow_lt64 n.toNat hc
      have h2:=P.ipow_pos2 n.toNat
      rw [U_id (n:=2 ^ n.toNat) (by omega),U_id (by omega)]
    · rw [show min n.toNat 64=64 from by omega];rfl
   rw [e];rfl
theorem T_header_Valid (k n m:Int) (hm:0<=m/\m < 4294967296):F_header_Valid ((k,n,m,()),())=some ((P.validB k n m,()),()):=by
 rw [nf_header_Valid];dsimp only
 have key:∀ {o:Option ((Bool × Unit) × Unit)},Tot (fun r=>r.1.1=P.validB k n m) o->o=some ((P.validB k n m,()),()):=fun h=>by
  obtain ⟨⟨⟨(b:Bool),_⟩,_⟩,rfl,e⟩:=h
  have e:b=P.validB k n m:=e
  rw [e]
 refine key (tot_cond (fun h=>?_) fun h=>?_)
 · simp only [beq_iff_eq] at h
   subst h
   refine tot_cond (fun h1=>tot_cond (fun h2=>?_) fun h2=>tot_some ?_) fun h1=>tot_some ?_
   · simp only [decide_eq_true_eq,ge_iff_le] at h1 h2
     rw [T_bits_Ones,Option.bind_some]
     refine tot_some ?_
     dsimp only
     rw [U_id (n:=m) (by omega)]
     by_cases h3:m<=P.onesV n
     · rw [decide_eq_true h3,P.valid_mk ⟨by omega,by omega,h1,by omega,fun _=>⟨h2,(P.ones_map h1 h2).1 h3⟩,fun c=>absurd rfl c⟩]
     · rw [decide_eq_false h3,P.map_no h1 h2 (by omega)]
   · simp only [decide_eq_false_iff_not] at h2
     exact (P.valid_no (fun c=>h2 (c.2.2.2.2.1 rfl).1)).symm
   · simp only [decide_eq_false_iff_not,ge_iff_le] at h1
     exact (P.valid_no (fun c=>h1 c.2.2.1)).symm
 · simp only [beq_eq_false_iff_ne,ne_eq] at h
   refine tot_cond (fun h1=>tot_some ?_) fun h1=>tot_some ?_
   · have hk:k=0\/k=2\/k=3:=by
      by_cases c0:k=0
      · exact .inl c0
      · by_cases c2:k=2
        · exact .inr (.inl c2)
        · rw [show (k == 0)=false from by simpa using c0,show (k == 2)=false from by simpa using c2] at h1
          simp only [cond_false,beq_iff_eq] at h1
          exact .inr (.inr h1)
     dsimp only
     have e:((k == k) && ((n == n) && ((m == 0) && true)))=(m == 0):=by simp
     rw [e]
     by_cases q1:0<=n
     · by_cases q2:n<=255
       · rw [decide_eq_true (show n >= 0 from q1),decide_eq_true q2]
         by_cases q3:m=0
         · rw [P.valid_plain hk q1 q2 q3,q3];rfl
         · rw [P.valid_no (fun c=>q3 (c.2.2.2.2.2 h))];simp [q3]
       · rw [decide_eq_true (show n >= 0 from q1),decide_eq_false q2,P.valid_no (fun c=>q2 c.2.2.2.1)];rfl
     · rw [decide_eq_false (show ¬n >= 0 from q1),P.valid_no (fun c=>q1 c.2.2.1)];rfl
   · rw [P.valid_no]
     rintro ⟨q1,q2,-⟩
     have hk:k=0\/k=2\/k=3:=by omega
     rcases hk with e | e | e <;> subst e <;> simp at h1
theorem T_header_Size (k n m:Int) (hm:0<=m/\m < 4294967296):F_header_Size ((k,n,m,()),())=some ((P.sizeV k n m,()),()):=by
 rw [nf_header_Size];dsimp only
 rw [T_header_Valid k n m hm,Option.bind_some]
 dsimp only
 cases h:P.validB k n m
 · rw [P.size_no h];rfl
 · have:=P.valid_parts h
   rw [P.size_ok h,W_id (n:=n+1) (by omega)];rfl
end Go.VI
namespace Go.VI
open Go
theorem T_r01_Same (l:List Int) (hl:l.length<=100000000):Tot (fun r=>r.1.1=true) (F_r01_Same (l,l,())):=by
 rw [nf_r01_Same];dsimp only
 refine tot_cond (fun h=>by simp at h) fun _=>?_
 refine tot_bind (P:=fun r=>match r with | .inl _=>False | .inr _=>True) (tot_loop (fun x=>∃ k:Nat,x.1.2.1=(k:Int)/\k<=l.length) (fun x=>((l.length:Int) - x.1.2.1).toNat) ⟨0,rfl,by omega⟩ ?_) fun r hr=>tot_sum (fun x hx=>?_) fun x hx=>tot_some rfl
 · rintro ⟨⟨(q:Bool),(i:Int),_⟩,_⟩ ⟨k,e,hk⟩
   dsimp only at e ⊢
   subst e
   refine tot_cond (fun h1=>?_) fun h1=>tot_some trivial
   simp only [decide_eq_true_eq] at h1
   have hin:inB (k:Int) l.length=true:=inB_iff.2 ⟨by omega,by omega⟩
   refine tot_need hin (tot_need hin (tot_cond (fun h=>by simp at h) fun _=>tot_some ?_))
   rw [W_id (by omega)]
   exact ⟨⟨k+1,by dsimp only;omega,by omega⟩,by dsimp only;omega⟩
 · subst hx;exact hr.elim
theorem T_arena_duplicate (ws:List Int) (hl:ws.length<=100000000):F_arena_duplicate (ws,())=some ((ws,()),()):=by
 rw [nf_arena_duplicate];dsimp only
 rw [decide_eq_true (show 0<=(ws.length:Int)/\(ws.length:Int)<=ws.length by omega),Int.toNat_natCast,small_iff.2 (by omega),List.length_replicate,List.take_length,List.drop_of_length_le (by rw [List.length_replicate];exact Nat.le_refl _),List.append_nil]
 rfl
theorem T_arena_Write (ws:List Int) (a:Int) (l:List Int) (hl:ws.length<=100000000) (hl2:l.length<=100000000) (ha:0<=a/\a < 18446744073709551616):F_arena_Write (ws,a,l,())=some ((P.writeV ws a l,P.writeE ws a l,()),()):=by
 rw [nf_arena_Write];dsimp only
 rw [T_arena_locate ws a l.length hl hl2 ha,Option.bind_some,T_arena_duplicate ws hl,Option.bind_some]
 dsimp only
 unfold P.writeV P.writeE
 cases h:P.okA ws.length a l.length
 · rfl
 · have:=P.okA_iff.1 h
   simp only [if_true]
   obtain ⟨i,hi⟩:∃ i:Nat,a - 4096=(i:Int):=⟨(a - 4096).toNat,by omega⟩
   rw [hi,Int.toNat_natCast,show ((ws.length:Int) - (i:Int)).toNat=ws.length - i from by omega,decide_eq_true (show 0<=(i:Int)/\(i:Int)<=ws.length/\(ws.length:Int)<=ws.length by omega),List.take_of_length_le (l:=l) (by omega),show min l.length (ws.length - i)=l.length from by omega]
   have:Go.splice ws i l=ws.take i ++ (l ++ ws.drop (i+l.length)):=rfl
   rw [this];rfl
theorem T_slices_Clone_api_Page (ps:List PgD) (hl:ps.length<=100000000):F_slices_Clone_api_Page (ps,())=some ((ps,()),()):=by
 unfold F_slices_Clone_api_Page cloneF
 have:∀ b,b<=1000->small (0+ps.length) b=true:=fun b hb=>small_iff.2 (by
  rw [Nat.zero_add]
  calc ps.length*b<=100000000*1000:=Nat.mul_le_mul hl hb
   _<=_:=by decide)
 show cond (small (0+ps.length) _) _ _=_
 rw [this _ (by decide)];rfl
theorem T_object_write (h:HpD) (hw:HpW h) (a:Int) (l:List Int) (hl:l.length<=100000000) (ha:0<=a/\a < 18446744073709551616):F_object_write (h,a,l,())=some (((if P.writeE h.2.1 a l=0 then (h.1,P.writeV h.2.1 a l,h.2.2) else H0),P.writeE h.2.1 a l,()),()):=by
 obtain ⟨⟨pw,np,_⟩,ws,ps,sp,bu,_⟩:=h
 have h1:=hw.wl
 have h2:=hw.pl
 dsimp only at h1 h2
 rw [nf_object_write];dsimp only
 rw [T_arena_Write ws a l h1 hl ha,Option.bind_some,T_slices_Clone_api_Page ps h2,Option.bind_some]
 dsimp only
 by_cases h:P.writeE ws a l=0
 · rw [h];rfl
 · rw [if_neg h,show (P.writeE ws a l != 0)=true from by simpa using h];rfl
end Go.VI
namespace Go.VI
open Go
theorem law_key {o:Option ((Bool × Unit) × Unit)} (h:Tot (fun r=>r.1.1=true) o):o=some ((true,()),()):=by
 obtain ⟨⟨⟨(b:Bool),_⟩,_⟩,rfl,e⟩:=h
 have e:b=true:=e
 rw [e]
abbrev LX:=(Bool × Int × Unit) × Unit × Unit
abbrev LY:=(Bool × Unit) × Unit × Unit ⊕ (Bool × Unit) × Unit × Unit
theorem tot_each {n:Nat} {q0:Bool} {g:LX->Option (LX ⊕ LY)} (hn:n<=1000000000) (h:∀ (q:Bool) (k:Nat),k < n->Tot (fun r=>∃ q',r = .inl ((q',(k:Int)+1,()),(),())) (g ((q,(k:Int),()),(),()))) :
 Tot (fun (r:LY)=>∃ y,r = .inr y) (rl LX LY (fun x=>bif decide (x.1.2.1 < (n:Int)) then bif inB x.1.2.1 n then g x else none else some (Sum.inr (Sum.inr ((x.1.1,()),(),())))) ((q0,0,()),(),())):=by
 refine tot_loop (fun x=>∃ k:Nat,x.1.2.1=(k:Int)/\k<=n) (fun x=>((n:Int) - x.1.2.1).toNat) ⟨0,rfl,by omega⟩ ?_
 rintro ⟨⟨(q:Bool),(i:Int),_⟩,_⟩ ⟨k,e,hk⟩
 dsimp only at e ⊢
 subst e
 refine tot_cond (fun h1=>?_) fun h1=>tot_some ⟨_,rfl⟩
 simp only [decide_eq_true_eq] at h1
 refine tot_need (inB_iff.2 ⟨by omega,by omega⟩) ((h q k (by omega)).mono ?_)
 rintro _ ⟨q',rfl⟩
 exact ⟨⟨k+1,by dsimp only;omega,by omega⟩,by dsimp only;omega⟩
end Go.VI
namespace Go.VI.P
open Go
open Go.RowKit
structure Good (h:Hp):Prop where
 ok:okH h=true
 sp:∀ (k:Nat) (g:Pg),h.pages[k]?=some g->g.kind=0\/g.space=h.space
 pg:∀ k:Nat,k < h.pages.length->pageE h k=0
 cls:∀ (k:Nat) (g:Pg),h.pages[k]?=some g->∀ x∈pageV h k,(g.kind=1->sizeV (atH h x).k (atH h x).n (atH h x).m<=smallV h.pw h.np)/\(g.kind=2->¬(atH h x).k=0)
 zero:∀ p:Int,4096<=p->p < 4096+h.np*h.pw->(∃ x∈startsV h,x<=p/\p < x+usedZ h x)\/loadV h.words p=0
 ptr:∀ a∈objectsV h,∀ i:Int,ptrB (atH h a).k (atH h a).n (atH h a).m i=true->loadV h.words (a+1+i)=0\/loadV h.words (a+1+i)∈objectsV h
 crowd:(crowdN h.pages:Int)<=h.np / 4
theorem pgAt_at {h:Hp} {k:Nat} {g:Pg} (e:h.pages[k]?=some g):pgAt h k=g:=by
 unfold pgAt;rw [Int.toNat_natCast];exact getD_at e
theorem findD_zero {P:Int->Bool}:∀ {l:List Int},(∀ x∈l,¬x=0)->(findD P l=0↔∀ x∈l,P x=false)
 | [],_=>by simp [findD]
 | a :: l,h=>by
  rw [findD]
  cases hp:P a
  · simp only [Bool.false_eq_true,if_false]
    rw [findD_zero fun x hx=>h x (List.mem_cons_of_mem _ hx)]
    constructor
    · intro h2 x hx
      rcases List.mem_cons.1 hx with e | e
      · rw [e];exact hp
      · exact h2 x e
    · intro h2 x hx;exact h2 x (List.mem_cons_of_mem _ hx)
  · simp only [if_true]
    constructor
    · intro e;exact absurd e (h a (List.mem_cons_self ..))
    · intro h2;have:=h2 a (List.mem_cons_self ..);rw [hp] at this;cases this
theorem dirtGo_zero (h:Hp) (i:Nat) (hb:0<=h.pw):∀ (l:List Bool) (k:Nat),dirtGo h i k l=0↔∀ t b,l[t]?=some b->b=true\/pageX h i ((k+t:Nat):Int)=0
 | [],k=>by simp [dirtGo]
 | c :: l,k=>by
  rw [dirtGo]
  have hpos:0<=(i:Int)*h.pw:=Int.mul_nonneg (by omega) hb
  by_cases hc:c=false/\¬pageX h i k=0
  · rw [if_pos hc]
    constructor
    · intro e;omega
    · intro h2
      have:=h2 0 c rfl
      rw [hc.1] at this
      rcases this with e | e
      · cases e
      · exact absurd e hc.2
  · rw [if_neg hc,dirtGo_zero h i hb l (k+1)]
    constructor
    · intro h2 t b ht
      cases t with
      | zero =>
       simp only [List.getElem?_cons_zero,Option.some.injEq] at ht
       subst ht
       by_cases q:pageX h i k=0
       · right;exact q
       · left
         cases c
         · exact absurd ⟨rfl,q⟩ hc
         · rfl
      | succ t =>
       rw [List.getElem?_cons_succ] at ht
       have:=h2 t b ht
       rwa [show k+1+t=k+(t+1) from by omega] at this
    · intro h2 t b ht
      have:=h2 (t+1) b (by rw [List.getElem?_cons_succ];exact ht)
      rwa [show k+(t+1)=k+1+t from by omega] at this
theorem pagesFrom_zero (h:Hp):∀ (n i:Nat),(pagesFrom h i n).fault=0↔∀ k,i<=k->k < i+n->(pageF h k).fault=0
 | 0,i=>by
  constructor
  · intro _ k h1 h2;omega
  · intro _;rfl
 | n+1,i=>by
  rw [pagesFrom]
  by_cases e:(pageF h i).fault=0
  · rw [if_neg (by simpa using e),pagesFrom_zero h n (i+1)]
    constructor
    · intro h2 k h3 h4
      by_cases hk:k=i
      · rw [hk];exact e
      · exact h2 k (by omega) (by omega)
    · intro h2 k h3 h4;exact h2 k (by omega) (by omega)
  · rw [if_pos e]
    constructor
    · intro h2;exact absurd h2 e
    · intro h2;exact h2 i (Nat.le_refl _) (by omega)
theorem badFrom_none (all:List Int) (x:Hd):∀ (l:List Int) (k:Nat),badFrom all x k l=none↔∀ t f,l[t]?=some f->ptrB x.k x.n x.m ((k+t:Nat):Int)=true->f=0\/f∈all
 | [],k=>by simp [badFrom]
 | c :: l,k=>by
  rw [badFrom]
  by_cases hc:ptrB x.k x.n x.m k=true/\¬c=0/\¬c∈all
  · rw [if_pos hc]
    constructor
    · intro e;cases e
    · intro h2
      rcases h2 0 c rfl hc.1 with e | e
      · exact absurd e hc.2.1
      · exact absurd e hc.2.2
  · rw [if_neg hc,badFrom_none all x l (k+1)]
    constructor
    · intro h2 t f ht hp
      cases t with
      | zero =>
       simp only [List.getElem?_cons_zero,Option.some.injEq] at ht
       subst ht
       by_cases q:c=0
       · left;exact q
       · by_cases q2:c∈all
         · right;exact q2
         · exact absurd ⟨hp,q,q2⟩ hc
      | succ t =>
       rw [List.getElem?_cons_succ] at ht
       exact h2 t f ht (by rwa [show k+1+t=k+(t+1) from by omega])
    · intro h2 t f ht hp
      exact h2 (t+1) f (by rw [List.getElem?_cons_succ];exact ht) (by rwa [show k+(t+1)=k+1+t from by omega])
theorem ptrsGo_zero (h:Hp) (all:List Int):∀ l:List Int,(ptrsGo h all l).fault=0↔∀ x∈l,badFrom all (getH h x) 0 (fieldsV h x)=none
 | []=>by simp [ptrsGo,Fd.none]
 | c :: l=>by
  rw [ptrsGo]
  cases hc:badFrom all (getH h c) 0 (fieldsV h c) with
  | some k =>
   constructor
   · intro e;cases e
   · intro h2;have:=h2 c (List.mem_cons_self ..);rw [hc] at this;cases this
  | none =>
   simp only
   rw [ptrsGo_zero h all l]
   constructor
   · intro h2 x hx
     rcases List.mem_cons.1 hx with e | e
     · rw [e];exact hc
     · exact h2 x e
   · intro h2 x hx;exact h2 x (List.mem_cons_of_mem _ hx)
theorem obj_get {h:Hp} {a:Int} (ha:a∈objectsV h):getE h a=0/\getH h a=atH h a:=by
 obtain ⟨e1,e2⟩:=objectsV_at ha
 obtain ⟨h1,-⟩:=at_in e1
 have hb:=at_bd e1
 obtain ⟨g1,g2⟩:=getE_at (a:=a) h1 (by omega) (fun c=>e2 c.2)
 exact ⟨by rw [g1];exact e1,g2⟩
theorem obj_field {h:Hp} {a:Int} (ha:a∈objectsV h) {t:Nat} (ht:(t:Int) < (atH h a).n):(fieldsV h a)[t]?=some (loadV h.words (a+1+t)):=by
 obtain ⟨g1,g2⟩:=obj_get ha
 obtain ⟨i,j,G,b⟩:=objects_begin ha
 have hwl:=b.wl
 have hp:=b.pos
 unfold osz at hwl
 unfold fieldsV
 rw [if_pos g1,g2]
 obtain ⟨n,hn⟩:=Int.eq_ofNat_of_zero_le (show 0<=(atH h a).n by omega)
 rw [hn] at ht hwl ⊢
 obtain ⟨s,hs⟩:∃ s:Nat,a+1=4096+(s:Int):=⟨(a+1 - 4096).toNat,by omega⟩
 have hok:okA h.words.length (4096+(s:Int)) n=true:=okA_iff.2 (by omega)
 rw [hs,(read_ok hok).1,List.getElem?_take,if_pos (by omega),List.getElem?_drop]
 have hlt:s+t < h.words.length:=by omega
 have ho:okA h.words.length (4096+((s+t:Nat):Int)) 1=true:=okA_iff.2 (by omega)
 rw [show 4096+(s:Int)+t=4096+((s+t:Nat):Int) from by omega,(load_ok' ho (List.getElem?_eq_getElem hlt)).1,List.getElem?_eq_getElem hlt]
theorem fields_len {h:Hp} {a:Int} (ha:a∈objectsV h):((fieldsV h a).length:Int)=(atH h a).n:=by
 obtain ⟨g1,g2⟩:=obj_get ha
 obtain ⟨i,j,G,b⟩:=objects_begin ha
 have hwl:=b.wl
 have hp:=b.pos
 unfold osz at hwl hp
 unfold fieldsV
 rw [if_pos g1,g2]
 obtain ⟨n,hn⟩:=Int.eq_ofNat_of_zero_le (show 0<=(atH h a).n by omega)
 rw [hn] at hwl ⊢
 obtain ⟨s,hs⟩:∃ s:Nat,a+1=4096+(s:Int):=⟨(a+1 - 4096).toNat,by omega⟩
 have hok:okA h.words.length (4096+(s:Int)) n=true:=okA_iff.2 (by omega)
 rw [hs,(read_ok hok).1,List.length_take,List.length_drop]
 omega
theorem headAt_is {ps:List Pg} {k:Nat} (h0:¬(ps.getD k Pg.zero).kind=3):∀ (d:Nat),(∀ t,k < t->t<=k+d->(ps.getD t Pg.zero).kind=3)->headAt ps (k+d)=k
 | 0,_=>by
  cases k with
  | zero=>rfl
  | succ j=>rw [Nat.add_zero,headAt,if_neg h0]
 | d+1,hd=>by
  rw [show k+(d+1)=(k+d)+1 from rfl,headAt,if_pos (hd (k+d+1) (by omega) (by omega))]
  exact headAt_is h0 d fun t h1 h2=>hd t h1 (by omega)
theorem starts_mem {h:Hp} (h1:okH h=true) (h2:∀ k:Nat,k < h.pages.length->pageE h k=0) {x:Int}:x∈startsV h↔∃ k:Nat,k < h.pages.length/\x∈pageV h k:=by
 rw [(starts_ok h1 h2).2]
 unfold startsTo
 rw [List.mem_flatMap]
 constructor
 · rintro ⟨k,hk,hx⟩;exact ⟨k,List.mem_range.1 hk,hx⟩
 · rintro ⟨k,hk,hx⟩;exact ⟨k,List.mem_range.2 hk,hx⟩
theorem loadV_page {h:Hp} {i:Nat} {t:Nat} (hc:confB h.pw h.np=true) (hi:(i:Int) < h.np) (ht:(t:Int) < h.pw):pageX h i (t:Int)=loadV h.words (4096+(i:Int)*h.pw+t):=by
 unfold pageX
 rw [(addr_ok hc (by unfold inPg;exact decide_eq_true ⟨by omega,hi,by omega,ht⟩)).1]
theorem page_split {pw np p:Int} (hc:confB pw np=true) (h0:4096<=p) (h1:p < 4096+np*pw):∃ (i t:Nat),p=4096+(i:Int)*pw+t/\(i:Int) < np/\(t:Int) < pw:=by
 have c:=conf_parts hc
 have e1:=Int.mul_ediv_add_emod (p - 4096) pw
 have e2:=Int.emod_nonneg (p - 4096) (b:=pw) (by omega)
 have e3:=Int.emod_lt_of_pos (p - 4096) (b:=pw) (by omega)
 have e4:=Int.ediv_nonneg (a:=p - 4096) (b:=pw) (by omega) (by omega)
 have e5:(p - 4096) / pw < np:=Int.ediv_lt_of_lt_mul (by omega) (by omega)
 rw [Int.mul_comm] at e1
 generalize (p - 4096) / pw=I at *
 refine ⟨I.toNat,((p - 4096) % pw).toNat,?_,by omega,by omega⟩
 rw [Int.toNat_of_nonneg e4,Int.toNat_of_nonneg e2];omega
theorem usedV_get (h:Hp) (i:Nat) (l:List Int) {t:Nat} (ht:(t:Int) < h.pw):(usedV h i l)[t]?=some (usedB h i l t):=by
 unfold usedV
 rw [List.getElem?_map,List.getElem?_range (by omega)];rfl
theorem used_mem {h:Hp} {i t:Nat} {l:List Int}:usedB h i l t=true↔∃ x∈l,x<=4096+(i:Int)*h.pw+t/\4096+(i:Int)*h.pw+t < x+usedZ h x:=by
 unfold usedB
 rw [List.any_eq_true]
 constructor
 · rintro ⟨x,hx,h1⟩;exact ⟨x,hx,by simp only [decide_eq_true_eq] at h1;omega⟩
 · rintro ⟨x,hx,h1⟩;exact ⟨x,hx,decide_eq_true (by omega)⟩
theorem pages_len {h:Hp} (h1:okH h=true):(h.pages.length:Int)=h.np:=(okH_parts h1).2.2.1
theorem page_begins {h:Hp} (h1:okH h=true) {k:Nat} (hk:k < h.pages.length) {x:Int} (hx:x∈pageV h k):∃ j g,Begins h x k j g:=by
 obtain ⟨j,g,b⟩:=(pageV_sorted h1 k hk).2 x hx
 exact ⟨j,g,b⟩
theorem usedZ_osz {h:Hp} {x:Int} (e:atE h x=0):usedZ h x<=osz h x:=by
 obtain ⟨h1,h2,h3,h4,h5,h6⟩:=at_in e
 unfold usedZ osz
 split
 · omega
 · rw [size_ok h2];omega
theorem good_iff (h:Hp):goodB h=true↔Good h:=by
 unfold goodB
 rw [decide_eq_true_eq]
 by_cases hok:okH h=true
 · have hc:=(okH_parts hok).1
   have c:=conf_parts hc
   have hlen:=pages_len hok
   have hpage:∀ k:Nat,k < h.pages.length->((pageF h k).fault=0↔((pgAt h k).kind=0\/(pgAt h k).space=h.space)/\pageE h k=0/\clsV h k (pageV h k)=0/\dirtV h k=0):=fun k hk=>by
    unfold pageF
    by_cases q1:¬(pgAt h k).kind=0/\¬(pgAt h k).space=h.space
    · rw [if_pos q1]
      constructor
      · intro e;cases e
      · rintro ⟨e,-⟩;rcases e with e | e
        · exact absurd e q1.1
        · exact absurd e q1.2
    rw [if_neg q1]
    have q1':(pgAt h k).kind=0\/(pgAt h k).space=h.space:=by
     by_cases e:(pgAt h k).kind=0
     · exact .inl e
     · by_cases e2:(pgAt h k).space=h.space
       · exact .inr e2
       · exact absurd ⟨e,e2⟩ q1
    by_cases q2:¬pageE h k=0
    · rw [if_pos q2]
      constructor
      · intro e;cases e
      · rintro ⟨-,e,-⟩;exact absurd e q2
    rw [if_neg q2]
    by_cases q3:¬clsV h k (pageV h k)=0
    · rw [if_pos q3]
      constructor
      · intro e;cases e
      · rintro ⟨-,-,e,-⟩;exact absurd e q3
    rw [if_neg q3]
    by_cases q4:¬dirtV h k=0
    · rw [if_pos q4]
      constructor
      · intro e;cases e
      · rintro ⟨-,-,-,e⟩;exact absurd e q4
    rw [if_neg q4]
    constructor
    · intro _;exact ⟨q1',Decidable.not_not.1 q2,Decidable.not_not.1 q3,Decidable.not_not.1 q4⟩
    · intro _;rfl
   have hcls:∀ k:Nat,k < h.pages.length->(clsV h k (pageV h k)=0↔∀ x∈pageV h k,((pgAt h k).kind=1->sizeV (atH h x).k (atH h x).n (atH h x).m<=smallV h.pw h.np)/\((pgAt h k).kind=2->¬(atH h x).k=0)):=fun k hk=>by
    unfold clsV
    rw [findD_zero fun x hx e=>by have:=at_bd (pageV_at hx);omega]
    refine forall_congr' fun x=>forall_congr' fun hx=>?_
    unfold clsB
    by_cases a1:(pgAt h k).kind=1 <;> by_cases a2:(pgAt h k).kind=2 <;> by_cases a3:sizeV (atH h x).k (atH h x).n (atH h x).m<=smallV h.pw h.np <;> by_cases a4:(atH h x).k=0 <;> simp [a1,a2,a3,a4]
   have hdirt:∀ k:Nat,k < h.pages.length->(dirtV h k=0↔∀ t:Nat,(t:Int) < h.pw->(∃ x∈pageV h (headAt h.pages k),x<=4096+(k:Int)*h.pw+t/\4096+(k:Int)*h.pw+t < x+usedZ h x)\/loadV h.words (4096+(k:Int)*h.pw+t)=0):=fun k hk=>by
    unfold dirtV
    rw [dirtGo_zero h k (by omega)]
    constructor
    · intro h2 t ht
      rcases h2 t _ (usedV_get h k _ ht) with e | e
      · exact .inl (used_mem.1 e)
      · right
        rw [Nat.zero_add,loadV_page hc (by omega) ht] at e
        exact e
    · intro h2 t b hb
      have ht:(t:Int) < h.pw:=by
       have:=(List.getElem?_eq_some_iff.1 hb).1
       rw [usedV_len] at this;omega
      rw [usedV_get h k _ ht] at hb
      injection hb with hb
      subst hb
      rcases h2 t ht with e | e
      · exact .inl (used_mem.2 e)
      · right
        rw [Nat.zero_add,loadV_page hc (by omega) ht]
        exact e
   have hptr:(pointersF h).fault=0↔∀ a∈objectsV h,∀ i:Int,ptrB (atH h a).k (atH h a).n (atH h a).m i=true->loadV h.words (a+1+i)=0\/loadV h.words (a+1+i)∈objectsV h:=by
    unfold pointersF
    rw [ptrsGo_zero]
    refine forall_congr' fun a=>forall_congr' fun ha=>?_
    rw [badFrom_none,(obj_get ha).2]
    constructor
    · intro h2 i hi
      have hb:=ptr_bd hi
      have hn:i < (atH h a).n:=by
       unfold ptrB at hi
       simp only [Bool.and_eq_true,decide_eq_true_eq] at hi
       exact hi.1.2
      obtain ⟨t,rfl⟩:=Int.eq_ofNat_of_zero_le hb.1
      exact h2 t _ (obj_field ha hn) (by rw [Nat.zero_add];exact hi)
    · intro h2 t f ht hp
      rw [Nat.zero_add] at hp
      have hlt:=(List.getElem?_eq_some_iff.1 ht).1
      have:=fields_len ha
      rw [obj_field ha (by omega)] at ht
      injection ht with ht
      subst ht
      exact h2 t hp
   unfold checkF
   rw [if_pos hok]
   constructor
   · intro hf
     have f1:(pagesFrom h 0 h.pages.length).fault=0:=Decidable.by_contra fun c=>by rw [if_pos c] at hf;exact c hf
     rw [if_neg (by simpa using f1)] at hf
     have f2:(pointersF h).fault=0:=Decidable.by_contra fun c=>by rw [if_pos c] at hf;exact c hf
     rw [if_neg (by simpa using f2)] at hf
     have f3:¬h.np / 4 < (crowdN h.pages:Int):=fun c=>by rw [if_pos c] at hf;cases hf
     have fp:=fun k hk=>(hpage k hk).1 ((pagesFrom_zero h _ 0).1 f1 k (by omega) (by omega))
     have fe:∀ k:Nat,k < h.pages.length->pageE h k=0:=fun k hk=>(fp k hk).2.1
     refine ⟨hok,fun k g hg=>?_,fe,fun k g hg=>?_,fun p p0 p1=>?_,hptr.1 f2,by omega⟩
     · have hk:=(List.getElem?_eq_some_iff.1 hg).1
       have:=(fp k hk).1
       rw [pgAt_at hg] at this
       exact this
     · have hk:=(List.getElem?_eq_some_iff.1 hg).1
       have:=(hcls k hk).1 (fp k hk).2.2.1
       rw [pgAt_at hg] at this
       exact this
     · obtain ⟨i,t,e,hi,ht⟩:=page_split hc p0 p1
       have hk:i < h.pages.length:=by omega
       rcases (hdirt i hk).1 (fp i hk).2.2.2 t ht with ⟨x,hx,h2⟩ | e2
       · left
         refine ⟨x,(starts_mem hok fe).2 ⟨headAt h.pages i,Nat.lt_of_le_of_lt (headAt_le _ _) hk,hx⟩,?_⟩
         rw [e];exact h2
       · right;rw [e];exact e2
   · intro G
     have fe:=G.pg
     have f1:(pagesFrom h 0 h.pages.length).fault=0:=by
      rw [pagesFrom_zero]
      intro k _ hk
      have hk:k < h.pages.length:=by omega
      have hg:h.pages[k]?=some h.pages[k]:=List.getElem?_eq_getElem hk
      refine (hpage k hk).2 ⟨?_,fe k hk,(hcls k hk).2 ?_,(hdirt k hk).2 fun t ht=>?_⟩
      · rw [pgAt_at hg];exact G.sp k _ hg
      · rw [pgAt_at hg];exact G.cls k _ hg
      · have hpp:=page_prod (p:=(k:Int)) hc (by omega) (by omega)
        rcases G.zero (4096+(k:Int)*h.pw+t) (by omega) (by omega) with ⟨x,hx,h2,h3⟩ | e
        · left
          obtain ⟨k2,hk2,hx2⟩:=(starts_mem hok fe).1 hx
          obtain ⟨j,g,b⟩:=page_begins hok hk2 hx2
          have hz:=usedZ_osz (pageV_at hx2)
          obtain ⟨u1,u2,u3,u4⟩:=b.upto
          have hhd:headAt h.pages k=k2:=by
           have hlo:k2<=k:=by
            refine Decidable.by_contra fun c=>?_
            have:((k:Int)+1)*h.pw<=(k2:Int)*h.pw:=Int.mul_le_mul_of_nonneg_right (by omega) (by omega)
            rw [Int.add_mul,Int.one_mul] at this
            omega
           have hhi:(k:Int) < k2+pspan h g:=by
            refine Decidable.by_contra fun c=>?_
            have:((k2:Int)+pspan h g)*h.pw<=(k:Int)*h.pw:=Int.mul_le_mul_of_nonneg_right (by omega) (by omega)
            omega
           obtain ⟨d,rfl⟩:∃ d,k=k2+d:=⟨k - k2,by omega⟩
           refine headAt_is ?_ d fun t2 q1 q2=>?_
           · rw [getD_at b.pg]
             rcases b.kd with ⟨e,-⟩ | ⟨e,-⟩ <;> omega
           · obtain ⟨y,y1,y2⟩:=u4 t2 q1 (by omega)
             rw [getD_at y1];exact y2
          exact ⟨x,by rw [hhd];exact hx2,h2,h3⟩
        · exact .inr e
     rw [if_neg (by simpa using f1),if_neg (by simpa using hptr.2 G.ptr),if_neg (by have:=G.crowd;omega)]
     rfl
 · constructor
   · intro e
     unfold checkF at e
     rw [if_neg hok] at e
     cases e
   · intro G;exact absurd G.ok hok
end Go.VI.P
namespace Go.VI.P
open Go
open Go.RowKit
def Tile (sz:Int->Int):Int->Int->List Int->Prop
 | a,b,[]=>a=b
 | a,b,q :: r=>q=a/\1<=sz q/\Tile sz (a+sz q) b r
theorem tile_le {sz:Int->Int}:∀ {l:List Int} {a b:Int},Tile sz a b l->a<=b
 | [],a,b,h=>by have:a=b:=h;omega
 | q :: r,a,b,h=>by obtain ⟨h1,h2,h3⟩:=h;have:=tile_le h3;omega
theorem tile_mem {sz:Int->Int}:∀ {l:List Int} {a b:Int},Tile sz a b l->∀ q∈l,a<=q/\1<=sz q/\q+sz q<=b
 | [],a,b,h,q,hq=>by cases hq
 | c :: r,a,b,h,q,hq=>by
  obtain ⟨h1,h2,h3⟩:=h
  rcases List.mem_cons.1 hq with e | e
  · subst e;have:=tile_le h3;omega
  · have:=tile_mem h3 q e;omega
theorem tile_snoc {sz:Int->Int}:∀ {l:List Int} {a b c:Int},Tile sz a b l->1<=sz b->c=b+sz b->Tile sz a c (l ++ [b])
 | [],a,b,c,h,h1,e=>by
  have:a=b:=h
  subst this
  exact ⟨rfl,h1,e.symm⟩
 | q :: r,a,b,c,h,h1,e=>⟨h.1,h.2.1,tile_snoc h.2.2 h1 e⟩
theorem tile_congr {sz sz':Int->Int}:∀ {l:List Int} {a b:Int},(∀ q∈l,sz' q=sz q)->Tile sz a b l->Tile sz' a b l
 | [],a,b,_,h=>h
 | q :: r,a,b,he,h=>by
  have e:=he q (List.mem_cons_self ..)
  refine ⟨h.1,by rw [e];exact h.2.1,?_⟩
  rw [e];exact tile_congr (fun c hc=>he c (List.mem_cons_of_mem _ hc)) h.2.2
theorem tile_cover {sz:Int->Int}:∀ {l:List Int} {a b p:Int},Tile sz a b l->a<=p->p < b->∃ q∈l,q<=p/\p < q+sz q
 | [],a,b,p,h,h1,h2=>by have:a=b:=h;omega
 | q :: r,a,b,p,h,h1,h2=>by
  by_cases c:p < a+sz q
  · exact ⟨q,List.mem_cons_self ..,by rw [h.1];exact h1,by have:=h.1;omega⟩
  · obtain ⟨x,hx,h3⟩:=tile_cover h.2.2 (by omega) h2
    exact ⟨x,List.mem_cons_of_mem _ hx,h3⟩
theorem at_mk {h:Hp} (hok:okH h=true) {k j:Nat} {g:Pg} (hg:h.pages[k]?=some g) (hj:(j:Int) < h.pw) {x:Int} (hx:x=4096+(k:Int)*h.pw+j) (hd:okD (wordAt h x)=true)
 (hk:(g.kind=1/\(j:Int)+(dN (wordAt h x)+1)<=g.used)\/(g.kind=2/\j=0/\(dN (wordAt h x):Int)+1=g.used)):atE h x=0/\atH h x=hdOf (wordAt h x):=by
 have hc:=(okH_parts hok).1
 have hlen:=pages_len hok
 have hkl:=(List.getElem?_eq_some_iff.1 hg).1
 obtain ⟨q1,q2,q3⟩:=of_addr (p:=(k:Int)) (o:=(j:Int)) hc (by unfold inPg;exact decide_eq_true ⟨by omega,by omega,by omega,hj⟩)
 obtain ⟨o1,o2,o3⟩:=of_ok hc q1
 rw [<-hx] at o1 o2 o3
 rw [hx] at hd hk
 rw [<-hx] at q1
 have e1:ofI h.pw h.np x=(k:Int):=by rw [o1,hx];exact q2
 have e2:ofK h.pw h.np x=(j:Int):=by rw [o2,hx];exact q3
 have epg:pageOf h x=g:=by unfold pageOf;rw [e1,Int.toNat_natCast];exact getD_at hg
 rw [<-hx] at hd hk
 refine atE_ok hok o3 ?_
 unfold atB
 rw [epg,e2,hd]
 rcases hk with ⟨k1,k2⟩ | ⟨k1,k2,k3⟩
 · rw [if_pos k1,decide_eq_true (show g.kind=1\/g.kind=2 from .inl k1),decide_eq_true (show (j:Int) < g.used by omega),decide_eq_true k2];rfl
 · rw [if_neg (show ¬g.kind=1 by omega),decide_eq_true (show g.kind=1\/g.kind=2 from .inr k1),decide_eq_true (show (j:Int) < g.used by omega),decide_eq_true (show (j:Int)=0/\(dN (wordAt h x):Int)+1=g.used from ⟨by omega,k3⟩)];rfl
theorem tile_walk {h:Hp} (hok:okH h=true) {k:Nat} {g:Pg} (hg:h.pages[k]?=some g) (h1:g.kind=1) (hu:g.used<=h.pw) {sz:Int->Int}:∀ (l:List Int) (o:Nat),Tile sz (4096+(k:Int)*h.pw+o) (4096+(k:Int)*h.pw+g.used) l->(∀ q∈l,okD (wordAt h q)=true/\sz q=dN (wordAt h q)+1)->walkP h k false g.used.toNat o=some l
 | [],o,ht,_=>by
  have:4096+(k:Int)*h.pw+o=4096+(k:Int)*h.pw+g.used:=ht
  exact walk_end (by omega)
 | q :: r,o,ht,hq=>by
  obtain ⟨e1,e2,e3⟩:=ht
  obtain ⟨d1,d2⟩:=hq q (List.mem_cons_self ..)
  have hle:=tile_le e3
  have hc:=(okH_parts hok).1
  have hlen:=pages_len hok
  have hkl:=(List.getElem?_eq_some_iff.1 hg).1
  have ead:addrV h.pw h.np k o=q:=by
   rw [(addr_ok hc (by unfold inPg;exact decide_eq_true ⟨by omega,by omega,by omega,by omega⟩)).1]
   exact e1.symm
  obtain ⟨a1,a2⟩:=at_mk hok hg (j:=o) (by omega) (x:=q) e1 d1 (.inl ⟨h1,by omega⟩)
  have en:(atH h q).n=dN (wordAt h q):=by rw [a2];rfl
  have hs:=walk_step (h:=h) (i:=(k:Int)) (u:=g.used.toNat) (o:=o) (by omega) (by rw [ead];exact a1)
  rw [ead] at hs
  rw [hs,tile_walk hok hg h1 hu r (o+((atH h q).n.toNat+1)) (by
   have:4096+(k:Int)*h.pw+o+sz q=4096+(k:Int)*h.pw+((o+((atH h q).n.toNat+1):Nat):Int):=by rw [en];omega
   rw [<-this];exact e3) (fun x hx=>hq x (List.mem_cons_of_mem _ hx))]
  rfl
theorem small_page {h:Hp} (hok:okH h=true) {k:Nat} {g:Pg} (hg:h.pages[k]?=some g) (h1:g.kind=1) (hu0:0<=g.used) (hu:g.used<=h.pw) {sz:Int->Int} {l:List Int} (ht:Tile sz (4096+(k:Int)*h.pw) (4096+(k:Int)*h.pw+g.used) l) (hq:∀ q∈l,okD (wordAt h q)=true/\sz q=dN (wordAt h q)+1) :
 pageE h k=0/\pageV h k=l:=by
 have hkl:=(List.getElem?_eq_some_iff.1 hg).1
 refine page_some hok (by omega) (by rw [pgAt_at hg];omega) ?_
 unfold pageW
 rw [pgAt_at hg,decide_eq_false (show ¬g.kind=2 by omega)]
 exact tile_walk hok hg h1 hu l 0 (by simpa using ht) hq
theorem small_at {h:Hp} (hok:okH h=true) {k:Nat} {g:Pg} (hg:h.pages[k]?=some g) (h1:g.kind=1) (hu:g.used<=h.pw) {sz:Int->Int} {l:List Int} (ht:Tile sz (4096+(k:Int)*h.pw) (4096+(k:Int)*h.pw+g.used) l) (hq:∀ q∈l,okD (wordAt h q)=true/\sz q=dN (wordAt h q)+1) {q:Int} (hm:q∈l) :
 atE h q=0/\atH h q=hdOf (wordAt h q):=by
 obtain ⟨t1,t2,t3⟩:=tile_mem ht q hm
 obtain ⟨d1,d2⟩:=hq q hm
 exact at_mk hok hg (j:=(q - (4096+(k:Int)*h.pw)).toNat) (by omega) (by omega) d1 (.inl ⟨h1,by omega⟩)
theorem large_page {h:Hp} (hok:okH h=true) {k:Nat} {g:Pg} (hg:h.pages[k]?=some g) (h1:g.kind=2) (hd:okD (wordAt h (4096+(k:Int)*h.pw))=true) (hs:(dN (wordAt h (4096+(k:Int)*h.pw)):Int)+1=g.used) :
 pageE h k=0/\pageV h k=[4096+(k:Int)*h.pw]/\atE h (4096+(k:Int)*h.pw)=0/\atH h (4096+(k:Int)*h.pw)=hdOf (wordAt h (4096+(k:Int)*h.pw)):=by
 have hkl:=(List.getElem?_eq_some_iff.1 hg).1
 have hc:=(okH_parts hok).1
 have c:=conf_parts hc
 have hlen:=pages_len hok
 obtain ⟨a1,a2⟩:=at_mk hok hg (j:=0) (by omega) (x:=4096+(k:Int)*h.pw) (by omega) hd (.inr ⟨h1,rfl,hs⟩)
 have ead:addrV h.pw h.np k (0:Nat)=4096+(k:Int)*h.pw:=by
  rw [(addr_ok hc (by unfold inPg;exact decide_eq_true ⟨by omega,by omega,by omega,by omega⟩)).1];omega
 have hw:pageW h k=some [4096+(k:Int)*h.pw]:=by
  unfold pageW
  rw [pgAt_at hg,decide_eq_true h1]
  have:=walk_big (h:=h) (i:=(k:Int)) (u:=g.used.toNat) (o:=0) (by omega) (by rw [ead];exact a1)
  rw [ead] at this
  exact this
 obtain ⟨p1,p2⟩:=page_some hok (i:=(k:Int)) (by omega) (by rw [pgAt_at hg];omega) hw
 exact ⟨p1,p2,a1,a2⟩
theorem none_page {h:Hp} (hok:okH h=true) {k:Nat} {g:Pg} (hg:h.pages[k]?=some g) (h1:g.kind=0\/g.kind=3):pageE h k=0/\pageV h k=[]:=by
 have hkl:=(List.getElem?_eq_some_iff.1 hg).1
 exact page_none hok (by omega) (by rw [pgAt_at hg];exact h1)
theorem walk_tile {h:Hp} (hok:okH h=true) {k:Nat} {g:Pg} (hg:h.pages[k]?=some g) (h1:g.kind=1) (hu:g.used<=h.pw):∀ (f o:Nat) (l:List Int),g.used.toNat - o<=f->(o:Int)<=g.used->walkP h k false g.used.toNat o=some l->Tile (osz h) (4096+(k:Int)*h.pw+o) (4096+(k:Int)*h.pw+g.used) l
 | f,o,l,hf,ho,hl=>by
  by_cases hlt:o < g.used.toNat
  · cases f with
    | zero=>omega
    | succ f =>
     have hc:=(okH_parts hok).1
     have hlen:=pages_len hok
     have hkl:=(List.getElem?_eq_some_iff.1 hg).1
     by_cases e:atE h (addrV h.pw h.np k o)=0
     · rw [walk_step hlt e] at hl
       have ead:addrV h.pw h.np k o=4096+(k:Int)*h.pw+o:=(addr_ok hc (by unfold inPg;exact decide_eq_true ⟨by omega,by omega,by omega,by omega⟩)).1
       rw [ead] at hl e
       cases hr:walkP h k false g.used.toNat (o+((atH h (4096+(k:Int)*h.pw+o)).n.toNat+1)) with
       | none=>rw [hr] at hl;cases hl
       | some r =>
        rw [hr] at hl
        cases hl
        obtain ⟨i,j,G,b⟩:=begins e
        have hpos:=b.pos
        have hn:0<=(atH h (4096+(k:Int)*h.pw+o)).n:=by have:=hpos.1;unfold osz at this;omega
        obtain ⟨q1,q2,q3⟩:=of_addr (p:=(k:Int)) (o:=(o:Int)) hc (by unfold inPg;exact decide_eq_true ⟨by omega,by omega,by omega,by omega⟩)
        obtain ⟨o1,o2,o3⟩:=of_ok hc q1
        have hik:(i:Int)=k:=by rw [<-b.oi,o1];exact q2
        obtain rfl:i=k:=by omega
        have hG:G=g:=by have:=b.pg;rw [hg] at this;injection this with this;exact this.symm
        subst hG
        have hkd:=b.kd
        have had:=b.ad
        have hjo:(j:Int)=o:=by omega
        have hfit:(o:Int)+osz h (4096+(i:Int)*h.pw+o)<=G.used:=by
         rcases hkd with ⟨a1,a2,-⟩ | ⟨a1,-⟩
         · omega
         · omega
        unfold osz at hfit
        refine ⟨rfl,hpos.1,?_⟩
        have:=walk_tile hok hg h1 hu f _ r (by omega) (by omega) hr
        rwa [show 4096+(i:Int)*h.pw+((o+((atH h (4096+(i:Int)*h.pw+o)).n.toNat+1):Nat):Int)=4096+(i:Int)*h.pw+o+osz h (4096+(i:Int)*h.pw+o) from by unfold osz;omega] at this
     · rw [walk_bad hlt e] at hl;cases hl
  · rw [walk_end hlt] at hl
    cases hl
    show _=_
    omega
theorem small_tile {h:Hp} (hok:okH h=true) {k:Nat} {g:Pg} (hg:h.pages[k]?=some g) (h1:g.kind=1) (hp:pageE h k=0) :
 0<=g.used/\g.used<=h.pw/\Tile (osz h) (4096+(k:Int)*h.pw) (4096+(k:Int)*h.pw+g.used) (pageV h k)/\∀ q∈pageV h k,okD (wordAt h q)=true/\osz h q=dN (wordAt h q)+1:=by
 have hkl:=(List.getElem?_eq_some_iff.1 hg).1
 obtain ⟨p1,p2,p3,p4,p5,p6,p7⟩:=okH_parts hok
 have hm:=properL_mem _ _ _ _ p7 g (List.mem_of_getElem? hg)
 have hu:=hm.2.2.2.2.2.1 h1
 refine ⟨hu.1,hu.2,?_,fun q hq=>?_⟩
 · have hw:=page_walk hok (i:=(k:Int)) (by omega) (by rw [pgAt_at hg];omega)
   rw [hp] at hw
   have hs:(pageW h k).isSome=true:=by
    cases e:(pageW h k).isSome
    · rw [e] at hw;exact absurd hw.1 (by decide)
    · rfl
   obtain ⟨l,hl⟩:=Option.isSome_iff_exists.1 hs
   rw [hl] at hw
   rw [hw.2]
   unfold pageW at hl
   rw [pgAt_at hg,decide_eq_false (show ¬g.kind=2 by omega)] at hl
   have:=walk_tile hok hg h1 hu.2 g.used.toNat 0 l (by omega) (by omega) hl
   simpa using this
 · obtain ⟨i,j,G,b⟩:=begins (pageV_at hq)
   exact ⟨b.od,b.sz⟩
theorem large_one {h:Hp} (hok:okH h=true) {k:Nat} {g:Pg} (hg:h.pages[k]?=some g) (h1:g.kind=2) (hp:pageE h k=0) :
 pageV h k=[4096+(k:Int)*h.pw]/\okD (wordAt h (4096+(k:Int)*h.pw))=true/\(dN (wordAt h (4096+(k:Int)*h.pw)):Int)+1=g.used/\atE h (4096+(k:Int)*h.pw)=0:=by
 have hkl:=(List.getElem?_eq_some_iff.1 hg).1
 obtain ⟨p1,p2,p3,p4,p5,p6,p7⟩:=okH_parts hok
 have c:=conf_parts p1
 have hm:=properL_mem _ _ _ _ p7 g (List.mem_of_getElem? hg)
 have hu:=need_fits (hm.2.2.2.2.2.2.1 h1)
 have hw:=page_walk hok (i:=(k:Int)) (by omega) (by rw [pgAt_at hg];omega)
 rw [hp] at hw
 have hs:(pageW h k).isSome=true:=by
  cases e:(pageW h k).isSome
  · rw [e] at hw;exact absurd hw.1 (by decide)
  · rfl
 obtain ⟨l,hl⟩:=Option.isSome_iff_exists.1 hs
 rw [hl] at hw
 have ead:addrV h.pw h.np k (0:Nat)=4096+(k:Int)*h.pw:=by
  rw [(addr_ok p1 (by unfold inPg;exact decide_eq_true ⟨by omega,by omega,by omega,by omega⟩)).1];omega
 have hlt:0 < g.used.toNat:=by omega
 unfold pageW at hl
 rw [pgAt_at hg,decide_eq_true h1] at hl
 have he:atE h (4096+(k:Int)*h.pw)=0:=by
  refine Decidable.by_contra fun e=>?_
  rw [walk_bad hlt (by rw [ead];exact e)] at hl
  cases hl
 rw [walk_big hlt (by rw [ead];exact he),ead] at hl
 cases hl
 obtain ⟨i,j,G,b⟩:=begins he
 obtain ⟨q1,q2,q3⟩:=of_addr (p:=(k:Int)) (o:=0) p1 (by unfold inPg;exact decide_eq_true ⟨by omega,by omega,by omega,by omega⟩)
 obtain ⟨o1,o2,o3⟩:=of_ok p1 q1
 have hik:(i:Int)=k:=by
  have:=b.oi
  rw [show (4096+(k:Int)*h.pw)=4096+(k:Int)*h.pw+0 from by omega,o1] at this
  rw [<-this];exact q2
 obtain rfl:i=k:=by omega
 have hG:G=g:=by have:=b.pg;rw [hg] at this;injection this with this;exact this.symm
 subst hG
 refine ⟨hw.2,b.od,?_,he⟩
 have:=b.sz
 rcases b.kd with ⟨a1,-⟩ | ⟨a1,a2,a3,a4⟩
 · omega
 · omega
theorem starts_apart {h:Hp} (G:Good h) {a b:Int} (ha:a∈startsV h) (hb:b∈startsV h) (hne:a≠b):a+osz h a<=b\/b+osz h b<=a:=by
 rw [(starts_ok G.ok G.pg).2] at ha hb
 have hp:=(startsTo_sorted G.ok h.pages.length (Nat.le_refl _)).1
 rcases pairwise_two hp ha hb with e | e | e
 · exact absurd e hne
 · exact .inl e
 · exact .inr e
theorem obj_start {h:Hp} {a:Int}:a∈objectsV h↔a∈startsV h/\¬(atH h a).k=0:=by
 unfold objectsV objsOf
 rw [List.mem_filter,decide_eq_true_eq]
theorem same_layout {h h':Hp} (G:Good h) (ok':okH h'=true) (epw:h'.pw=h.pw) (enp:h'.np=h.np) (epl:h'.pages.length=h.pages.length)
 (pg:∀ (k:Nat) (g:Pg),h.pages[k]?=some g->∃ g',h'.pages[k]?=some g'/\g'.kind=g.kind/\g'.used=g.used) (hw:∀ x∈startsV h,wordAt h' x=wordAt h x) :
 (∀ k:Nat,k < h.pages.length->pageE h' k=0/\pageV h' k=pageV h k)/\startsV h'=startsV h/\(∀ x∈startsV h,atE h' x=0/\atH h' x=atH h x)/\objectsV h'=objectsV h:=by
 have h1:∀ k:Nat,k < h.pages.length->pageE h' k=0/\pageV h' k=pageV h k:=fun k hk=>by
  have hg:h.pages[k]?=some h.pages[k]:=List.getElem?_eq_getElem hk
  generalize h.pages[k]=g at hg
  obtain ⟨g',hg',e1,e2⟩:=pg k g hg
  have hin:∀ x∈pageV h k,x∈startsV h:=fun x hx=>(starts_mem G.ok G.pg).2 ⟨k,hk,hx⟩
  by_cases k1:g.kind=1
  · obtain ⟨t1,t2,t3,t4⟩:=small_tile G.ok hg k1 (G.pg k hk)
    refine small_page ok' hg' (by omega) (by omega) (by omega) (sz:=osz h) (by rw [epw,e2];exact t3) fun q hq=>?_
    rw [hw q (hin q hq)];exact t4 q hq
  by_cases k2:g.kind=2
  · obtain ⟨t1,t2,t3,t4⟩:=large_one G.ok hg k2 (G.pg k hk)
    have hwb:=hw (4096+(k:Int)*h.pw) (hin _ (by rw [t1];exact List.mem_singleton.2 rfl))
    obtain ⟨r1,r2,-⟩:=large_page ok' hg' (by omega) (by rw [epw,hwb];exact t2) (by rw [epw,hwb,e2];exact t3)
    exact ⟨r1,by rw [r2,t1,epw]⟩
  · have hz:g.kind=0\/g.kind=3:=by
     obtain ⟨p1,p2,p3,p4,p5,p6,p7⟩:=okH_parts G.ok
     have:=(properL_mem _ _ _ _ p7 g (List.mem_of_getElem? hg)).2.2.2.2.2.2.2.2
     omega
    obtain ⟨r1,r2⟩:=none_page G.ok hg hz
    obtain ⟨s1,s2⟩:=none_page ok' hg' (by omega)
    exact ⟨s1,by rw [s2,r2]⟩
 have h2:startsV h'=startsV h:=by
  rw [(starts_ok ok' (fun k hk=>(h1 k (by omega)).1)).2,(starts_ok G.ok G.pg).2,epl]
  unfold startsTo
  rw [List.flatMap_def,List.flatMap_def]
  congr 1
  refine List.map_congr_left fun k hk=>(h1 k (List.mem_range.1 hk)).2
 have h3:∀ x∈startsV h,atE h' x=0/\atH h' x=atH h x:=fun x hx=>by
  have e1:=startsV_at hx
  rw [<-h2] at hx
  have e2:=startsV_at hx
  rw [h2] at hx
  refine ⟨e2,?_⟩
  obtain ⟨i,j,g,b⟩:=begins e1
  obtain ⟨i',j',g',b'⟩:=begins e2
  rw [b.hd,b'.hd,hw x hx]
 refine ⟨h1,h2,h3,?_⟩
 unfold objectsV objsOf
 rw [h2]
 exact List.filter_congr fun x hx=>by rw [(h3 x hx).2]
end Go.VI.P
namespace Go.VI.P
open Go
open Go.RowKit
theorem word_load {h:Hp} {x:Int} (h0:4096<=x):wordAt h x=(loadV h.words x).toNat:=by
 unfold wordAt loadV
 by_cases c:okA h.words.length x 1=true
 · rw [if_pos c]
 · rw [if_neg c]
   have:¬(x - 4096).toNat < h.words.length:=fun q=>c (okA_iff.2 (by omega))
   rw [List.getD_eq_getElem?_getD,List.getElem?_eq_none (by omega)];rfl
theorem ptr_lt {k n m i:Int} (h:ptrB k n m i=true):validB k n m=true/\0<=i/\i < n:=by
 unfold ptrB at h
 simp only [Bool.and_eq_true,decide_eq_true_eq] at h
 exact ⟨h.1.1.1,h.1.1.2,h.1.2⟩
theorem same_page {h h':Hp} (hok:okH h=true) (ok':okH h'=true) (epw:h'.pw=h.pw) {k:Nat} {g g':Pg} (hg:h.pages[k]?=some g) (hg':h'.pages[k]?=some g') (e1:g'.kind=g.kind) (e2:g'.used=g.used) (hp:pageE h k=0)
 (hw:∀ x∈pageV h k,wordAt h' x=wordAt h x):pageE h' k=0/\pageV h' k=pageV h k:=by
 by_cases k1:g.kind=1
 · obtain ⟨t1,t2,t3,t4⟩:=small_tile hok hg k1 hp
   refine small_page ok' hg' (by omega) (by omega) (by omega) (sz:=osz h) (by rw [epw,e2];exact t3) fun q hq=>?_
   rw [hw q hq];exact t4 q hq
 by_cases k2:g.kind=2
 · obtain ⟨t1,t2,t3,t4⟩:=large_one hok hg k2 hp
   have hwb:=hw (4096+(k:Int)*h.pw) (by rw [t1];exact List.mem_singleton.2 rfl)
   obtain ⟨r1,r2,-⟩:=large_page ok' hg' (by omega) (by rw [epw,hwb];exact t2) (by rw [epw,hwb,e2];exact t3)
   exact ⟨r1,by rw [r2,t1,epw]⟩
 · have hz:g.kind=0\/g.kind=3:=by
    obtain ⟨p1,p2,p3,p4,p5,p6,p7⟩:=okH_parts hok
    have:=(properL_mem _ _ _ _ p7 g (List.mem_of_getElem? hg)).2.2.2.2.2.2.2.2
    omega
   obtain ⟨r1,r2⟩:=none_page hok hg hz
   obtain ⟨s1,s2⟩:=none_page ok' hg' (by omega)
   exact ⟨s1,by rw [s2,r2]⟩
theorem same_at {h h':Hp} {x:Int} (e1:atE h x=0) (e2:atE h' x=0) (hw:wordAt h' x=wordAt h x):atH h' x=atH h x:=by
 obtain ⟨i,j,g,b⟩:=begins e1
 obtain ⟨i',j',g',b'⟩:=begins e2
 rw [b.hd,b'.hd,hw]
theorem good_add {h H:Hp} (G:Good h) (ok:okH H=true) (epw:H.pw=h.pw) (enp:H.np=h.np) (epl:H.pages.length=h.pages.length) {A s:Int} {J:Nat} (hJ:J < h.pages.length)
 (hpv:∀ k:Nat,k < h.pages.length->pageE H k=0/\∀ x,x∈pageV H k↔x∈pageV h k\/(k=J/\x=A))
 (hw:∀ p,p < A\/A+s<=p->loadV H.words p=loadV h.words p)
 (hdj:∀ x∈startsV h,x+osz h x<=A\/A+s<=x) (hA:¬(atH H A).k=0) (hs:(atH H A).n+1=s)
 (hf:∀ i,0<=i->i < s - 1->loadV H.words (A+1+i)=0)
 (hsp:∀ (k:Nat) (g:Pg),H.pages[k]?=some g->g.kind=0\/g.space=H.space)
 (hkd:∀ (k:Nat) (g g':Pg),h.pages[k]?=some g->H.pages[k]?=some g'->¬pageV h k=[]->g'.kind=g.kind)
 (hclA:∀ g,H.pages[J]?=some g->g.kind=1->s<=smallV h.pw h.np)
 (hcr:(crowdN H.pages:Int)<=H.np / 4):Good H/\∀ x,x∈objectsV H↔x∈objectsV h\/x=A:=by
 have hst:∀ x,x∈startsV H↔x∈startsV h\/x=A:=fun x=>by
  rw [starts_mem ok (fun k hk=>(hpv k (by omega)).1),starts_mem G.ok G.pg,epl]
  constructor
  · rintro ⟨k,hk,hx⟩
    rcases ((hpv k hk).2 x).1 hx with e | e
    · exact .inl ⟨k,hk,e⟩
    · exact .inr e.2
  · rintro (⟨k,hk,hx⟩ | e)
    · exact ⟨k,hk,((hpv k hk).2 x).2 (.inl hx)⟩
    · exact ⟨J,hJ,((hpv J hJ).2 x).2 (.inr ⟨rfl,e⟩)⟩
 have hAs:A∈startsV H:=(hst A).2 (.inr rfl)
 have hAe:=startsV_at hAs
 obtain ⟨av1,av2,av3,av4,av5,av6⟩:=at_in hAe
 have hold:∀ x∈startsV h,atH H x=atH h x:=fun x hx=>by
  have e1:=startsV_at hx
  have e2:=startsV_at ((hst x).2 (.inl hx))
  have hb:=at_bd e1
  refine same_at e1 e2 ?_
  obtain ⟨i,j,g,b⟩:=begins e1
  have:=b.pos
  rw [word_load hb.1,word_load hb.1,hw x (by have:=hdj x hx;omega)]
 have hob:∀ x,x∈objectsV H↔x∈objectsV h\/x=A:=fun x=>by
  rw [obj_start,obj_start,hst]
  constructor
  · rintro ⟨e | e,e2⟩
    · rw [hold x e] at e2;exact .inl ⟨e,e2⟩
    · exact .inr e
  · rintro (⟨e,e2⟩ | e)
    · exact ⟨.inl e,by rw [hold x e];exact e2⟩
    · rw [e];exact ⟨.inr rfl,hA⟩
 refine ⟨⟨ok,hsp,fun k hk=>(hpv k (by omega)).1,fun k g hg x hx=>?_,fun p p0 p1=>?_,fun a ha i hi=>?_,hcr⟩,hob⟩
 · have hk:k < h.pages.length:=by have:=(List.getElem?_eq_some_iff.1 hg).1;omega
   have hgo:h.pages[k]?=some h.pages[k]:=List.getElem?_eq_getElem hk
   generalize h.pages[k]=go at hgo
   rcases ((hpv k hk).2 x).1 hx with e | ⟨e1,e2⟩
   · have:=G.cls k go hgo x e
     have hsx:x∈startsV h:=(starts_mem G.ok G.pg).2 ⟨k,hk,e⟩
     have hkk:=hkd k go g hgo hg (fun c=>by rw [c] at e;cases e)
     rw [hold x hsx,epw,enp,hkk]
     exact this
   · subst e1 e2
     refine ⟨fun k1=>?_,fun _=>hA⟩
     rw [size_ok av2,hs,epw,enp]
     exact hclA g hg k1
 · rw [epw,enp] at p1
   by_cases c:A<=p/\p < A+s
   · refine .inl ⟨A,hAs,c.1,?_⟩
     unfold usedZ
     rw [if_neg hA,size_ok av2,hs];exact c.2
   · rcases G.zero p p0 p1 with ⟨x,hx,h2,h3⟩ | e
     · refine .inl ⟨x,(hst x).2 (.inl hx),h2,?_⟩
       unfold usedZ at h3 ⊢
       rw [hold x hx];exact h3
     · right
       rw [hw p (by omega)];exact e
 · obtain ⟨q1,q2,q3⟩:=ptr_lt hi
   rcases (hob a).1 ha with e | e
   · have hsx:=(obj_start.1 e).1
     rw [hold a hsx] at hi q3
     have hd:=hdj a hsx
     unfold osz at hd
     rw [hw (a+1+i) (by omega)]
     rcases G.ptr a e i hi with c | c
     · exact .inl c
     · exact .inr ((hob _).2 (.inl c))
   · subst e
     exact .inl (hf i q2 (by omega))
theorem crowd_le:∀ (ps qs:List Pg),ps.length=qs.length->(∀ (k:Nat) (x y:Pg),ps[k]?=some x->qs[k]?=some y->(y.kind=1/\0 < y.pins)->(x.kind=1/\0 < x.pins))->crowdN qs<=crowdN ps
 | [],[],_,_=>Nat.le_refl _
 | [],_ :: _,h,_=>by simp at h
 | _ :: _,[],h,_=>by simp at h
 | x :: ps,y :: qs,h,hk=>by
  have ih:=crowd_le ps qs (by simpa using h) fun k a b ha hb=>hk (k+1) a b (by simpa using ha) (by simpa using hb)
  have h0:=hk 0 x y rfl rfl
  rw [crowdN,crowdN]
  by_cases c:y.kind=1/\0 < y.pins
  · rw [if_pos c,if_pos (h0 c)];omega
  · rw [if_neg c];omega
theorem load_init {xs:List Int} {A k n m:Int} (hn:0<=n) (hok:okA xs.length A (initL k n m).length=true):loadV (writeV xs A (initL k n m)) A=wordV k n m/\(∀ i,0<=i->i < n->loadV (writeV xs A (initL k n m)) (A+1+i)=0)/\∀ p,p < A\/A+(n+1)<=p->loadV (writeV xs A (initL k n m)) p=loadV xs p:=by
 have hlen:=initL_len (k:=k) (n:=n) (m:=m)
 have hk:=okA_iff.1 hok
 obtain ⟨i0,hi0⟩:∃ i0:Nat,A=4096+(i0:Int):=⟨(A - 4096).toNat,by omega⟩
 have hsp:writeV xs A (initL k n m)=Go.splice xs i0 (initL k n m):=by rw [hi0];rw [hi0] at hok;exact (write_ok hok).1
 have hfit:i0+(initL k n m).length<=xs.length:=by omega
 refine ⟨?_,fun i q0 q1=>?_,fun p hp=>load_write_out hok (by omega)⟩
 · rw [load_get _ (by omega),hsp,hi0,show ((4096+(i0:Int)) - 4096).toNat=i0 from by omega,splice_in hfit (Nat.le_refl _) (by omega),Nat.sub_self];rfl
 · rw [load_get _ (by omega),hsp,hi0,show (4096+(i0:Int)+1+i - 4096).toNat=i0+(i.toNat+1) from by omega,splice_in hfit (by omega) (by omega),show i0+(i.toNat+1) - i0=i.toNat+1 from by omega]
   unfold initL
   rw [List.getElem?_cons_succ,List.getElem?_replicate,if_pos (by omega)];rfl
theorem alloc_parts {h:Hp} {k n m:Int} (he:allocE h k n m=0):okH h=true/\validB k n m=true/\¬k=0/\sizeV k n m=n+1/\¬needV h.pw h.np (n+1) = -1/\placeOK h (n+1)=true/\0<=n /\
 okH (placeH h (n+1))=true/\(placeH h (n+1)).words=h.words/\okA h.words.length (placeA h (n+1)) (initL k n m).length=true /\
 allocH h k n m={ placeH h (n+1) with words:=writeV h.words (placeA h (n+1)) (initL k n m) }/\allocA h k n m=placeA h (n+1):=by
 obtain ⟨ha,hr⟩:newAsk h k n m=true/\newRoom h k n m=true:=by
  unfold allocE at he
  split at he
  · rename_i h1
    split at he
    · rename_i h2;exact ⟨h1,h2⟩
    · exact absurd he (by decide)
  · exact absurd he (by decide)
 obtain ⟨e1,e2,e3⟩:=place_eqs h k n m
 rw [e1] at hr
 unfold newAsk asksB at ha
 simp only [Bool.and_eq_true,decide_eq_true_eq] at ha
 obtain ⟨ho,⟨hv,hk0⟩,hnd⟩:=ha
 have hs:=size_ok hv
 have hn0:=(valid_parts hv).2.2.1
 rw [hs] at hr hnd e2 e3
 have hop:okP h=true:=by unfold okP;rw [properP_B];exact ho
 obtain ⟨q1,q2,q3,q4⟩:=place_proper hop (show 1<=n+1 by omega) hnd hr
 have hoh:okH (placeH h (n+1))=true:=by unfold okP at q1;rw [properP_B] at q1;exact q1
 have hil:(initL k n m).length=(n+1).toNat:=by rw [initL_len];omega
 have hka:okA (placeH h (n+1)).words.length (placeA h (n+1)) (initL k n m).length=true:=by rw [q2,hil];exact q4
 have hie:initE (placeH h (n+1)) (placeA h (n+1)) k n m=0:=by
  unfold initE
  rw [if_pos ⟨hv,hoh⟩]
  unfold writeE
  rw [if_pos hka]
 refine ⟨ho,hv,hk0,hs,hnd,hr,hn0,hoh,q2,by rw [hil];exact q4,?_,by unfold allocA;rw [if_pos he,e3]⟩
 unfold allocH
 rw [if_pos he,e2,e3]
 unfold initV
 rw [if_pos hie,q2]
theorem okH_words {h:Hp} {ws:List Int} (hl:ws.length=h.words.length):okH { h with words:=ws }=okH h:=by
 unfold okH
 show properB h.pw h.np ws.length h.pages h.space h.bump=_
 rw [hl]
theorem good_alloc {h:Hp} (G:Good h) {k n m:Int} (hm:0<=m) (he:allocE h k n m=0):Good (allocH h k n m)/\∀ x,x∈objectsV (allocH h k n m)↔x∈objectsV h\/x=allocA h k n m:=by
 obtain ⟨ho,hv,hk0,hs,hnd,hr,hn0,hoh,hpw,hoA,eH,eA⟩:=alloc_parts he
 rw [eH,eA]
 generalize hA:placeA h (n+1)=A at *
 have hlenL:=initL_len (k:=k) (n:=n) (m:=m)
 obtain ⟨l1,l2,l3⟩:=load_init (k:=k) (m:=m) hn0 hoA
 have hoA':=okA_iff.1 hoA
 have vp:=valid_parts hv
 have hc:=(okH_parts ho).1
 have c:=conf_parts hc
 have hlen:=pages_len ho
 generalize hX:placeH h (n+1)=X at *
 have okX:okH { X with words:=writeV h.words A (initL k n m) }=true:=by
  rw [okH_words (by rw [write_len hoA,hpw])];exact hoh
 generalize hH:({ X with words:=writeV h.words A (initL k n m) }:Hp)=H at *
 have eW:H.words=writeV h.words A (initL k n m):=by rw [<-hH]
 have eP:H.pages=X.pages:=by rw [<-hH]
 have hwA:wordAt H A=(wordV k n m).toNat:=by rw [word_load hoA'.1,eW,l1]
 have hwb:=word_bd hv hm
 obtain ⟨d1,d2,d3,d4⟩:=word_dec hv hm (x:=(wordV k n m).toNat) (by omega)
 rw [<-hwA] at d1 d2 d3 d4
 have hwout:∀ p,p < A\/A+(n+1)<=p->loadV H.words p=loadV h.words p:=fun p hp=>by rw [eW];exact l3 p hp
 by_cases hbig:0 < needV h.pw h.np (n+1)
 ·
  have hX':X=largeH h (n+1) (needV h.pw h.np (n+1)):=by rw [<-hX];unfold placeH;rw [if_pos hbig]
  have hA':A=largeA h (needV h.pw h.np (n+1)):=by rw [<-hA];unfold placeA;rw [if_pos hbig]
  have hr':largeOKB h (needV h.pw h.np (n+1))=true:=by unfold placeOK at hr;rw [if_pos hbig] at hr;exact hr
  obtain ⟨j,kk,f1,f2,f3,f4,f5,f6,f7,f8⟩:=large_spec ho rfl hr'
  have eA2:A=4096+(j:Int)*h.pw:=by rw [hA'];unfold largeA;rw [f1]
  have ePg:H.pages=(put h.pages j kk ⟨3,h.space,0,0⟩).set j ⟨2,h.space,n+1,0⟩:=by rw [eP,hX'];exact f7
  have epw:H.pw=h.pw:=by rw [<-hH,hX'];rfl
  have enp:H.np=h.np:=by rw [<-hH,hX'];rfl
  have esp:H.space=h.space:=by rw [<-hH,hX'];rfl
  have hpl:(put h.pages j kk ⟨3,h.space,0,0⟩).length=h.pages.length:=put_len f4
  have epl:H.pages.length=h.pages.length:=by rw [ePg,List.length_set,hpl]
  have hgj:H.pages[j]?=some ⟨2,h.space,n+1,0⟩:=by rw [ePg,List.getElem?_set_self (by omega)]
  have hgt:∀ t:Nat,j < t->t < j+kk->H.pages[t]?=some ⟨3,h.space,0,0⟩:=fun t t1 t2=>by
   rw [ePg,List.getElem?_set_ne (by omega)];exact put_in f4 (by omega) t2
  have hgo:∀ t:Nat,t < j\/j+kk<=t->H.pages[t]?=h.pages[t]?:=fun t ht=>by
   rw [ePg,List.getElem?_set_ne (by omega)];exact put_get f4 (by omega)
  have hnf:=need_fits (pw:=h.pw) (np:=h.np) (n:=n+1) (by omega)
  have hdj:∀ x∈startsV h,x+osz h x<=A\/A+(n+1)<=x:=fun x hx=>by
   obtain ⟨i,jj,g,b⟩:=begins (startsV_at hx)
   have hp:=b.pos
   have hup:=b.upto
   by_cases cc:(i:Int) < j
   · left
     have h6:=f6 j (Nat.le_refl _) (by omega)
     obtain ⟨y,y1,y2⟩:=h6
     have:=begins_free b y1 y2
     rcases this with q | q
     · omega
     · exfalso
       have:((i:Int)+1)*h.pw<=(j:Int)*h.pw:=Int.mul_le_mul_of_nonneg_right (by omega) (by omega)
       rw [Int.add_mul,Int.one_mul] at this
       have hj1:=b.jl
       have had:=b.ad
       omega
   · by_cases cc2:(i:Int) < j+kk
     · exfalso
       obtain ⟨y,y1,y2⟩:=f6 i (by omega) (by omega)
       have:=b.pg
       rw [y1] at this
       injection this with this
       subst this
       rcases b.kd with ⟨q,-⟩ | ⟨q,-⟩ <;> omega
     · right
       have:((j:Int)+kk)*h.pw<=(i:Int)*h.pw:=Int.mul_le_mul_of_nonneg_right (by omega) (by omega)
       rw [Int.add_mul] at this
       have had:=b.ad
       rw [f2] at hnf
       omega
  obtain ⟨r1,r2,r3,r4⟩:=large_page okX hgj rfl (by rw [epw,<-eA2];exact d1) (by rw [epw,<-eA2];show (dN (wordAt H A):Int)+1=n+1;omega)
  rw [epw,<-eA2] at r2 r3 r4
  refine good_add G okX epw enp epl (J:=j) (by omega) (fun t ht=>?_) hwout hdj (by rw [r4];show ¬(dK (wordAt H A):Int)=0;rw [d2];exact hk0) (by rw [r4];show (dN (wordAt H A):Int)+1=n+1;rw [d3]) (fun i i0 i1=>by rw [eW];exact l2 i i0 (by omega)) (fun t g hg=>?_) (fun t g g' hg hg' hne=>?_) (fun g hg k1=>?_) ?_
  · by_cases tj:t=j
    · subst tj
      refine ⟨r1,fun x=>?_⟩
      obtain ⟨y,y1,y2⟩:=f6 t (Nat.le_refl _) (by omega)
      rw [r2,(none_page ho y1 (.inl y2)).2]
      simp
    by_cases tr:j < t/\t < j+kk
    · obtain ⟨y,y1,y2⟩:=f6 t (by omega) tr.2
      obtain ⟨n1,n2⟩:=none_page okX (hgt t tr.1 tr.2) (.inr rfl)
      refine ⟨n1,fun x=>?_⟩
      rw [n2,(none_page ho y1 (.inl y2)).2]
      simp [tj]
    · have hg:h.pages[t]?=some h.pages[t]:=List.getElem?_eq_getElem ht
      generalize h.pages[t]=g at hg
      have hg':=hgo t (by omega)
      rw [hg] at hg'
      obtain ⟨n1,n2⟩:=same_page ho okX epw hg hg' rfl rfl (G.pg t ht) fun x hx=>by
       have hsx:x∈startsV h:=(starts_mem G.ok G.pg).2 ⟨t,ht,hx⟩
       have hb:=at_bd (pageV_at hx)
       obtain ⟨i,jj,g,b⟩:=begins (pageV_at hx)
       have hp:=b.pos
       rw [word_load hb.1,word_load hb.1,hwout x (by have:=hdj x hsx;omega)]
      refine ⟨n1,fun x=>?_⟩
      rw [n2];simp [tj]
  · by_cases tj:t=j
    · subst tj;rw [hgj] at hg;injection hg with hg;subst hg;right;exact esp.symm
    by_cases tr:j < t/\t < j+kk
    · rw [hgt t tr.1 tr.2] at hg;injection hg with hg;subst hg;right;exact esp.symm
    · rw [hgo t (by omega)] at hg
      rw [esp];exact G.sp t g hg
  · by_cases tr:j<=t/\t < j+kk
    · obtain ⟨y,y1,y2⟩:=f6 t tr.1 tr.2
      exact absurd (none_page ho y1 (.inl y2)).2 hne
    · rw [hgo t (by omega),hg] at hg';injection hg' with hg';rw [hg']
  · rw [hgj] at hg;injection hg with hg;subst hg;cases k1
  · rw [enp]
    have:=crowd_le h.pages H.pages epl.symm fun t x y hx hy hyk=>by
     by_cases tj:t=j
     · subst tj;rw [hgj] at hy;injection hy with hy;subst hy;exact absurd hyk.1 (by show ¬(2:Int)=1;decide)
     by_cases tr:j < t/\t < j+kk
     · rw [hgt t tr.1 tr.2] at hy;injection hy with hy;subst hy;exact absurd hyk.1 (by show ¬(3:Int)=1;decide)
     · rw [hgo t (by omega),hx] at hy;injection hy with hy;subst hy;exact hyk
    have:=G.crowd
    omega
 ·
  have hX':X=smallH h (n+1):=by rw [<-hX];unfold placeH;rw [if_neg hbig]
  have hA':A=smallA h (n+1):=by rw [<-hA];unfold placeA;rw [if_neg hbig]
  have hr':smallOKB h (n+1)=true:=by unfold placeOK at hr;rw [if_neg hbig] at hr;exact hr
  obtain ⟨j,x0,f1,f2,f3,f4,f5,f6,f7,f8,f9⟩:=small_spec ho hr'
  have eA2:A=4096+(j:Int)*h.pw+x0.used:=by
   rw [hA'];unfold smallA;rw [f1,Int.toNat_natCast,getD_at f4]
  have ePg:H.pages=(smallPs h (n+1)).set j ⟨x0.kind,x0.space,x0.used+(n+1),x0.pins⟩:=by
   rw [eP,hX'];show useAt (smallPs h (n+1)) (smallJ h (n+1)).toNat (n+1)=_
   unfold useAt;rw [f1,Int.toNat_natCast,getD_at f4]
  have epw:H.pw=h.pw:=by rw [<-hH,hX'];rfl
  have enp:H.np=h.np:=by rw [<-hH,hX'];rfl
  have esp:H.space=h.space:=by rw [<-hH,hX'];rfl
  have epl:H.pages.length=h.pages.length:=by rw [ePg,List.length_set,f3]
  have hgj:H.pages[j]?=some ⟨x0.kind,x0.space,x0.used+(n+1),x0.pins⟩:=by rw [ePg,List.getElem?_set_self (by omega)]
  have hgo:∀ t:Nat,t≠j->H.pages[t]?=h.pages[t]?:=fun t ht=>by
   rw [ePg,List.getElem?_set_ne (by omega)]
   rcases f9 with ⟨-,q,-⟩ | ⟨-,q,-⟩
   · rw [q,List.getElem?_set_ne (by omega)]
   · rw [q]
  obtain ⟨g0,hg0,hold⟩:∃ g0,h.pages[j]?=some g0/\((g0.kind=0/\x0.used=0/\x0.pins=0)\/g0=x0):=by
   rcases f9 with ⟨-,q,q2,-,y,y1,y2⟩ | ⟨-,q,-⟩
   · exact ⟨y,y1,.inl ⟨y2,by rw [q2],by rw [q2]⟩⟩
   · rw [q] at f4;exact ⟨x0,f4,.inr rfl⟩
  have htile:Tile (osz h) (4096+(j:Int)*h.pw) (4096+(j:Int)*h.pw+x0.used) (pageV h j)/\∀ q∈pageV h j,okD (wordAt h q)=true/\osz h q=dN (wordAt h q)+1:=by
   rcases hold with ⟨q1,q2,-⟩ | q
   · rw [(none_page ho hg0 (.inl q1)).2,q2]
     exact ⟨by show _=_;omega,fun q hq=>by cases hq⟩
   · subst q
     obtain ⟨t1,t2,t3,t4⟩:=small_tile ho hg0 f5 (G.pg j f2)
     exact ⟨t3,t4⟩
  have hgj2:=hgj
  have hjm:=properL_mem _ _ _ _ (okH_parts okX).2.2.2.2.2.2 _ (List.mem_of_getElem? hgj)
  have hused:=hjm.2.2.2.2.2.1 f5
  rw [epw] at hused
  have hused:0<=x0.used+(n+1)/\x0.used+(n+1)<=h.pw:=hused
  have hdj:∀ x∈startsV h,x+osz h x<=A\/A+(n+1)<=x:=fun x hx=>by
   obtain ⟨t,ht,hxt⟩:=(starts_mem G.ok G.pg).1 hx
   by_cases tj:t=j
   · subst tj
     have:=tile_mem htile.1 x hxt
     left;omega
   · obtain ⟨jj,g,b⟩:=page_begins ho ht hxt
     have hp:=b.pos
     obtain ⟨u1,u2,u3,u4⟩:=b.upto
     by_cases cc:t < j
     · left
       have hps:(t:Int)+pspan h g<=j:=by
        refine Decidable.by_contra fun q=>?_
        obtain ⟨y,y1,y2⟩:=u4 j cc (by omega)
        rw [hg0] at y1
        injection y1 with y1
        subst y1
        rcases hold with ⟨q1,-⟩ | q1
        · omega
        · subst q1;omega
       have:((t:Int)+pspan h g)*h.pw<=(j:Int)*h.pw:=Int.mul_le_mul_of_nonneg_right hps (by omega)
       omega
     · right
       have:((j:Int)+1)*h.pw<=(t:Int)*h.pw:=Int.mul_le_mul_of_nonneg_right (by omega) (by omega)
       rw [Int.add_mul,Int.one_mul] at this
       omega
  have hwold:∀ t:Nat,t < h.pages.length->∀ x∈pageV h t,wordAt H x=wordAt h x:=fun t ht x hx=>by
   have hsx:x∈startsV h:=(starts_mem G.ok G.pg).2 ⟨t,ht,hx⟩
   have hb:=at_bd (pageV_at hx)
   obtain ⟨i,jj,g,b⟩:=begins (pageV_at hx)
   have hp:=b.pos
   rw [word_load hb.1,word_load hb.1,hwout x (by have:=hdj x hsx;omega)]
  have hnew:Tile (fun q=>(dN (wordAt H q):Int)+1) (4096+(j:Int)*H.pw) (4096+(j:Int)*H.pw+(x0.used+(n+1))) (pageV h j ++ [A]):=by
   rw [epw,eA2]
   refine tile_snoc (tile_congr (fun q hq=>?_) htile.1) (by show 1<=(dN (wordAt H _):Int)+1;omega) ?_
   · rw [hwold j f2 q hq];exact (htile.2 q hq).2.symm
   · rw [<-eA2,d3];omega
  have hnewq:∀ q∈pageV h j ++ [A],okD (wordAt H q)=true/\(fun q=>(dN (wordAt H q):Int)+1) q=dN (wordAt H q)+1:=fun q hq=>by
   rcases List.mem_append.1 hq with q1 | q1
   · exact ⟨by rw [hwold j f2 q q1];exact (htile.2 q q1).1,rfl⟩
   · rw [List.mem_singleton.1 q1];exact ⟨d1,rfl⟩
  obtain ⟨r1,r2⟩:=small_page okX hgj f5 hused.1 (by rw [epw];exact hused.2) hnew hnewq
  obtain ⟨r3,r4⟩:=small_at okX hgj f5 (by rw [epw];exact hused.2) hnew hnewq (q:=A) (by simp)
  refine good_add G okX epw enp epl (J:=j) f2 (fun t ht=>?_) hwout hdj (by rw [r4];show ¬(dK (wordAt H A):Int)=0;rw [d2];exact hk0) (by rw [r4];show (dN (wordAt H A):Int)+1=n+1;rw [d3]) (fun i i0 i1=>by rw [eW];exact l2 i i0 (by omega)) (fun t g hg=>?_) (fun t g g' hg hg' hne=>?_) (fun g hg k1=>?_) ?_
  · by_cases tj:t=j
    · subst tj
      refine ⟨r1,fun x=>?_⟩
      rw [r2];simp
    · have hg:h.pages[t]?=some h.pages[t]:=List.getElem?_eq_getElem ht
      generalize h.pages[t]=g at hg
      have hg':=hgo t tj
      rw [hg] at hg'
      obtain ⟨n1,n2⟩:=same_page ho okX epw hg hg' rfl rfl (G.pg t ht) (hwold t ht)
      refine ⟨n1,fun x=>?_⟩
      rw [n2];simp [tj]
  · by_cases tj:t=j
    · subst tj;rw [hgj] at hg;injection hg with hg;subst hg;right
      rw [esp];exact f8
    · rw [hgo t tj] at hg
      rw [esp];exact G.sp t g hg
  · by_cases tj:t=j
    · subst tj
      rw [hgj] at hg';injection hg' with hg';subst hg'
      rw [hg0] at hg;injection hg with hg;subst hg
      rcases hold with ⟨q1,-⟩ | q1
      · exact absurd (none_page ho hg0 (.inl q1)).2 hne
      · rw [q1]
    · rw [hgo t tj,hg] at hg';injection hg' with hg';rw [hg']
  · rw [small_ok hc]
    exact (needV_small hc hbig hnd).2
  · rw [enp]
    have:=crowd_le h.pages H.pages epl.symm fun t x y hx hy hyk=>by
     by_cases tj:t=j
     · subst tj
       rw [hgj] at hy;injection hy with hy;subst hy
       rw [hg0] at hx;injection hx with hx;subst hx
       rcases hold with ⟨q1,q2,q3⟩ | q1
       · exfalso;have:=hyk.2;simp only at this;omega
       · rw [q1];exact hyk
     · rw [hgo t tj,hx] at hy;injection hy with hy;subst hy;exact hyk
    have:=G.crowd
    omega
end Go.VI.P
namespace Go.VI.P
open Go
open Go.RowKit
structure GW (x:Wd):Prop where
 good:Good x.h
 wb:WB x.h.words
 st:∀ a∈x.st,a=0\/a∈objectsV x.h
 wk:∀ a∈x.wk,a=0\/a∈objectsV x.h
theorem GW.root {x:Wd} (G:GW x) {a:Int} (h:a∈0 :: (x.st ++ x.wk)):a=0\/a∈objectsV x.h:=by
 rcases List.mem_cons.1 h with e | e
 · exact .inl e
 · rcases List.mem_append.1 e with e | e
   · exact G.st a e
   · exact G.wk a e
theorem proper_zeros (pw np:Int):∀ n:Nat,properL pw np (List.replicate n Pg.zero) 0=true
 | 0=>rfl
 | n+1=>by
  rw [List.replicate_succ,properL]
  have:stepP pw np Pg.zero (List.replicate n Pg.zero) 0=some 0:=by
   unfold stepP
   rw [if_neg (by unfold Pg.zero pinsB;decide),if_pos (by rfl),if_pos rfl];rfl
  rw [this]
  exact proper_zeros pw np n
theorem crowd_zeros:∀ n:Nat,crowdN (List.replicate n Pg.zero)=0
 | 0=>rfl
 | n+1=>by rw [List.replicate_succ,crowdN,crowd_zeros n];rfl
theorem good_empty {pw np:Int} (hc:confB pw np=true):Good (newHV pw np)/\objectsV (newHV pw np)=[]/\WB (newHV pw np).words:=by
 obtain ⟨e,-⟩:=newH_ok hc
 obtain ⟨c1,c2⟩:=conf_prod hc
 have c:=conf_parts hc
 rw [e]
 have hok:okH ⟨pw,np,List.replicate (np*pw).toNat 0,List.replicate np.toNat Pg.zero,0,-1⟩=true:=by
  unfold okH
  show properB pw np (List.replicate (np*pw).toNat 0).length (List.replicate np.toNat Pg.zero) 0 (-1)=true
  rw [properB_true hc (by rw [List.length_replicate];omega) (by rw [List.length_replicate];omega) (by omega) (by omega) (by unfold bumpB;exact decide_eq_true (.inl rfl))]
  exact proper_zeros pw np _
 have hpg:∀ (k:Nat) (g:Pg),(List.replicate np.toNat Pg.zero)[k]?=some g->g=Pg.zero:=fun k g hg=>by
  rw [List.getElem?_replicate] at hg
  split at hg
  · injection hg with hg;exact hg.symm
  · cases hg
 have hnone:∀ k:Nat,k < (List.replicate np.toNat Pg.zero).length->pageE ⟨pw,np,List.replicate (np*pw).toNat 0,List.replicate np.toNat Pg.zero,0,-1⟩ k=0/\pageV ⟨pw,np,List.replicate (np*pw).toNat 0,List.replicate np.toNat Pg.zero,0,-1⟩ k=[]:=fun k hk =>
  none_page hok (g:=Pg.zero) (by show (List.replicate np.toNat Pg.zero)[k]?=_;rw [List.getElem?_replicate,if_pos (by simpa using hk)]) (.inl rfl)
 have hob:objectsV ⟨pw,np,List.replicate (np*pw).toNat 0,List.replicate np.toNat Pg.zero,0,-1⟩=[]:=by
  refine List.eq_nil_iff_forall_not_mem.2 fun x hx=>?_
  obtain ⟨k,hk,h2⟩:=(starts_mem hok (fun k hk=>(hnone k hk).1)).1 (obj_start.1 hx).1
  rw [(hnone k hk).2] at h2
  cases h2
 refine ⟨⟨hok,fun k g hg=>?_,fun k hk=>(hnone k hk).1,fun k g hg x hx=>?_,fun p p0 p1=>?_,fun a ha=>?_,?_⟩,hob,WB.zeros _⟩
 · rw [hpg k g hg];exact .inl rfl
 · rw [(hnone k (List.getElem?_eq_some_iff.1 hg).1).2] at hx;cases hx
 · right
   unfold loadV
   split
   · rw [List.getD_eq_getElem?_getD,List.getElem?_replicate];split <;> rfl
   · rfl
 · rw [hob] at ha;cases ha
 · show (crowdN (List.replicate np.toNat Pg.zero):Int)<=np / 4
   rw [crowd_zeros];omega
theorem good_set {h:Hp} (G:Good h) {a i b:Int} (ha:a∈objectsV h) (hi0:0<=i) (hi1:i < (atH h a).n) (hb:ptrB (atH h a).k (atH h a).n (atH h a).m i=true->b=0\/b∈objectsV h) :
 Good (setV h a i b)/\objectsV (setV h a i b)=objectsV h/\(setV h a i b).words=writeV h.words (a+1+i) [b]/\okA h.words.length (a+1+i) 1=true/\(setV h a i b).pages=h.pages/\startsV (setV h a i b)=startsV h/\∀ x∈startsV h,atH (setV h a i b) x=atH h x:=by
 obtain ⟨g1,g2⟩:=obj_get ha
 obtain ⟨f1,f2⟩:=field_zero g1 hi0 (by rw [g2];exact hi1)
 have eS:setV h a i b={ h with words:=writeV h.words (a+1+i) [b] }:=by unfold setV;rw [if_pos f1]
 rw [eS]
 have hok:okH { h with words:=writeV h.words (a+1+i) [b] }=true:=by rw [okH_words (write_len f2)];exact G.ok
 have hsa:=(obj_start.1 ha).1
 have hout:∀ p,p≠a+1+i->loadV (writeV h.words (a+1+i) [b]) p=loadV h.words p:=fun p hp=>load_write_out f2 (by simp only [List.length_singleton];omega)
 have hin:loadV (writeV h.words (a+1+i) [b]) (a+1+i)=b:=load_write_in f2
 have hne:∀ x∈startsV h,x≠a+1+i:=fun x hx e=>by
  by_cases c:x=a
  · omega
  · obtain ⟨i',j,g,bb⟩:=begins (startsV_at hx)
    have hp:=bb.pos
    have:=starts_apart G hx hsa c
    unfold osz at this hp
    omega
 obtain ⟨l1,l2,l3,l4⟩:=same_layout (h':={ h with words:=writeV h.words (a+1+i) [b] }) G hok rfl rfl rfl (fun k g hg=>⟨g,hg,rfl,rfl⟩) fun x hx=>by
  have hbx:=at_bd (startsV_at hx)
  rw [word_load hbx.1,word_load hbx.1]
  show (loadV (writeV h.words (a+1+i) [b]) x).toNat=_
  rw [hout x (hne x hx)]
 refine ⟨⟨hok,G.sp,fun k hk=>(l1 k hk).1,fun k g hg x hx=>?_,fun p p0 p1=>?_,fun c hc j hj=>?_,G.crowd⟩,l4,rfl,f2,rfl,l2,fun x hx=>(l3 x hx).2⟩
 · have hk:k < h.pages.length:=(List.getElem?_eq_some_iff.1 hg).1
   rw [(l1 k hk).2] at hx
   rw [(l3 x ((starts_mem G.ok G.pg).2 ⟨k,hk,hx⟩)).2]
   exact G.cls k g hg x hx
 · rw [l2]
   show (∃ x∈startsV h,x<=p/\p < x+usedZ _ x)\/loadV (writeV h.words (a+1+i) [b]) p=0
   by_cases c:p=a+1+i
   · left
     refine ⟨a,hsa,by omega,?_⟩
     unfold usedZ
     rw [(l3 a hsa).2,if_neg (obj_start.1 ha).2,size_ok (at_in (startsV_at hsa)).2.1];omega
   · rw [hout p c]
     rcases G.zero p p0 p1 with ⟨x,hx,h2,h3⟩ | e
     · left
       refine ⟨x,hx,h2,?_⟩
       unfold usedZ at h3 ⊢
       rw [(l3 x hx).2];exact h3
     · exact .inr e
 · rw [l4] at hc ⊢
   have hsc:=(obj_start.1 hc).1
   rw [(l3 c hsc).2] at hj
   show loadV (writeV h.words (a+1+i) [b]) (c+1+j)=0\/loadV (writeV h.words (a+1+i) [b]) (c+1+j)∈objectsV h
   obtain ⟨q1,q2,q3⟩:=ptr_lt hj
   by_cases e:c=a
   · subst e
     by_cases e2:j=i
     · subst e2
       rw [hin];exact hb hj
     · rw [hout _ (by omega)];exact G.ptr c hc j hj
   · have:=starts_apart G hsc hsa e
     unfold osz at this
     rw [hout _ (by omega)];exact G.ptr c hc j hj
theorem table_pins {pw np:Int} {ps:List Pg} {i:Nat} {g:Pg} {p:Int} (h:tableOK pw np ps=true) (hg:ps[i]?=some g) (hk:g.kind=1\/g.kind=2) (hp:pinsB p=true):tableOK pw np (ps.set i ⟨g.kind,g.space,g.used,p⟩)=true:=by
 have hil:=(List.getElem?_eq_some_iff.1 hg).1
 rw [tableOK_iff] at h ⊢
 have hget:∀ t,(ps.set i ⟨g.kind,g.space,g.used,p⟩)[t]?=if i=t then some ⟨g.kind,g.space,g.used,p⟩ else ps[t]?:=fun t=>by
  rw [List.getElem?_set]
  by_cases e:i=t
  · subst e;rw [if_pos rfl,if_pos rfl,if_pos hil]
  · rw [if_neg e,if_neg e]
 have hD:∀ t,(((ps.set i ⟨g.kind,g.space,g.used,p⟩).getD t Pg.zero).kind=(ps.getD t Pg.zero).kind)/\(((ps.set i ⟨g.kind,g.space,g.used,p⟩).getD t Pg.zero).used=(ps.getD t Pg.zero).used):=fun t=>by
  rw [List.getD_eq_getElem?_getD,List.getD_eq_getElem?_getD,hget]
  by_cases e:i=t
  · subst e;rw [if_pos rfl,hg];exact ⟨rfl,rfl⟩
  · rw [if_neg e];exact ⟨rfl,rfl⟩
 have how:∀ (t:Nat) (b:Int),ownedAt pw np (ps.set i ⟨g.kind,g.space,g.used,p⟩) t b=ownedAt pw np ps t b:=by
  intro t
  induction t with
  | zero=>intro b;rfl
  | succ t ih=>intro b;rw [ownedAt,ownedAt,(hD t).1,(hD t).2,ih]
 intro t x hx
 rw [hget] at hx
 have hlen:(ps.set i ⟨g.kind,g.space,g.used,p⟩).length=ps.length:=List.length_set ..
 have htail:∀ (s:Int) (a m:Nat),allTails s ((ps.drop a).take m)=true->allTails s (((ps.set i ⟨g.kind,g.space,g.used,p⟩).drop a).take m)=true:=fun s a m ht=>by
  rw [allTails_iff] at ht ⊢
  intro u u1 u2 z hz
  rw [hget] at hz
  by_cases e:i=u
  · subst e
    have:=ht i u1 u2 g hg
    omega
  · rw [if_neg e] at hz;exact ht u u1 u2 z hz
 by_cases e:i=t
 · subst e
   rw [if_pos rfl] at hx
   injection hx with hx
   have ho:=h i g hg
   subst hx
   unfold pageOK at ho ⊢
   dsimp only
   rcases hk with k1 | k2
   · rw [if_neg (by omega),if_pos k1] at ho ⊢
     unfold smallOK at ho ⊢
     simp only [Bool.and_eq_true] at ho ⊢
     exact ⟨ho.1,hp⟩
   · rw [if_neg (by omega),if_neg (by omega),if_pos k2] at ho ⊢
     unfold largeOK at ho ⊢
     simp only [Bool.and_eq_true] at ho ⊢
     obtain ⟨⟨⟨⟨o1,o2⟩,o3⟩,o4⟩,o5⟩:=ho
     exact ⟨⟨⟨⟨o1,o2⟩,hp⟩,by rw [hlen];exact o4⟩,htail _ _ _ o5⟩
 · rw [if_neg e] at hx
   have ho:=h t x hx
   unfold pageOK at ho ⊢
   by_cases c0:x.kind=0
   · rw [if_pos c0] at ho ⊢;exact ho
   rw [if_neg c0] at ho ⊢
   by_cases c1:x.kind=1
   · rw [if_pos c1] at ho ⊢;exact ho
   rw [if_neg c1] at ho ⊢
   by_cases c2:x.kind=2
   · rw [if_pos c2] at ho ⊢
     unfold largeOK at ho ⊢
     simp only [Bool.and_eq_true] at ho ⊢
     obtain ⟨⟨⟨⟨o1,o2⟩,o3⟩,o4⟩,o5⟩:=ho
     exact ⟨⟨⟨⟨o1,o2⟩,o3⟩,by rw [hlen];exact o4⟩,htail _ _ _ o5⟩
   rw [if_neg c2] at ho ⊢
   by_cases c3:x.kind=3
   · rw [if_pos c3] at ho ⊢
     unfold tailOK ownedB at ho ⊢
     rw [how];exact ho
   · rw [if_neg c3] at ho;cases ho
theorem bump_kinds {ps qs:List Pg} {b:Int} (hl:qs.length=ps.length) (hk:∀ k:Nat,(qs.getD k Pg.zero).kind=(ps.getD k Pg.zero).kind):bumpB qs b=bumpB ps b:=by
 unfold bumpB
 rw [hl,hk]
theorem crowd_set:∀ (ps:List Pg) (i:Nat) (g y:Pg),ps[i]?=some g->crowdN (ps.set i y)+(if g.kind=1/\0 < g.pins then 1 else 0)=crowdN ps+(if y.kind=1/\0 < y.pins then 1 else 0)
 | [],i,g,y,h=>by simp at h
 | x :: ps,0,g,y,h=>by
  simp only [List.getElem?_cons_zero,Option.some.injEq] at h
  subst h
  rw [List.set_cons_zero,crowdN,crowdN];omega
 | x :: ps,i+1,g,y,h=>by
  have ih:=crowd_set ps i g y (by simpa using h)
  rw [List.set_cons_succ,crowdN,crowdN];omega
theorem good_pin {h:Hp} (G:Good h) {a:Int} {i:Nat} {g:Pg} {p:Int} (ha:a∈objectsV h) (hi:ofI h.pw h.np a=i) (hg:h.pages[i]?=some g) (hp:pinsB p=true)
 (hc:¬(g.kind=1/\0 < g.pins)->g.kind=1->0 < p->(crowdN h.pages:Int) < h.np / 4) :
 Good { h with pages:=h.pages.set i ⟨g.kind,g.space,g.used,p⟩ }/\objectsV { h with pages:=h.pages.set i ⟨g.kind,g.space,g.used,p⟩ }=objectsV h:=by
 obtain ⟨i',j,g',b⟩:=objects_begin ha
 have hii:i'=i:=by have:=b.oi;omega
 subst hii
 have hgg:g'=g:=by have:=b.pg;rw [hg] at this;injection this with this;exact this.symm
 subst hgg
 have hkd:g'.kind=1\/g'.kind=2:=by rcases b.kd with ⟨k,-⟩ | ⟨k,-⟩ <;> omega
 have hil:=(List.getElem?_eq_some_iff.1 hg).1
 have hgetD:∀ t:Nat,((h.pages.set i' ⟨g'.kind,g'.space,g'.used,p⟩).getD t Pg.zero).kind=(h.pages.getD t Pg.zero).kind:=fun t=>by
  rw [List.getD_eq_getElem?_getD,List.getD_eq_getElem?_getD,List.getElem?_set]
  by_cases e:i'=t
  · subst e;rw [if_pos rfl,if_pos hil,hg];rfl
  · rw [if_neg e]
 have hok:okH { h with pages:=h.pages.set i' ⟨g'.kind,g'.space,g'.used,p⟩ }=true:=by
  obtain ⟨p1,p2,p3,p4,p5,p6⟩:=okP_parts (h:=h) (by unfold okP;rw [properP_B];exact G.ok)
  have:=okP_mk (h:={ h with pages:=h.pages.set i' ⟨g'.kind,g'.space,g'.used,p⟩ }) p1 p2 (by show ((h.pages.set i' _).length:Int)=_;rw [List.length_set];exact p3) p4 (by rw [bump_kinds (List.length_set ..) hgetD];exact p5) (table_pins p6 hg hkd hp)
  unfold okP at this;rw [properP_B] at this;exact this
 have hpg:∀ (k:Nat) (y:Pg),h.pages[k]?=some y->∃ y',(h.pages.set i' ⟨g'.kind,g'.space,g'.used,p⟩)[k]?=some y'/\y'.kind=y.kind/\y'.used=y.used/\y'.space=y.space:=fun k y hy=>by
  rw [List.getElem?_set]
  by_cases e:i'=k
  · subst e;rw [if_pos rfl,if_pos hil];rw [hg] at hy;injection hy with hy;subst hy;exact ⟨_,rfl,rfl,rfl,rfl⟩
  · rw [if_neg e];exact ⟨y,hy,rfl,rfl,rfl⟩
 obtain ⟨l1,l2,l3,l4⟩:=same_layout (h':={ h with pages:=h.pages.set i' ⟨g'.kind,g'.space,g'.used,p⟩ }) G hok rfl rfl (List.length_set ..) (fun k y hy=>by obtain ⟨y',y1,y2,y3,-⟩:=hpg k y hy;exact ⟨y',y1,y2,y3⟩) fun x hx=>rfl
 have hback:∀ (k:Nat) (y':Pg),(h.pages.set i' ⟨g'.kind,g'.space,g'.used,p⟩)[k]?=some y'->∃ y,h.pages[k]?=some y/\y'.kind=y.kind/\y'.space=y.space:=fun k y' hy=>by
  have hk:k < h.pages.length:=by have:=(List.getElem?_eq_some_iff.1 hy).1;rwa [List.length_set] at this
  have hy0:h.pages[k]?=some h.pages[k]:=List.getElem?_eq_getElem hk
  obtain ⟨y2,y3,y4,y5,y6⟩:=hpg k _ hy0
  rw [hy] at y3
  injection y3 with y3
  subst y3
  exact ⟨_,hy0,y4,y6⟩
 refine ⟨⟨hok,fun k y' hy=>?_,fun k hk=>(l1 k (by simpa using hk)).1,fun k y' hy x hx=>?_,fun q q0 q1=>?_,fun c hc2 t ht=>?_,?_⟩,l4⟩
 · obtain ⟨y,y1,y2,y3⟩:=hback k y' hy
   rw [y2,y3];exact G.sp k y y1
 · obtain ⟨y,y1,y2,y3⟩:=hback k y' hy
   have hk:k < h.pages.length:=(List.getElem?_eq_some_iff.1 y1).1
   rw [(l1 k hk).2] at hx
   rw [(l3 x ((starts_mem G.ok G.pg).2 ⟨k,hk,hx⟩)).2,y2]
   exact G.cls k y y1 x hx
 · rw [l2]
   rcases G.zero q q0 q1 with ⟨x,hx,h2,h3⟩ | e
   · left
     refine ⟨x,hx,h2,?_⟩
     unfold usedZ at h3 ⊢
     rw [(l3 x hx).2];exact h3
   · exact .inr e
 · rw [l4] at hc2 ⊢
   rw [(l3 c (obj_start.1 hc2).1).2] at ht
   exact G.ptr c hc2 t ht
 · have hcs:=crowd_set h.pages i' g' ⟨g'.kind,g'.space,g'.used,p⟩ hg
   have hcr:=G.crowd
   show (crowdN (h.pages.set i' ⟨g'.kind,g'.space,g'.used,p⟩):Int)<=h.np / 4
   by_cases c1:g'.kind=1/\0 < g'.pins
   · rw [if_pos c1] at hcs
     split at hcs <;> omega
   · rw [if_neg c1] at hcs
     by_cases c2:g'.kind=1/\0 < p
     · rw [if_pos (show (⟨g'.kind,g'.space,g'.used,p⟩:Pg).kind=1/\0 < (⟨g'.kind,g'.space,g'.used,p⟩:Pg).pins from c2)] at hcs
       have:=hc c1 c2.1 c2.2
       omega
     · rw [if_neg (show ¬((⟨g'.kind,g'.space,g'.used,p⟩:Pg).kind=1/\0 < (⟨g'.kind,g'.space,g'.used,p⟩:Pg).pins) from c2)] at hcs
       omega
def CollGood:Prop:=∀ (x:Wd),GW x->collE x.h x.st x.wk=0->GW ⟨collH x.h x.st x.wk,collS x.h x.st,collK x.h x.st x.wk⟩
theorem made_good (hC:CollGood):∀ (n:Nat) (x:Wd),Made n x->n<=400->GW x:=by
 intro n x hm
 induction hm with
 | empty pw np h1 h2 =>
  intro _
  obtain ⟨g1,g2,g3⟩:=good_empty (pw:=pw) (np:=np) (conf_mk (by omega))
  exact ⟨g1,g3,(fun a ha=>nomatch ha),(fun a ha=>nomatch ha)⟩
 | step n x y hm hs ih =>
  intro hn
  have G:=ih (by omega)
  have L:=lens_made n x hm (by omega)
  cases hs with
  | none=>exact G
  | put k n' m k1 k3 n0 n1 m0 m1 he =>
   obtain ⟨g1,g2⟩:=good_alloc G.good m0 he
   refine ⟨g1,?_,fun a ha=>?_,fun a ha=>?_⟩
   · obtain ⟨-,hv,-,-,-,-,-,-,-,-,eH,-⟩:=alloc_parts he
     show WB (allocH x.h k n' m).words
     rw [eH]
     exact wb_write G.wb (initL_wb hv m0)
   · show a=0\/a∈objectsV (allocH x.h k n' m)
     rcases List.mem_append.1 ha with e | e
     · rcases G.st a e with q | q
       · exact .inl q
       · exact .inr ((g2 a).2 (.inl q))
     · rw [List.mem_singleton.1 e];exact .inr ((g2 _).2 (.inr rfl))
   · show a=0\/a∈objectsV (allocH x.h k n' m)
     rcases G.wk a ha with q | q
     · exact .inl q
     · exact .inr ((g2 a).2 (.inl q))
  | link a i b ha hg i0 i1 b0 b1 hb =>
   have hob:a∈objectsV x.h:=by
    rcases G.root ha with e | e
    · subst e
      have:=(getE_in hg).2.2.2.2.2.1
      omega
    · exact e
   obtain ⟨-,g2⟩:=obj_get hob
   rw [g2] at i1 hb
   obtain ⟨s1,s2,s3,s4,s5⟩:=good_set G.good hob i0 i1 (b:=b) fun q=>G.root (hb q)
   refine ⟨s1,?_,fun c hc=>?_,fun c hc=>?_⟩
   · show WB (setV x.h a i b).words
     rw [s3];exact wb_write G.wb (fun z hz=>by rw [List.mem_singleton.1 hz];exact ⟨b0,b1⟩)
   · show c=0\/c∈objectsV (setV x.h a i b)
     rw [s2];exact G.st c hc
   · show c=0\/c∈objectsV (setV x.h a i b)
     rw [s2];exact G.wk c hc
  | pin a i g p ha ho hi hg hp =>
   have hob:a∈objectsV x.h:=by
    rcases G.root ha with e | e
    · subst e
      have:=(of_facts ho).1
      have h1:=(okH_parts G.good.ok).1
      rw [(of_out h1 (by unfold inAr;exact decide_eq_false (by omega))).2.2] at ho
      cases ho
    · exact e
   have hpb:=L.pins g (List.mem_of_getElem? hg)
   obtain ⟨g1,g2⟩:=good_pin G.good hob hi hg (p:=p) (by unfold pinsB;exact decide_eq_true (by omega)) (fun c1 c2 c3=>by
    rcases hp with ⟨q1,q2⟩ | ⟨q1,q2⟩
    · exact absurd ⟨c2,q1⟩ c1
    · rcases q2 with q2 | q2 | q2
      · exact absurd ⟨c2,q2⟩ c1
      · omega
      · exact q2)
   refine ⟨g1,G.wb,fun c hc=>?_,fun c hc=>?_⟩
   · show c=0\/c∈objectsV { x.h with pages:=x.h.pages.set i ⟨g.kind,g.space,g.used,p⟩ }
     rw [g2];exact G.st c hc
   · show c=0\/c∈objectsV { x.h with pages:=x.h.pages.set i ⟨g.kind,g.space,g.used,p⟩ }
     rw [g2];exact G.wk c hc
  | drop i r b hr =>
   refine ⟨G.good,G.wb,fun c hc=>G.st c ?_,fun c hc=>?_⟩
   · rcases List.mem_append.1 hc with e | e
     · exact List.mem_of_mem_take e
     · exact List.mem_of_mem_drop e
   · have hc:c∈(if b=true then x.wk ++ [r] else x.wk):=hc
     split at hc
     · rcases List.mem_append.1 hc with e | e
       · exact G.wk c e
       · rw [List.mem_singleton.1 e];exact G.st r (List.mem_of_getElem? hr)
     · exact G.wk c hc
  | collect hE=>exact hC x G hE
  | dup a ha =>
   refine ⟨G.good,G.wb,fun c hc=>?_,G.wk⟩
   rcases List.mem_append.1 hc with e | e
   · exact G.st c e
   · rw [List.mem_singleton.1 e];exact G.root ha
end Go.VI.P
namespace Go.VI.P
open Go
open Go.RowKit
def bs (h:Hp) (k:Nat):Int:=4096+(k:Int)*h.pw
def Fw (os qs:List Int) (v w:Int):Prop:=(v=0/\w=0)\/∃ t:Nat,os[t]?=some v/\qs[t]?=some w
theorem Fw.more {os qs os' qs':List Int} {v w:Int} (h:Fw os qs v w) (h1:∃ l,os'=os ++ l) (h2:∃ l,qs'=qs ++ l):Fw os' qs' v w:=by
 rcases h with e | ⟨t,e1,e2⟩
 · exact .inl e
 · obtain ⟨l1,rfl⟩:=h1
   obtain ⟨l2,rfl⟩:=h2
   have t1:=(List.getElem?_eq_some_iff.1 e1).1
   have t2:=(List.getElem?_eq_some_iff.1 e2).1
   exact .inr ⟨t,by rw [List.getElem?_append_left t1];exact e1,by rw [List.getElem?_append_left t2];exact e2⟩
structure CI (h:Hp) (x:Wk) (os:List Int) (D:Nat->Int->Prop):Prop where
 inv:Inv h x
 len:os.length=x.queue.length
 dl:∀ i j,D i j->i < os.length
 oin:∀ o∈os,o∈objectsV h
 qnd:x.queue.Nodup
 seen:∀ a∈objectsV h,a∈os↔(a∈x.queue\/okT (evWd x a).toNat=true)
 plc:∀ (i:Nat) (o q:Int),os[i]?=some o->x.queue[i]?=some q->q=o\/(okT (evWd x o).toNat=true/\tgtV (evWd x o).toNat=q/\CopyAt x q/\∀ i' j' g',Begins h o i' j' g'->g'.kind=1)
 hd:∀ (i:Nat) (o q:Int),os[i]?=some o->x.queue[i]?=some q->evWd x q=loadV h.words o
 fl:∀ (i:Nat) (o q:Int),os[i]?=some o->x.queue[i]?=some q->∀ j,0<=j->j < (atH h o).n->(D i j->ptrB (atH h o).k (atH h o).n (atH h o).m j=true->Fw os x.queue (loadV h.words (o+1+j)) (loadV x.h.words (q+1+j)))/\((D i j->ptrB (atH h o).k (atH h o).n (atH h o).m j=false)->loadV x.h.words (q+1+j)=loadV h.words (o+1+j))
 un:∀ a∈objectsV h,¬a∈os->∀ j,0<=j->j < osz h a->loadV x.h.words (a+j)=loadV h.words (a+j)
 ot:∀ p,(∀ a∈objectsV h,p < a\/a+osz h a<=p)->(∀ (k:Nat) (g0:Pg),h.pages[k]?=some g0->g0.kind=0->p < bs h k\/bs h k+h.pw<=p)->loadV x.h.words p=loadV h.words p
 fr:∀ (k:Nat) (g0:Pg) (p:Int),h.pages[k]?=some g0->g0.kind=0->bs h k<=p->p < bs h k+h.pw->(¬(k:Int)∈x.taken\/∃ g,x.h.pages[k]?=some g/\bs h k+g.used<=p)->loadV x.h.words p=0
 tile:∀ k:Nat,(k:Int)∈x.taken->∃ u l,x.h.pages[k]?=some ⟨1,1 - h.space,u,0⟩/\Tile (evN x) (bs h k) (bs h k+u) l/\∀ q,q∈l↔q∈x.queue/\bs h k<=q/\q < bs h k+h.pw
 ppg:∀ (k:Nat) (g0:Pg),h.pages[k]?=some g0->¬(k:Int)∈x.taken->∃ s,x.h.pages[k]?=some ⟨g0.kind,s,g0.used,g0.pins⟩/\(g0.kind=0->s=g0.space)/\(g0.kind=1->s=if 0 < g0.pins then 1 - h.space else h.space) /\
  (g0.kind=2->s=if bs h k∈x.queue then 1 - h.space else h.space)/\(g0.kind=3->s=if bs h (headAt h.pages k)∈x.queue then 1 - h.space else h.space)
 kp:∀ q∈x.queue,q∈objectsV h->∀ i j g,Begins h q i j g->g.kind=2\/(g.kind=1/\0 < g.pins)
 wb:WB x.h.words
theorem CI.congr {h:Hp} {x:Wk} {os:List Int} {D E:Nat->Int->Prop} (C:CI h x os D) (el:∀ i j,E i j->i < os.length) (he:∀ (i:Nat) (o:Int),os[i]?=some o->∀ j,ptrB (atH h o).k (atH h o).n (atH h o).m j=true->(D i j↔E i j)):CI h x os E :=
 ⟨C.inv,C.len,el,C.oin,C.qnd,C.seen,C.plc,C.hd,fun i o q h1 h2 j j0 j1=>by
  obtain ⟨f1,f2⟩:=C.fl i o q h1 h2 j j0 j1
  refine ⟨fun e p=>f1 ((he i o h1 j p).2 e) p,fun e=>f2 fun d=>?_⟩
  cases hp:ptrB (atH h o).k (atH h o).n (atH h o).m j
  · rfl
  · have:=e ((he i o h1 j hp).1 d)
    rw [hp] at this;exact this,C.un,C.ot,C.fr,C.tile,C.ppg,C.kp,C.wb⟩
theorem snoc_get {os:List Int} {a o:Int} {i:Nat} (h:(os ++ [a])[i]?=some o):os[i]?=some o\/(i=os.length/\o=a):=by
 by_cases c:i < os.length
 · rw [List.getElem?_append_left c] at h;exact .inl h
 · have hl:=(List.getElem?_eq_some_iff.1 h).1
   rw [List.length_append,List.length_singleton] at hl
   have e:i=os.length:=by omega
   subst e
   rw [List.getElem?_append_right (Nat.le_refl _),Nat.sub_self] at h
   simp only [List.getElem?_cons_zero,Option.some.injEq] at h
   exact .inr ⟨rfl,h.symm⟩
theorem headAt_spec (ps:List Pg):∀ k:Nat,(∀ t,headAt ps k < t->t<=k->(ps.getD t Pg.zero).kind=3)/\(headAt ps k=0\/¬(ps.getD (headAt ps k) Pg.zero).kind=3)
 | 0=>⟨fun t h1 h2=>by unfold headAt at h1;omega,.inl rfl⟩
 | k+1=>by
  obtain ⟨ih1,ih2⟩:=headAt_spec ps k
  unfold headAt
  by_cases c:(ps.getD (k+1) Pg.zero).kind=3
  · rw [if_pos c]
    refine ⟨fun t h1 h2=>?_,ih2⟩
    by_cases e:t=k+1
    · rw [e];exact c
    · exact ih1 t h1 (by omega)
  · rw [if_neg c]
    exact ⟨fun t h1 h2=>by omega,.inr c⟩
theorem bs_lt {h:Hp} (hp:0<=h.pw) {k k':Nat} (hk:k < k'):bs h k+h.pw<=bs h k':=by
 unfold bs
 have:((k:Int)+1)*h.pw<=(k':Int)*h.pw:=Int.mul_le_mul_of_nonneg_right (by omega) hp
 rw [Int.add_mul,Int.one_mul] at this
 omega
theorem bs_uniq {h:Hp} (hp:0<=h.pw) {k k':Nat} {p:Int} (h1:bs h k<=p) (h2:p < bs h k+h.pw) (h3:bs h k'<=p) (h4:p < bs h k'+h.pw):k=k':=by
 refine Decidable.by_contra fun c=>?_
 by_cases hlt:k < k'
 · have:=bs_lt hp hlt;omega
 · have:=bs_lt (h:=h) hp (show k' < k by omega);omega
theorem obj_on {h:Hp} {a:Int} {i j:Nat} {g:Pg} (b:Begins h a i j g):bs h i<=a/\a < bs h i+h.pw:=by
 have:=b.ad
 have:=b.jl
 unfold bs
 omega
theorem CI.begin {h:Hp} (G:Good h) (hwb:WB h.words):CI h (beginW h) [] (fun _ _=>False):=by
 have I:=begin_inv G.ok
 have hpw:=I.conf
 have hw:(beginW h).h.words=h.words:=rfl
 have hev:∀ a,evWd (beginW h) a=loadV h.words a:=fun a=>rfl
 refine ⟨I,rfl,(fun i j c=>c.elim),(fun o ho=>nomatch ho),List.nodup_nil,fun a ha=>?_,(fun i o q h1=>by simp at h1),(fun i o q h1=>by simp at h1),(fun i o q h1=>by simp at h1),fun a ha _ j _ _=>rfl,fun p _ _=>rfl,fun k g0 p hg hk h1 h2 _=>?_,(fun k hk=>nomatch hk),fun k g0 hg _=>?_,(fun q hq=>nomatch hq),hwb⟩
 · have:=old_ev (x:=beginW h) ha rfl
   constructor
   · intro c;cases c
   · rintro (c | c)
     · cases c
     · rw [this.2.2.2] at c;cases c
 · show loadV h.words p=0
   have hkl:=(List.getElem?_eq_some_iff.1 hg).1
   have hpp:=page_prod (p:=(k:Int)) (okH_parts G.ok).1 (by omega) (by omega)
   unfold bs at h1 h2
   rcases G.zero p (by omega) (by omega) with ⟨x,hx,q1,q2⟩ | e
   · exfalso
     obtain ⟨i,j,g,b⟩:=begins (startsV_at hx)
     have hz:=usedZ_osz (startsV_at hx)
     have:=begins_free b hg hk
     have hb:=b.pos
     omega
   · exact e
 · have hsp:=G.sp k g0 hg
   have e:(beginW h).h.pages[k]?=some (if g0.kind=1/\0 < g0.pins then ⟨g0.kind,1 - h.space,g0.used,g0.pins⟩ else g0):=by
    show (h.pages.map _)[k]?=_
    rw [List.getElem?_map,hg];rfl
   by_cases c:g0.kind=1/\0 < g0.pins
   · rw [if_pos c] at e
     exact ⟨_,e,fun q=>by omega,fun _=>by rw [if_pos c.2],fun q=>by omega,fun q=>by omega⟩
   · rw [if_neg c] at e
     refine ⟨g0.space,e,fun _=>rfl,fun q=>?_,fun q=>?_,fun q=>?_⟩
     · rw [if_neg (fun q2=>c ⟨q,q2⟩)];omega
     · show g0.space=if bs h k∈([]:List Int) then _ else _
       rw [if_neg (by simp)];omega
     · show g0.space=if bs h (headAt h.pages k)∈([]:List Int) then _ else _
       rw [if_neg (by simp)];omega
theorem CI.kept {h:Hp} {x y:Wk} {os:List Int} {D:Nat->Int->Prop} (C:CI h x os D) {a:Int} (ha:a∈objectsV h) (hq:¬a∈x.queue) (ht:okT (evWd x a).toNat=false)
 (Iy:Inv h y) (ew:y.h.words=x.h.words) (eq:y.queue=x.queue ++ [a]) (et:y.taken=x.taken) (ep:y.h.pw=x.h.pw) (htk:∀ k:Nat,(k:Int)∈x.taken->y.h.pages[k]?=x.h.pages[k]?)
 (hpp:∀ (k:Nat) (g0:Pg),h.pages[k]?=some g0->¬(k:Int)∈x.taken->∃ s,y.h.pages[k]?=some ⟨g0.kind,s,g0.used,g0.pins⟩/\(g0.kind=0->s=g0.space)/\(g0.kind=1->s=if 0 < g0.pins then 1 - h.space else h.space) /\
  (g0.kind=2->s=if bs h k∈y.queue then 1 - h.space else h.space)/\(g0.kind=3->s=if bs h (headAt h.pages k)∈y.queue then 1 - h.space else h.space))
 (hkp:∀ i j g,Begins h a i j g->g.kind=2\/(g.kind=1/\0 < g.pins)):CI h y (os ++ [a]) D:=by
 have I:=C.inv
 have hcf:=I.conf
 have hev:∀ b,evWd y b=evWd x b:=fun b=>by unfold evWd;rw [ew]
 have hevN:∀ b,evN y b=evN x b:=fun b=>by unfold evN;rw [hev]
 have hao:¬a∈os:=fun c=>by
  rcases (C.seen a ha).1 c with e | e
  · exact hq e
  · rw [ht] at e;cases e
 have hcp:∀ q,CopyAt x q->CopyAt y q:=fun q ⟨k,g,c1,c2,c3,c4,c5⟩=>⟨k,g,by rw [et];exact c1,by rw [htk k c1];exact c2,by rw [ep];exact c3,by rw [hev];exact c4,by rw [hevN,ep];exact c5⟩
 have e0:evWd x a=loadV h.words a:=by
  rcases I.un a ha with e | e
  · exact e
  · rw [ht] at e;exact absurd e.1 (by decide)
 obtain ⟨ia,ja,ga,ba⟩:=objects_begin ha
 have hon:=obj_on ba
 have hlen:(os ++ [a]).length=y.queue.length:=by rw [eq,List.length_append,List.length_append,C.len]
 have hqg:∀ (i:Nat) (o q:Int),(os ++ [a])[i]?=some o->y.queue[i]?=some q->(os[i]?=some o/\x.queue[i]?=some q)\/(i=os.length/\o=a/\q=a):=fun i o q h1 h2=>by
  rw [eq] at h2
  rcases snoc_get h1 with e | ⟨e1,e2⟩
  · rcases snoc_get h2 with e' | ⟨e1',-⟩
    · exact .inl ⟨e,e'⟩
    · have:=(List.getElem?_eq_some_iff.1 e).1
      rw [C.len] at this;omega
  · rcases snoc_get h2 with e' | ⟨-,e2'⟩
    · have:=(List.getElem?_eq_some_iff.1 e').1
      rw [<-C.len] at this;omega
    · exact .inr ⟨e1,e2,e2'⟩
 refine ⟨Iy,hlen,fun i j d=>by rw [List.length_append];have:=C.dl i j d;omega,fun o ho=>?_,?_,fun c hc=>?_,fun i o q h1 h2=>?_,fun i o q h1 h2=>?_,fun i o q h1 h2 j j0 j1=>?_,fun c hc hn j j0 j1=>?_,fun p h1 h2=>by rw [ew];exact C.ot p h1 h2,fun k g0 p hg hk h1 h2 h3=>?_,fun k hk=>?_,fun k g0 hg hk=>hpp k g0 hg (by rw [<-et];exact hk),fun q hq2 hqo=>?_,by rw [ew];exact C.wb⟩
 · rcases List.mem_append.1 ho with e | e
   · exact C.oin o e
   · rw [List.mem_singleton.1 e];exact ha
 · rw [eq]
   exact List.nodup_append.2 ⟨C.qnd,by simp,fun u hu v hv=>by rw [List.mem_singleton.1 hv];exact fun e=>hq (e ▸ hu)⟩
 · rw [hev,eq,List.mem_append,List.mem_append,C.seen c hc]
   simp only [List.mem_singleton]
   constructor
   · rintro ((e | e) | e)
     · exact .inl (.inl e)
     · exact .inr e
     · exact .inl (.inr e)
   · rintro ((e | e) | e)
     · exact .inl (.inl e)
     · exact .inr e
     · exact .inl (.inr e)
 · rcases hqg i o q h1 h2 with ⟨e1,e2⟩ | ⟨-,e1,e2⟩
   · rcases C.plc i o q e1 e2 with e | ⟨e3,e4,e5,e6⟩
     · exact .inl e
     · exact .inr ⟨by rw [hev];exact e3,by rw [hev];exact e4,hcp q e5,e6⟩
   · left;rw [e1,e2]
 · rw [hev]
   rcases hqg i o q h1 h2 with ⟨e1,e2⟩ | ⟨-,e1,e2⟩
   · exact C.hd i o q e1 e2
   · rw [e1,e2];exact e0
 · rw [ew]
   rcases hqg i o q h1 h2 with ⟨e1,e2⟩ | ⟨ei,e1,e2⟩
   · obtain ⟨f1,f2⟩:=C.fl i o q e1 e2 j j0 j1
     exact ⟨fun d p=>(f1 d p).more ⟨_,rfl⟩ ⟨_,eq⟩,f2⟩
   · subst e1 e2
     refine ⟨fun d=>by have:=C.dl i j d;omega,fun _=>?_⟩
     have:=C.un q ha hao (j+1) (by omega) (by unfold osz;omega)
     rwa [show q+(j+1)=q+1+j from by omega] at this
 · rw [ew]
   exact C.un c hc (fun e=>hn (List.mem_append_left _ e)) j j0 j1
 · rw [ew]
   refine C.fr k g0 p hg hk h1 h2 ?_
   rw [et] at h3
   by_cases c:(k:Int)∈x.taken
   · rcases h3 with e | e
     · exact .inl e
     · rw [htk k c] at e;exact .inr e
   · exact .inl c
 · rw [et] at hk
   obtain ⟨u,l,t1,t2,t3⟩:=C.tile k hk
   obtain ⟨k2,g0,g2,f1,f2,f3,-⟩:=I.tk _ hk
   obtain rfl:k=k2:=by omega
   refine ⟨u,l,by rw [htk k hk];exact t1,tile_congr (fun q _=>hevN q) t2,fun q=>?_⟩
   rw [t3,eq,List.mem_append,List.mem_singleton]
   constructor
   · rintro ⟨q1,q2⟩;exact ⟨.inl q1,q2⟩
   · rintro ⟨q1 | q1,q2,q3⟩
     · exact ⟨q1,q2,q3⟩
     · subst q1
       exfalso
       have:=bs_uniq (by omega) q2 q3 hon.1 hon.2
       subst this
       have:=ba.pg
       rw [f2] at this
       injection this with this
       subst this
       rcases ba.kd with ⟨q,-⟩ | ⟨q,-⟩ <;> omega
 · rw [eq] at hq2
   rcases List.mem_append.1 hq2 with e | e
   · exact C.kp q e hqo
   · rw [List.mem_singleton.1 e];exact hkp
end Go.VI.P
namespace Go.VI.P
open Go
open Go.RowKit
theorem tail_head {h:Hp} (hok:okH h=true) {k:Nat} {g:Pg} (hg:h.pages[k]?=some g) (hk:g.kind=3):∃ l y,l < k/\headAt h.pages k=l/\h.pages[l]?=some y/\y.kind=2:=by
 obtain ⟨p1,p2,p3,p4,p5,p6,p7⟩:=okH_parts hok
 have hT:tableOK h.pw h.np h.pages=true:=by rw [<-proper_table];exact p7
 have ho:=tableOK_iff.1 hT k g hg
 unfold pageOK at ho
 rw [if_neg (by omega),if_neg (by omega),if_neg (by omega),if_pos hk] at ho
 unfold tailOK at ho
 simp only [Bool.and_eq_true] at ho
 have ho:=ho.2
 unfold ownedB at ho
 obtain ⟨l,l1,l2,l3,l4⟩:=(owned_iff h.pw h.np h.pages k 1).1 ho
 have hkl:=(List.getElem?_eq_some_iff.1 hg).1
 have hl:h.pages[l]?=some h.pages[l]:=List.getElem?_eq_getElem (by omega)
 rw [getD_at hl] at l2 l4
 generalize h.pages[l]=y at hl l2 l4
 obtain ⟨t1,t2,t3⟩:=large_tails p7 hl l2
 refine ⟨l,y,l1,?_,hl,l2⟩
 obtain ⟨d,rfl⟩:∃ d,k=l+d:=⟨k - l,by omega⟩
 refine headAt_is (by rw [getD_at hl];omega) d fun t q1 q2=>?_
 obtain ⟨z,z1,z2,-⟩:=t3 t q1 (by omega)
 rw [getD_at z1];exact z2
theorem takeWhile_ge {α:Type} {P:α->Bool}:∀ (l:List α) (n:Nat),n<=l.length->(∀ t y,t < n->l[t]?=some y->P y=true)->n<=(l.takeWhile P).length
 | l,0,_,_=>Nat.zero_le _
 | [],n+1,h,_=>by simp at h
 | y :: r,n+1,h,hp=>by
  rw [List.takeWhile_cons,hp 0 y (by omega) rfl]
  simp only [if_true,List.length_cons]
  have:=takeWhile_ge r n (by simpa using h) fun t z ht hz=>hp (t+1) z (by omega) (by simpa using hz)
  omega
theorem CI.keep1 {h:Hp} {x:Wk} {os:List Int} {D:Nat->Int->Prop} (C:CI h x os D) {a:Int} (ha:a∈objectsV h) (hq:¬a∈x.queue) (ht:okT (evWd x a).toNat=false) (hpr:promB x (evI x a)=true):CI h (keepW x a) (os ++ [a]) D:=by
 have I:=C.inv
 have hcf:=I.conf
 obtain ⟨i,j,g,b⟩:=objects_begin ha
 have hoi:evI x a=i:=by unfold evI;rw [I.pw,I.np];exact b.oi
 obtain ⟨s,s1,s2,s3,s4,s5⟩:=C.ppg i g b.pg (I.begun b)
 rw [hoi] at hpr
 unfold promB at hpr
 rw [Int.toNat_natCast,s1] at hpr
 simp only [Bool.and_eq_true,decide_eq_true_eq,Bool.not_eq_true',decide_eq_false_iff_not] at hpr
 obtain ⟨-,⟨k1,k2⟩,-⟩:=hpr
 rw [I.sp] at k2
 have hpins:0 < g.pins:=Decidable.by_contra fun c=>k2 (by rw [s3 k1,if_neg c])
 have hon:=obj_on b
 have hnb:∀ (k:Nat) (y:Pg),h.pages[k]?=some y->y.kind=2->bs h k≠a:=fun k y hy hk e=>by
  have:=bs_uniq (h:=h) (by omega) (k:=k) (k':=i) (p:=a) (by omega) (by omega) hon.1 hon.2
  subst this
  have:=b.pg
  rw [hy] at this
  injection this with this
  subst this
  omega
 refine C.kept ha hq ht (I.keep ha hq ht).1 rfl rfl rfl rfl (fun _ _=>rfl) (fun k g0 hg hk=>?_) fun i' j' g' b'=>?_
 · obtain ⟨s',q1,q2,q3,q4,q5⟩:=C.ppg k g0 hg hk
   refine ⟨s',q1,q2,q3,fun k2=>?_,fun k3=>?_⟩
   · rw [q4 k2]
     have:bs h k∈(keepW x a).queue↔bs h k∈x.queue:=by
      show bs h k∈x.queue ++ [a]↔_
      rw [List.mem_append,List.mem_singleton]
      exact ⟨fun c=>c.elim id fun e=>absurd e (hnb k g0 hg k2),.inl⟩
     simp only [this]
   · rw [q5 k3]
     obtain ⟨l,y,-,l2,l3,l4⟩:=tail_head I.ok hg k3
     rw [l2]
     have:bs h l∈(keepW x a).queue↔bs h l∈x.queue:=by
      show bs h l∈x.queue ++ [a]↔_
      rw [List.mem_append,List.mem_singleton]
      exact ⟨fun c=>c.elim id fun e=>absurd e (hnb l y l3 l4),.inl⟩
     simp only [this]
 · have:i'=i:=by have h1:=b.oi;have h2:=b'.oi;omega
   subst this
   have:g'=g:=by have h1:=b.pg;have h2:=b'.pg;rw [h1] at h2;injection h2 with h2;exact h2.symm
   subst this
   exact .inr ⟨k1,hpins⟩
theorem CI.keep2 {h:Hp} {x:Wk} {os:List Int} {D:Nat->Int->Prop} (C:CI h x os D) {a:Int} (ha:a∈objectsV h) (hq:¬a∈x.queue) (ht:okT (evWd x a).toNat=false) (hbig:evBig x a=true):CI h (keepW (largeW x (evI x a).toNat) a) (os ++ [a]) D:=by
 have I:=C.inv
 have hcf:=I.conf
 obtain ⟨i,j,g,b⟩:=objects_begin ha
 have hoi:evI x a=i:=by unfold evI;rw [I.pw,I.np];exact b.oi
 obtain ⟨s,s1,s2,s3,s4,s5⟩:=C.ppg i g b.pg (I.begun b)
 unfold evBig at hbig
 rw [hoi,Int.toNat_natCast,getD_at s1] at hbig
 have k2:g.kind=2:=of_decide_eq_true hbig
 have haj:a=bs h i:=by
  rcases b.kd with ⟨k,-⟩ | ⟨-,k,-⟩
  · omega
  · have:=b.ad;unfold bs;omega
 rw [hoi,Int.toNat_natCast]
 obtain ⟨I2,L2,e1,e2⟩:=I.large s1 (by exact k2)
 have hbs:∀ k:Nat,bs h k=a->k=i:=fun k e=>by
  have:(k:Int)*h.pw=(i:Int)*h.pw:=by unfold bs at e haj;omega
  have h0:h.pw≠0:=by omega
  have:=Int.eq_of_mul_eq_mul_right h0 this
  omega
 have htk3:∀ k:Nat,(k:Int)∈x.taken->∃ y,x.h.pages[k]?=some y/\y.kind=1:=fun k hk=>by
  obtain ⟨u,l,t1,-⟩:=C.tile k hk
  exact ⟨_,t1,rfl⟩
 have hrange:∀ (k:Nat) (g0:Pg),h.pages[k]?=some g0->¬(k:Int)∈x.taken->((i<=k/\k < tailEnd x.h.pages i)↔(k=i\/(g0.kind=3/\headAt h.pages k=i))):=fun k g0 hg hk=>by
  have hkl:=(List.getElem?_eq_some_iff.1 hg).1
  constructor
  · rintro ⟨r1,r2⟩
    by_cases e:k=i
    · exact .inl e
    · right
      have hall:∀ t,i < t->t<=k->(h.pages.getD t Pg.zero).kind=3:=fun t t1 t2=>by
       unfold tailEnd at r2
       obtain ⟨z,z1,z2⟩:=takeWhile_at (l:=x.h.pages.drop (i+1)) (k:=t - (i+1)) (P:=fun y=>decide (y.kind=3)) (by omega)
       rw [List.getElem?_drop,show i+1+(t - (i+1))=t from by omega] at z1
       have z2:z.kind=3:=of_decide_eq_true z2
       have hnt:¬(t:Int)∈x.taken:=fun c=>by
        obtain ⟨y,y1,y2⟩:=htk3 t c
        rw [z1] at y1;injection y1 with y1;subst y1;omega
       have ht0:h.pages[t]?=some h.pages[t]:=List.getElem?_eq_getElem (by omega)
       obtain ⟨y,y1,y2,y3⟩:=I.pg t _ ht0 hnt
       rw [z1] at y1;injection y1 with y1;subst y1
       rw [getD_at ht0];omega
      obtain ⟨d,rfl⟩:∃ d,k=i+d:=⟨k - i,by omega⟩
      refine ⟨?_,headAt_is (by rw [getD_at b.pg];omega) d hall⟩
      have:=hall (i+d) (by omega) (Nat.le_refl _)
      rwa [getD_at hg] at this
  · rintro (e | ⟨e1,e2⟩)
    · subst e
      exact ⟨Nat.le_refl _,by unfold tailEnd;omega⟩
    · have hle:=headAt_le h.pages k
      have hne:k≠i:=fun c=>by subst c;have:=b.pg;rw [hg] at this;injection this with this;subst this;omega
      obtain ⟨hs1,-⟩:=headAt_spec h.pages k
      rw [e2] at hs1
      refine ⟨by omega,?_⟩
      unfold tailEnd
      have hpl:=I.pl
      have:=takeWhile_ge (P:=fun y:Pg=>decide (y.kind=3)) (x.h.pages.drop (i+1)) (k - i) (by rw [List.length_drop];omega) fun t y ht1 hy=>by
       rw [List.getElem?_drop] at hy
       have h3:=hs1 (i+1+t) (by omega) (by omega)
       have ht0:h.pages[i+1+t]?=some h.pages[i+1+t]:=List.getElem?_eq_getElem (by omega)
       rw [getD_at ht0] at h3
       have hnt:¬((i+1+t:Nat):Int)∈x.taken:=fun c=>by
        obtain ⟨k3,g0',g',f0,f1,f2,-⟩:=I.tk _ c
        obtain rfl:i+1+t=k3:=by omega
        rw [ht0] at f1;injection f1 with f1;rw [f1] at h3;omega
       obtain ⟨y',y1,y2,y3⟩:=I.pg _ _ ht0 hnt
       rw [hy] at y1;injection y1 with y1;subst y1
       exact decide_eq_true (by omega)
      omega
 have hpage:∀ (k:Nat) (y:Pg),x.h.pages[k]?=some y->(keepW (largeW x i) a).h.pages[k]?=some (if i<=k/\k < tailEnd x.h.pages i then ⟨y.kind,1 - x.h.space,y.used,y.pins⟩ else y):=fun k y hy=>spc_get hy
 refine C.kept ha hq ht (I2.keep ha (by rw [e2];exact hq) (by rw [e1];exact ht)).1 rfl rfl rfl rfl (fun k hk=>?_) (fun k g0 hg hk=>?_) fun i' j' g' b'=>?_
 · obtain ⟨y,y1,y2⟩:=htk3 k hk
   rw [hpage k y y1,y1]
   rw [if_neg]
   rintro ⟨r1,r2⟩
   unfold tailEnd at r2
   by_cases e:k=i
   · subst e;rw [s1] at y1;injection y1 with y1;subst y1;simp only at y2;omega
   · obtain ⟨z,z1,z2⟩:=takeWhile_at (l:=x.h.pages.drop (i+1)) (k:=k - (i+1)) (P:=fun y=>decide (y.kind=3)) (by omega)
     rw [List.getElem?_drop,show i+1+(k - (i+1))=k from by omega,y1] at z1
     injection z1 with z1
     subst z1
     have:=of_decide_eq_true z2
     omega
 · obtain ⟨s',q1,q2,q3,q4,q5⟩:=C.ppg k g0 hg hk
   have hm:∀ c,c∈(keepW (largeW x i) a).queue↔c∈x.queue\/c=a:=fun c=>by
    show c∈x.queue ++ [a]↔_
    rw [List.mem_append,List.mem_singleton]
   have hr:=hrange k g0 hg hk
   rw [hpage k _ q1,I.sp]
   by_cases c:i<=k/\k < tailEnd x.h.pages i
   · rw [if_pos c]
     refine ⟨1 - h.space,rfl,fun k0=>?_,fun k1=>?_,fun kk2=>?_,fun k3=>?_⟩
     · rcases hr.1 c with e | ⟨e,-⟩
       · subst e;have:=b.pg;rw [hg] at this;injection this with this;subst this;omega
       · omega
     · rcases hr.1 c with e | ⟨e,-⟩
       · subst e;have:=b.pg;rw [hg] at this;injection this with this;subst this;omega
       · omega
     · rcases hr.1 c with e | ⟨e,-⟩
       · subst e;rw [if_pos ((hm _).2 (.inr haj.symm))]
       · omega
     · rcases hr.1 c with e | ⟨-,e⟩
       · subst e;have:=b.pg;rw [hg] at this;injection this with this;subst this;omega
       · rw [e,if_pos ((hm _).2 (.inr haj.symm))]
   · rw [if_neg c]
     have hc:=fun d=>c (hr.2 d)
     refine ⟨s',rfl,q2,q3,fun kk2=>?_,fun k3=>?_⟩
     · rw [q4 kk2]
       have:bs h k∈(keepW (largeW x i) a).queue↔bs h k∈x.queue:=by
        rw [hm]
        exact ⟨fun d=>d.elim id fun e=>absurd (.inl (hbs k e)) hc,.inl⟩
       simp only [this]
     · rw [q5 k3]
       have:bs h (headAt h.pages k)∈(keepW (largeW x i) a).queue↔bs h (headAt h.pages k)∈x.queue:=by
        rw [hm]
        exact ⟨fun d=>d.elim id fun e=>absurd (.inr ⟨k3,hbs _ e⟩) hc,.inl⟩
       simp only [this]
 · have:i'=i:=by have h1:=b.oi;have h2:=b'.oi;omega
   subst this
   have:g'=g:=by have h1:=b.pg;have h2:=b'.pg;rw [h1] at h2;injection h2 with h2;exact h2.symm
   subst this
   exact .inl k2
theorem copy_facts {h:Hp} {x:Wk} {os:List Int} {D:Nat->Int->Prop} (C:CI h x os D) {a:Int} (ha:a∈objectsV h) (ht:okT (evWd x a).toNat=false) (hbig:evBig x a=false) (hpl:plB x (evN x a)=true) :
 ∃ (J:Nat) (u:Int) (g0:Pg),plA x (evN x a)=bs h J+u/\evN x a=osz h a/\0<=u/\u+osz h a<=h.pw/\(J:Int) < h.np/\h.pages[J]?=some g0/\g0.kind=0 /\
  (∀ k:Nat,k≠J->(copyW x a).h.pages[k]?=x.h.pages[k]?)/\(copyW x a).h.pages[J]?=some ⟨1,1 - h.space,u+osz h a,0⟩/\(∀ t,t∈(copyW x a).taken↔t∈x.taken\/t=J) /\
  ((J:Int)∈x.taken->x.h.pages[J]?=some ⟨1,1 - h.space,u,0⟩)/\(¬(J:Int)∈x.taken->u=0)/\(copyW x a).queue=x.queue ++ [bs h J+u] /\
  (∀ p,p≠a->(p < bs h J+u\/bs h J+u+osz h a<=p)->loadV (copyW x a).h.words p=loadV x.h.words p) /\
  (∀ j,0<=j->j < osz h a->loadV (copyW x a).h.words (bs h J+u+j)=loadV x.h.words (a+j))/\loadV (copyW x a).h.words a=fwdV (bs h J+u)/\(a+osz h a<=bs h J\/bs h J+h.pw<=a)/\∀ i' j' g',Begins h a i' j' g'->g'.kind=1:=by
 have I:=C.inv
 obtain ⟨c1,c2,c3,c4,c5,c6,c7,c8,c9⟩:=I.conf
 obtain ⟨i,j,g,b⟩:=objects_begin ha
 have hbp:=b.pos
 have hbw:=b.wl
 have hwl:=I.wl
 have e0:evWd x a=loadV h.words a:=(I.un a ha).elim id (fun c=>by rw [ht] at c;exact absurd c.1 (by decide))
 obtain ⟨e1,e2,e3,-⟩:=old_ev ha e0
 have hoi:evI x a=i:=by unfold evI;rw [I.pw,I.np];exact b.oi
 obtain ⟨y,f1,f2,f3⟩:=I.pg i g b.pg (I.begun b)
 have hk1:g.kind=1:=by
  rcases b.kd with ⟨k,-⟩ | ⟨k,-⟩
  · exact k
  · unfold evBig at hbig
    rw [hoi,Int.toNat_natCast,getD_at f1] at hbig
    have:=of_decide_eq_false hbig
    omega
 have hn:osz h a<=h.pw:=by
  rcases b.kd with ⟨k,l,m⟩ | ⟨k,-⟩ <;> omega
 rw [e2] at hpl ⊢
 obtain ⟨J,y0,p1,p2,p3,p4,p5,p6,p7⟩:=place_spec I.plok hpl
 have hplen:=I.pl
 rw [I.pw] at p6 p7
 have eP:(copyW x a).h.pages=(plPs x (osz h a)).set J ⟨y0.kind,y0.space,y0.used+osz h a,y0.pins⟩:=by
  show (plW x (evN x a)).h.pages=_
  rw [e2]
  show useAt (plPs x (osz h a)) (plJ x (osz h a)).toNat (osz h a)=_
  unfold useAt;rw [p1,Int.toNat_natCast,getD_at p4]
 have eT:(copyW x a).taken=plT x (osz h a):=by show (plW x (evN x a)).taken=_;rw [e2];rfl
 have eA:plA x (osz h a)=bs h J+y0.used:=by
  unfold plA bs;rw [p1,Int.toNat_natCast,getD_at p4,I.pw]
 have eQ:(copyW x a).queue=x.queue ++ [bs h J+y0.used]:=by show x.queue ++ [plA x (evN x a)]=_;rw [e2,eA]
 have hJlt:(J:Int) < h.np:=by omega
 obtain ⟨g0,hg0,hk0,hsame,hJpage,htk,hin,hout⟩:∃ g0,h.pages[J]?=some g0/\g0.kind=0/\(∀ k:Nat,k≠J->(plPs x (osz h a))[k]?=x.h.pages[k]?)/\(y0.kind=1/\y0.space=1 - h.space/\y0.pins=0)/\(∀ t,t∈plT x (osz h a)↔t∈x.taken\/t=J) /\
  ((J:Int)∈x.taken->x.h.pages[J]?=some ⟨1,1 - h.space,y0.used,0⟩)/\(¬(J:Int)∈x.taken->y0.used=0)/\y0.used+osz h a<=h.pw:=by
  rcases p7 with ⟨r1,r2,r3,r4⟩ | ⟨r1,r2,r3,r4,z,r5,r6⟩
  · have hm:(J:Int)∈x.taken:=List.mem_of_getLast? r3
    obtain ⟨k2,g0,g',f0,f1',f2',-⟩:=I.tk _ hm
    obtain rfl:J=k2:=by omega
    obtain ⟨u,l,t1,-⟩:=C.tile _ hm
    rw [r2] at p4
    rw [t1] at p4
    injection p4 with p4
    subst p4
    refine ⟨g0,f1',f2',fun k _=>by rw [r2],⟨rfl,rfl,rfl⟩,fun t=>?_,fun _=>t1,fun c=>absurd hm c,r4⟩
    unfold plT;rw [if_pos r1]
    constructor
    · exact .inl
    · rintro (q | q)
      · exact q
      · rw [q];exact hm
  · have hnt:¬(J:Int)∈x.taken:=fun hm=>by
     obtain ⟨u,l,t1,-⟩:=C.tile _ hm
     rw [r5] at t1;injection t1 with t1;subst t1;cases r6
    have hlt:J < h.pages.length:=by omega
    have hh:h.pages[J]?=some h.pages[J]:=List.getElem?_eq_getElem hlt
    obtain ⟨g',q1,q2,q3⟩:=I.pg J _ hh hnt
    rw [r5] at q1;injection q1 with q1;subst q1
    subst r4
    refine ⟨_,hh,by omega,fun k hk=>by rw [r3,List.getElem?_set_ne (by omega)],⟨rfl,by rw [<-I.sp],rfl⟩,fun t=>?_,fun hm=>absurd hm hnt,fun _=>rfl,by show 0+osz h a<=h.pw;omega⟩
    unfold plT;rw [r1,r2]
    simp
 obtain ⟨hout,hfit⟩:=hout
 have hpp:=page_prod (p:=(J:Int)) (okH_parts I.ok).1 (by omega) hJlt
 have hfree:=begins_free b hg0 hk0
 have hbsJ:bs h J=4096+(J:Int)*h.pw:=rfl
 have ka:okA x.h.words.length (bs h J+y0.used) (osz h a).toNat=true:=okA_iff.2 (by omega)
 have kb:okA x.h.words.length a (osz h a).toNat=true:=okA_iff.2 (by omega)
 have kc:okA (moveV x.h.words (bs h J+y0.used) a (osz h a)).length a [fwdV (bs h J+y0.used)].length=true:=by rw [move_len (by omega) ka kb];exact okA_iff.2 (by simp only [List.length_singleton];omega)
 have hW:(copyW x a).h.words=writeV (moveV x.h.words (bs h J+y0.used) a (osz h a)) a [fwdV (bs h J+y0.used)]:=by
  show copyWd x a=_
  unfold copyWd;rw [e2,eA]
 refine ⟨J,y0.used,g0,eA,rfl,p5,hfit,hJlt,hg0,hk0,fun k hk=>?_,?_,fun t=>by rw [eT];exact htk t,hin,hout,eQ,fun p q1 q2=>?_,fun t t0 t1=>?_,?_,by rw [hbsJ];exact hfree,fun i' j' g' b'=>?_⟩
 · rw [eP,List.getElem?_set_ne (by omega)];exact hsame k hk
 · rw [eP,List.getElem?_set_self (by omega),hJpage.1,hJpage.2.1,hJpage.2.2]
 · rw [hW,load_write_out kc (by simp only [List.length_singleton];omega)]
   exact load_move_out (by omega) ka kb (by omega)
 · rw [hW,load_write_out kc (by simp only [List.length_singleton];omega)]
   exact load_move_in (by omega) ka kb t0 t1
 · rw [hW];exact load_write_in kc
 · have e1:i'=i:=by have h1:=b.oi;have h2:=b'.oi;omega
   subst e1
   have h1:=b.pg
   have h2:=b'.pg
   rw [h1] at h2;injection h2 with h2
   rw [<-h2];exact hk1
end Go.VI.P
namespace Go.VI.P
open Go
open Go.RowKit
theorem CI.copied {h:Hp} {x:Wk} {os:List Int} {D:Nat->Int->Prop} (C:CI h x os D) {a:Int} (ha:a∈objectsV h) (hq:¬a∈x.queue) (ht:okT (evWd x a).toNat=false) (hpr:promB x (evI x a)=false) (hbig:evBig x a=false) (hpl:plB x (evN x a)=true) :
 CI h (copyW x a) (os ++ [a]) D/\(copyW x a).queue=x.queue ++ [plA x (evN x a)]:=by
 have I:=C.inv
 obtain ⟨c1,c2,c3,c4,c5,c6,c7,c8,c9⟩:=I.conf
 obtain ⟨J,u,g0,eA,eN,u0,u1,hJ,hg0,hk0,hoth,hJp,htk,hin,hnin,eQ,wout,win,wself,hfr,hk1⟩:=copy_facts C ha ht hbig hpl
 rw [eA]
 obtain ⟨T,hT⟩:∃ T,bs h J+u=T:=⟨_,rfl⟩
 rw [hT] at eQ wout win wself ⊢
 obtain ⟨N,hN⟩:∃ N,osz h a=N:=⟨_,rfl⟩
 rw [hN] at u1 hJp wout win hfr
 obtain ⟨ia,ja,ga,ba⟩:=objects_begin ha
 have hbp:=ba.pos
 rw [hN] at hbp
 have Iy:=(I.copied ha hq ht hpr hbig hpl).1
 obtain ⟨y,hy⟩:∃ y,copyW x a=y:=⟨_,rfl⟩
 have hpw:(copyW x a).h.pw=h.pw:=I.pw
 rw [hy] at Iy eQ wout win wself hoth hJp htk hpw ⊢
 have hxpw:=I.pw
 have hev:∀ p,p≠a->(p < T\/T+N<=p)->evWd y p=evWd x p:=fun p h1 h2=>wout p h1 h2
 have hobjw:∀ c∈objectsV h,c≠a->∀ j,0<=j->j < osz h c->loadV y.h.words (c+j)=loadV x.h.words (c+j):=fun c hc hne j j0 j1=>by
  obtain ⟨i3,j3,g3,b3⟩:=objects_begin hc
  have h1:=begins_free b3 hg0 hk0
  have h2:=objects_apart hc ha hne
  have h3:=b3.pos
  unfold bs at hT
  exact wout _ (by omega) (by omega)
 have hobj:∀ c∈objectsV h,c≠a->evWd y c=evWd x c:=fun c hc hne=>by
  obtain ⟨i3,j3,g3,b3⟩:=objects_begin hc
  have:=hobjw c hc hne 0 (by omega) (by have:=b3.pos;omega)
  rw [Int.add_zero] at this
  exact this
 have hcop:∀ q,CopyAt x q->∃ (k:Nat) (g:Pg),(k:Int)∈x.taken/\x.h.pages[k]?=some g/\bs h k<=q/\okD (evWd x q).toNat=true/\1<=evN x q/\q+evN x q<=bs h k+g.used/\g.used<=h.pw/\(q+evN x q<=T\/T+N<=q)/\(a < bs h k\/bs h k+h.pw<=a):=fun q hc=>by
  obtain ⟨k,g,d1,d2,d3,d4,d5⟩:=hc
  rw [hxpw] at d3 d5
  obtain ⟨k3,y0,y3,l0,l1,l2,l3,l4,l5,l6⟩:=I.tk _ d1
  obtain rfl:k=k3:=by omega
  rw [d2] at l3
  injection l3 with l3
  subst l3
  have hev1:=(evN_ok d4).1
  have ha1:=begins_free ba l1 l2
  refine ⟨k,g,d1,d2,d3,d4,by omega,d5,l6,?_,by unfold bs;omega⟩
  by_cases hkJ:k=J
  · subst hkJ
    have:=hin d1
    rw [d2] at this
    injection this with this
    left
    have hgu:g.used=u:=by rw [this]
    unfold bs at hT;omega
  · by_cases hlt:k < J
    · have:=bs_lt (h:=h) (by omega) hlt
      left;unfold bs at hT this;omega
    · have:=bs_lt (h:=h) (by omega) (show J < k by omega)
      right;unfold bs at hT this;omega
 have hcopw:∀ q,CopyAt x q->∀ j,0<=j->j < evN x q->loadV y.h.words (q+j)=loadV x.h.words (q+j):=fun q hc j j0 j1=>by
  obtain ⟨k,g,d1,d2,d3,d4,d5,d6,d7,d8,d9⟩:=hcop q hc
  exact wout _ (by omega) (by omega)
 have hcopev:∀ q,CopyAt x q->evWd y q=evWd x q:=fun q hc=>by
  obtain ⟨k,g,d1,d2,d3,d4,d5,d6,d7,d8,d9⟩:=hcop q hc
  have:=hcopw q hc 0 (by omega) (by omega)
  rw [Int.add_zero] at this
  exact this
 have hcc:∀ q,CopyAt x q->CopyAt y q:=fun q hc=>by
  have e1:=hcopev q hc
  have e2:evN y q=evN x q:=by unfold evN;rw [e1]
  obtain ⟨k,g,d1,d2,d3,d4,d5,d6,d7,d8,d9⟩:=hcop q hc
  by_cases hkJ:k=J
  · subst hkJ
    have h3:=hin d1
    rw [d2] at h3
    injection h3 with h3
    have hgu:g.used=u:=by rw [h3]
    exact ⟨k,_,(htk _).2 (.inl d1),hJp,by rw [hpw];exact d3,by rw [e1];exact d4,by rw [e2,hpw];show q+evN x q<=4096+(k:Int)*h.pw+(u+N);unfold bs at d6;omega⟩
  · exact ⟨k,g,(htk _).2 (.inl d1),by rw [hoth k hkJ];exact d2,by rw [hpw];exact d3,by rw [e1];exact d4,by rw [e2,hpw];exact d6⟩
 have hqev:∀ q∈x.queue,evWd y q=evWd x q:=fun q h1=>by
  rcases I.qs q h1 with h2 | h2
  · exact hobj q h2 (fun e=>hq (by rw [<-e];exact h1))
  · exact hcopev q h2
 have hnotobj:∀ c∈objectsV h,c≠T:=fun c hc e=>by
  obtain ⟨i3,j3,g3,b3⟩:=objects_begin hc
  have h1:=begins_free b3 hg0 hk0
  have h3:=b3.pos
  unfold bs at hT
  omega
 have hTq:¬T∈x.queue:=fun h1=>by
  rcases I.qs T h1 with h2 | h2
  · exact hnotobj T h2 rfl
  · obtain ⟨k,g,d1,d2,d3,d4,d5,d6,d7,d8,d9⟩:=hcop T h2
    omega
 have hao:¬a∈os:=fun c=>by
  rcases (C.seen a ha).1 c with e | e
  · exact hq e
  · rw [ht] at e;cases e
 have e0:evWd x a=loadV h.words a:=by
  rcases I.un a ha with e | e
  · exact e
  · rw [ht] at e;exact absurd e.1 (by decide)
 have eT:evWd y T=evWd x a:=by
  have:=win 0 (by omega) (by omega)
  rw [Int.add_zero,Int.add_zero] at this
  exact this
 have eTN:evN y T=N:=by
  unfold evN;rw [eT]
  obtain ⟨e1,e2,-⟩:=old_ev ha e0
  unfold evN at e2
  rw [e2,hN]
 have hbJ:4096<=bs h J/\bs h J+h.pw<=4096+h.np*h.pw:=by
  have hpp:=page_prod (p:=(J:Int)) (okH_parts I.ok).1 (by omega) hJ
  unfold bs;omega
 have hokT:okT (evWd y a).toNat=true/\tgtV (evWd y a).toNat=T:=by
  have:evWd y a=fwdV T:=wself
  rw [this]
  have h1:=okT_fwd (a:=T) (by omega) (by omega)
  refine ⟨h1,?_⟩
  rw [tgt_ok h1,(fwd_ok (a:=T) (by omega)).1];omega
 have hcT:CopyAt y T:=by
  refine ⟨J,_,(htk _).2 (.inr rfl),hJp,by rw [hpw];unfold bs at hT;omega,?_,?_⟩
  · rw [eT];exact (old_ev ha e0).1
  · rw [eTN,hpw];show T+N<=4096+(J:Int)*h.pw+(u+N);unfold bs at hT;omega
 have hqg:∀ (i:Nat) (o q:Int),(os ++ [a])[i]?=some o->y.queue[i]?=some q->(os[i]?=some o/\x.queue[i]?=some q)\/(i=os.length/\o=a/\q=T):=fun i o q h1 h2=>by
  rw [eQ] at h2
  rcases snoc_get h1 with e | ⟨e1,e2⟩
  · rcases snoc_get h2 with e' | ⟨e1',-⟩
    · exact .inl ⟨e,e'⟩
    · have:=(List.getElem?_eq_some_iff.1 e).1
      rw [C.len] at this;omega
  · rcases snoc_get h2 with e' | ⟨-,e2'⟩
    · have:=(List.getElem?_eq_some_iff.1 e').1
      rw [<-C.len] at this;omega
    · exact .inr ⟨e1,e2,e2'⟩
 have hoa:∀ (i:Nat) (o:Int),os[i]?=some o->o≠a:=fun i o h1 e=>hao (by rw [<-e];exact List.mem_of_getElem? h1)
 refine ⟨⟨Iy,by rw [eQ,List.length_append,List.length_append,C.len];rfl,fun i j d=>by rw [List.length_append];have:=C.dl i j d;omega,fun o ho=>?_,?_,fun c hc=>?_,fun i o q h1 h2=>?_,fun i o q h1 h2=>?_,fun i o q h1 h2 j j0 j1=>?_,fun c hc hn j j0 j1=>?_,fun p h1 h2=>?_,fun k g5 p hg hk h1 h2 h3=>?_,fun k hk=>?_,fun k g5 hg hk=>?_,fun q hq2 hqo=>?_,by rw [<-hy];exact copyWB I.plok hpl C.wb⟩,eQ⟩
 · rcases List.mem_append.1 ho with e | e
   · exact C.oin o e
   · rw [List.mem_singleton.1 e];exact ha
 · rw [eQ]
   exact List.nodup_append.2 ⟨C.qnd,by simp,fun w hw v hv=>by rw [List.mem_singleton.1 hv];exact fun e=>hTq (e ▸ hw)⟩
 · rw [eQ,List.mem_append,List.mem_append,List.mem_singleton,List.mem_singleton]
   by_cases e:c=a
   · subst e
     exact ⟨fun _=>.inr hokT.1,fun _=>.inr rfl⟩
   · rw [hobj c hc e,C.seen c hc]
     have:=hnotobj c hc
     constructor
     · rintro ((q | q) | q)
       · exact .inl (.inl q)
       · exact .inr q
       · exact absurd q e
     · rintro ((q | q) | q)
       · exact .inl (.inl q)
       · exact absurd q this
       · exact .inl (.inr q)
 · rcases hqg i o q h1 h2 with ⟨e1,e2⟩ | ⟨-,e1,e2⟩
   · rcases C.plc i o q e1 e2 with e | ⟨e3,e4,e5,e6⟩
     · exact .inl e
     · have:=hobj o (C.oin o (List.mem_of_getElem? e1)) (hoa i o e1)
       exact .inr ⟨by rw [this];exact e3,by rw [this];exact e4,hcc q e5,e6⟩
   · right
     rw [e1,e2];exact ⟨hokT.1,hokT.2,hcT,hk1⟩
 · rcases hqg i o q h1 h2 with ⟨e1,e2⟩ | ⟨-,e1,e2⟩
   · rw [hqev q (List.mem_of_getElem? e2)];exact C.hd i o q e1 e2
   · rw [e1,e2,eT];exact e0
 · rcases hqg i o q h1 h2 with ⟨e1,e2⟩ | ⟨ei,e1,e2⟩
   · have hqm:=List.mem_of_getElem? e2
     have hwe:loadV y.h.words (q+1+j)=loadV x.h.words (q+1+j):=by
      have hhd:=C.hd i o q e1 e2
      have hob:=C.oin o (List.mem_of_getElem? e1)
      rcases I.qs q hqm with h5 | h5
      · have hne:q≠a:=fun e=>hq (by rw [<-e];exact hqm)
        have hsz:j+1 < osz h q:=by
         obtain ⟨i3,j3,g3,b3⟩:=objects_begin h5
         obtain ⟨i4,j4,g4,b4⟩:=objects_begin hob
         have k1:=b3.sz
         have k2:=b4.sz
         have hk:=I.kept h5 hqm
         rw [hk] at hhd
         have:wordAt h q=wordAt h o:=by rw [word_load b3.pos.2,word_load b4.pos.2,hhd]
         rw [this] at k1
         unfold osz at k2
         omega
        have:=hobjw q h5 hne (j+1) (by omega) hsz
        rwa [show q+(j+1)=q+1+j from by omega] at this
      · have hsz:j+1 < evN x q:=by
         obtain ⟨k,g,d1,d2,d3,d4,d5,d6,d7,d8,d9⟩:=hcop q h5
         have k1:=(evN_ok d4).1
         obtain ⟨i4,j4,g4,b4⟩:=objects_begin hob
         have k2:=b4.sz
         rw [hhd,<-word_load b4.pos.2] at k1
         unfold osz at k2
         omega
        have:=hcopw q h5 (j+1) (by omega) hsz
        rwa [show q+(j+1)=q+1+j from by omega] at this
     rw [hwe]
     obtain ⟨f1,f2⟩:=C.fl i o q e1 e2 j j0 j1
     exact ⟨fun d p=>(f1 d p).more ⟨_,rfl⟩ ⟨_,eQ⟩,f2⟩
   · subst e1 e2
     refine ⟨fun d=>by have:=C.dl i j d;omega,fun _=>?_⟩
     have hs:j+1 < N:=by rw [<-hN];unfold osz;omega
     have h5:=win (j+1) (by omega) hs
     have h6:=C.un o ha hao (j+1) (by omega) (by rw [hN];exact hs)
     rw [show q+1+j=q+(j+1) from by omega,h5,h6,show o+(j+1)=o+1+j from by omega]
 · have hne:c≠a:=fun e=>hn (by rw [e];exact List.mem_append_right _ (List.mem_singleton.2 rfl))
   rw [hobjw c hc hne j j0 j1]
   exact C.un c hc (fun e=>hn (List.mem_append_left _ e)) j j0 j1
 · have hpa:=h1 a ha
   have hpj:=h2 J g0 hg0 hk0
   rw [wout p (by omega) (by omega)]
   exact C.ot p h1 h2
 · have hpa:=begins_free ba hg hk
   by_cases e:k=J
   · subst e
     have h3':bs h k+(u+N)<=p:=by
      rcases h3 with q | ⟨g6,q1,q2⟩
      · exact absurd ((htk _).2 (.inr rfl)) q
      · rw [hJp] at q1;injection q1 with q1;subst q1;exact q2
     rw [wout p (by unfold bs at h1 h2;omega) (by omega)]
     refine C.fr k g5 p hg hk h1 h2 ?_
     by_cases c:(k:Int)∈x.taken
     · exact .inr ⟨_,hin c,by show bs h k+u<=p;omega⟩
     · exact .inl c
   · have hdisj:p < bs h J\/bs h J+h.pw<=p:=by
      by_cases hlt:k < J
      · have:=bs_lt (h:=h) (by omega) hlt;omega
      · have:=bs_lt (h:=h) (by omega) (show J < k by omega);omega
     rw [wout p (by unfold bs at h1 h2;omega) (by omega)]
     refine C.fr k g5 p hg hk h1 h2 ?_
     rcases h3 with q | q
     · exact .inl fun c=>q ((htk _).2 (.inl c))
     · rw [hoth k e] at q;exact .inr q
 · by_cases e:k=J
   · subst e
     by_cases c:(k:Int)∈x.taken
     · obtain ⟨u',l,t1,t2,t3⟩:=C.tile k c
       have hu:u'=u:=by have:=hin c;rw [t1] at this;injection this with this;injection this
       subst hu
       rw [hT] at t2
       have hlq:∀ q∈l,evN y q=evN x q:=fun q hql=>by unfold evN;rw [hqev q ((t3 q).1 hql).1]
       refine ⟨u'+N,l ++ [T],hJp,?_,fun q=>?_⟩
       · refine tile_snoc (tile_congr hlq t2) (by rw [eTN];omega) (by rw [eTN];omega)
       · rw [List.mem_append,List.mem_singleton,t3,eQ,List.mem_append,List.mem_singleton]
         constructor
         · rintro (⟨q1,q2⟩ | q1)
           · exact ⟨.inl q1,q2⟩
           · rw [q1];exact ⟨.inr rfl,by omega,by omega⟩
         · rintro ⟨q1 | q1,q2⟩
           · exact .inl ⟨q1,q2⟩
           · exact .inr q1
     · have hu:=hnin c
       subst hu
       refine ⟨0+N,[T],hJp,⟨by omega,by rw [eTN];omega,by show _=_;rw [eTN];omega⟩,fun q=>?_⟩
       rw [List.mem_singleton,eQ,List.mem_append,List.mem_singleton]
       constructor
       · intro q1;rw [q1];exact ⟨.inr rfl,by omega,by omega⟩
       · rintro ⟨q1 | q1,q2,q3⟩
         · exfalso
           rcases I.qs q q1 with h5 | h5
           · obtain ⟨i3,j3,g3,b3⟩:=objects_begin h5
             have:=begins_free b3 hg0 hk0
             have:=b3.pos
             unfold bs at q2 q3
             omega
           · obtain ⟨k3,g3,d1,d2,d3,d4,d5,d6,d7,d8,d9⟩:=hcop q h5
             have:=bs_uniq (h:=h) (by omega) q2 q3 d3 (by omega)
             subst this
             exact c d1
         · exact q1
   · have hk':(k:Int)∈x.taken:=by
      rcases (htk _).1 hk with q | q
      · exact q
      · exact absurd (by omega) e
     obtain ⟨u',l,t1,t2,t3⟩:=C.tile k hk'
     have hlq:∀ q∈l,evN y q=evN x q:=fun q hql=>by unfold evN;rw [hqev q ((t3 q).1 hql).1]
     refine ⟨u',l,by rw [hoth k e];exact t1,tile_congr hlq t2,fun q=>?_⟩
     rw [t3,eQ,List.mem_append,List.mem_singleton]
     constructor
     · rintro ⟨q1,q2⟩;exact ⟨.inl q1,q2⟩
     · rintro ⟨q1 | q1,q2,q3⟩
       · exact ⟨q1,q2,q3⟩
       · exfalso
         exact e (bs_uniq (h:=h) (by omega) q2 q3 (by omega) (by omega))
 · have hk':¬(k:Int)∈x.taken:=fun c=>hk ((htk _).2 (.inl c))
   have e:k≠J:=fun c=>hk ((htk _).2 (.inr (by rw [c])))
   obtain ⟨s',q1,q2,q3,q4,q5⟩:=C.ppg k g5 hg hk'
   have hnb:∀ (l:Nat) (z:Pg),h.pages[l]?=some z->z.kind=2->(bs h l∈y.queue↔bs h l∈x.queue):=fun l z hz hzk=>by
    rw [eQ,List.mem_append,List.mem_singleton]
    refine ⟨fun c=>c.elim id fun c=>?_,.inl⟩
    exfalso
    have:l=J:=bs_uniq (h:=h) (p:=T) (by omega) (by omega) (by omega) (by omega) (by omega)
    subst this
    rw [hg0] at hz;injection hz with hz;subst hz;omega
   refine ⟨s',by rw [hoth k e];exact q1,q2,q3,fun kk2=>?_,fun k3=>?_⟩
   · rw [q4 kk2];simp only [hnb k g5 hg kk2]
   · rw [q5 k3]
     obtain ⟨l,z,-,l2,l3,l4⟩:=tail_head I.ok hg k3
     rw [l2];simp only [hnb l z l3 l4]
 · rw [eQ] at hq2
   rcases List.mem_append.1 hq2 with e | e
   · exact C.kp q e hqo
   · exact absurd (List.mem_singleton.1 e) (hnotobj q hqo)
theorem CI.forward {h:Hp} {x:Wk} {os:List Int} {D:Nat->Int->Prop} (C:CI h x os D) {v:Int} (hv:v=0\/v∈objectsV h) (he:evE x v=0) :
 ∃ os',CI h (evW x v) os' D/\(∃ l,os'=os ++ l)/\(∃ l,(evW x v).queue=x.queue ++ l)/\Fw os' (evW x v).queue v (evA x v):=by
 have I:=C.inv
 unfold evE at he
 unfold evW evA
 by_cases h0:v=0\/v∈x.queue
 · have hc:evC x v=0:=by unfold evC;rw [if_pos h0]
   rw [hc]
   refine ⟨os,C,⟨[],by simp⟩,⟨[],by simp⟩,?_⟩
   by_cases hz:v=0
   · exact .inl ⟨hz,hz⟩
   have hob:=hv.resolve_left hz
   have hin:=h0.resolve_left hz
   obtain ⟨t,ht,e⟩:=List.mem_iff_getElem.1 hin
   have hlen:=C.len
   have ho:os[t]?=some os[t]:=List.getElem?_eq_getElem (by omega)
   have hq:x.queue[t]?=some v:=by rw [List.getElem?_eq_getElem ht,e]
   rcases C.plc t _ v ho hq with q | ⟨-,-,q,-⟩
   · exact .inr ⟨t,by rw [ho,<-q],hq⟩
   · exfalso
     obtain ⟨k,g0,d1,d2,d3,d4,d5,d6,d7⟩:=I.copy q
     obtain ⟨i3,j3,g3,b3⟩:=objects_begin hob
     have h1:=begins_free b3 d1 d2
     have h3:=b3.pos
     omega
 have hz:¬v=0:=fun c=>h0 (.inl c)
 have hq:¬v∈x.queue:=fun c=>h0 (.inr c)
 have ho2:=hv.resolve_left hz
 have ho:v∈x.old:=by rw [I.old];exact ho2
 by_cases ht:okT (evWd x v).toNat=true
 · have hc:evC x v=2:=by unfold evC;rw [if_neg h0,if_neg (by simpa using ho),if_pos ht]
   rw [hc]
   refine ⟨os,C,⟨[],by simp⟩,⟨[],by simp⟩,.inr ?_⟩
   have hin:=(C.seen v ho2).2 (.inr ht)
   obtain ⟨t,htl,e⟩:=List.mem_iff_getElem.1 hin
   have hlen:=C.len
   have hos:os[t]?=some v:=by rw [List.getElem?_eq_getElem htl,e]
   have hqq:x.queue[t]?=some x.queue[t]:=List.getElem?_eq_getElem (by omega)
   rcases C.plc t v _ hos hqq with q | ⟨-,q,-⟩
   · exact absurd (by rw [<-q];exact List.getElem_mem _) hq
   · exact ⟨t,hos,by show x.queue[t]?=some (tgtV (evWd x v).toNat);rw [hqq,<-q]⟩
 replace ht:okT (evWd x v).toNat=false:=by simpa using ht
 have hnew:∀ w,Fw (os ++ [v]) (x.queue ++ [w]) v w:=fun w=>.inr ⟨os.length,by rw [List.getElem?_append_right (Nat.le_refl _),Nat.sub_self];rfl,by rw [C.len,List.getElem?_append_right (Nat.le_refl _),Nat.sub_self];rfl⟩
 by_cases h3:¬ofE x.h.pw x.h.np v=0\/(x.h.pages.length:Int)<=evI x v
 · have hc:evC x v=3:=by unfold evC;rw [if_neg h0,if_neg (by simpa using ho),if_neg (by simp [ht]),if_pos h3]
   rw [hc] at he;exact absurd he (by decide)
 cases hpr:promB x (evI x v) with
 | true =>
  have hc:evC x v=4:=by unfold evC;rw [if_neg h0,if_neg (by simpa using ho),if_neg (by simp [ht]),if_neg h3,if_pos hpr]
  rw [hc]
  exact ⟨os ++ [v],C.keep1 ho2 hq ht hpr,⟨[v],rfl⟩,⟨[v],rfl⟩,hnew v⟩
 | false =>
  cases hbig:evBig x v with
  | true =>
   have hc:evC x v=5:=by unfold evC;rw [if_neg h0,if_neg (by simpa using ho),if_neg (by simp [ht]),if_neg h3,if_neg (by simp [hpr]),if_pos hbig]
   rw [hc]
   exact ⟨os ++ [v],C.keep2 ho2 hq ht hbig,⟨[v],rfl⟩,⟨[v],rfl⟩,hnew v⟩
  | false =>
   cases hpp:plB x (evN x v) with
   | true =>
    have hc:evC x v=7:=by unfold evC;rw [if_neg h0,if_neg (by simpa using ho),if_neg (by simp [ht]),if_neg h3,if_neg (by simp [hpr]),if_neg (by simp [hbig]),if_pos hpp]
    rw [hc]
    obtain ⟨r1,r2⟩:=C.copied ho2 hq ht hpr hbig hpp
    refine ⟨os ++ [v],r1,⟨[v],rfl⟩,⟨[plA x (evN x v)],r2⟩,?_⟩
    show Fw (os ++ [v]) (copyW x v).queue v (plA x (evN x v))
    rw [r2];exact hnew _
   | false =>
    have hc:evC x v=6:=by unfold evC;rw [if_neg h0,if_neg (by simpa using ho),if_neg (by simp [ht]),if_neg h3,if_neg (by simp [hpr]),if_neg (by simp [hbig]),if_neg (by simp [hpp])]
    rw [hc] at he;exact absurd he (by decide)
end Go.VI.P
namespace Go.VI.P
open Go
open Go.RowKit
theorem nodup_get {l:List Int} (h:l.Nodup) {i j:Nat} {q:Int} (h1:l[i]?=some q) (h2:l[j]?=some q):i=j:=by
 obtain ⟨k1,e1⟩:=List.getElem?_eq_some_iff.1 h1
 obtain ⟨k2,e2⟩:=List.getElem?_eq_some_iff.1 h2
 refine Decidable.by_contra fun c=>?_
 have hp:=List.pairwise_iff_getElem.1 h
 by_cases hlt:i < j
 · exact hp i j k1 k2 hlt (e1.trans e2.symm)
 · exact hp j i k2 k1 (by omega) (e2.trans e1.symm)
theorem CI.size {h:Hp} {x:Wk} {os:List Int} {D:Nat->Int->Prop} (C:CI h x os D) {i:Nat} {o q:Int} (h1:os[i]?=some o) (h2:x.queue[i]?=some q):evN x q=osz h o/\evH x q=atH h o/\okD (evWd x q).toNat=true/\(evWd x q).toNat=wordAt h o:=by
 have ho:=C.oin o (List.mem_of_getElem? h1)
 obtain ⟨i3,j3,g3,b⟩:=objects_begin ho
 have hw:(evWd x q).toNat=wordAt h o:=by rw [C.hd i o q h1 h2,word_load b.pos.2]
 have hd:okD (evWd x q).toNat=true:=by rw [hw];exact b.od
 obtain ⟨d1,d2,d3⟩:=dec_ok hd
 refine ⟨?_,?_,hd,hw⟩
 · rw [(evN_ok hd).1,hw,b.sz]
 · rw [b.hd]
   unfold evH hdOf
   rw [d1,d2,d3,hw]
theorem CI.nd {h:Hp} {x:Wk} {os:List Int} {D:Nat->Int->Prop} (C:CI h x os D) {i j:Nat} {q:Int} (h1:x.queue[i]?=some q) (h2:x.queue[j]?=some q):i=j:=nodup_get C.qnd h1 h2
theorem CI.apart {h:Hp} {x:Wk} {os:List Int} {D:Nat->Int->Prop} (C:CI h x os D) {q r:Int} (hq:q∈x.queue) (hr:r∈x.queue) (hne:q≠r):q+evN x q<=r\/r+evN x r<=q:=by
 have I:=C.inv
 have hob:∀ c∈x.queue,c∈objectsV h->evN x c=osz h c:=fun c hc ho=>(old_ev ho (I.kept ho hc)).2.1
 rcases I.qs q hq with a | a <;> rcases I.qs r hr with b | b
 · rw [hob q hq a,hob r hr b];exact objects_apart a b hne
 · rw [hob q hq a];exact I.old_copy a b
 · rw [hob r hr b];exact (I.old_copy b a).symm
 · exact I.dj q hq r hr a b hne
theorem CI.write {h:Hp} {x:Wk} {os:List Int} {D:Nat->Int->Prop} (C:CI h x os D) {s:Nat} {o A i w:Int} (hs:os[s]?=some o) (hA:x.queue[s]?=some A) (hp:ptrB (atH h o).k (atH h o).n (atH h o).m i=true)
 (hw:Fw os x.queue (loadV h.words (o+1+i)) w):CI h { x with h:={ x.h with words:=writeV x.h.words (A+1+i) [w] } } os (fun t j=>D t j\/(t=s/\j=i)):=by
 have I:=C.inv
 have hcf:=I.conf
 obtain ⟨z1,z2,z3,z4⟩:=C.size hs hA
 have hAm:=List.mem_of_getElem? hA
 obtain ⟨-,i0,i1⟩:=ptr_lt hp
 obtain ⟨n1,n2,n3⟩:=I.inside hAm i0 (by rw [z2];exact i1)
 have Iy:=(I.write n1 n2 n3 (v:=w)).1
 have hin:A+1+i < A+evN x A:=by rw [z1];unfold osz;omega
 have hwb:0<=w/\w < 18446744073709551616:=by
  rcases hw with ⟨-,e⟩ | ⟨t,-,e⟩
  · omega
  · have:=I.queue_bd (List.mem_of_getElem? e);omega
 obtain ⟨y,hy⟩:∃ y,({ x with h:={ x.h with words:=writeV x.h.words (A+1+i) [w] } }:Wk)=y:=⟨_,rfl⟩
 have hout:∀ p,p≠A+1+i->loadV y.h.words p=loadV x.h.words p:=fun p hpn=>by rw [<-hy];exact load_write_out n1 (by simp only [List.length_singleton];omega)
 have hself:loadV y.h.words (A+1+i)=w:=by rw [<-hy];exact load_write_in n1
 have eq:y.queue=x.queue:=by rw [<-hy]
 have et:y.taken=x.taken:=by rw [<-hy]
 have ep:y.h.pages=x.h.pages:=by rw [<-hy]
 have epw:y.h.pw=x.h.pw:=by rw [<-hy]
 rw [hy] at Iy ⊢
 have hev:∀ p,p≠A+1+i->evWd y p=evWd x p:=hout
 have hevq:∀ q∈x.queue,evWd y q=evWd x q:=fun q hq=>hev q (fun e=>n3 q hq e.symm)
 have hevo:∀ c∈objectsV h,evWd y c=evWd x c:=fun c hc=>hev c (fun e=>n2 c hc e.symm)
 have hcp:∀ q∈x.queue,CopyAt x q->CopyAt y q:=fun q hq ⟨k,g,c1,c2,c3,c4,c5⟩=>⟨k,g,by rw [et];exact c1,by rw [ep];exact c2,by rw [epw];exact c3,by rw [hevq q hq];exact c4,by unfold evN;rw [hevq q hq,epw];exact c5⟩
 have hplace:(A∈objectsV h/\evN x A=osz h A)\/∃ (k:Nat) (g0 g:Pg),(k:Int)∈x.taken/\h.pages[k]?=some g0/\g0.kind=0/\x.h.pages[k]?=some g/\bs h k<=A/\A+evN x A<=bs h k+g.used/\g.used<=h.pw:=by
  rcases I.qs A hAm with a | a
  · exact .inl ⟨a,(old_ev a (I.kept a hAm)).2.1⟩
  · right
    obtain ⟨k,g,d1,d2,d3,d4,d5⟩:=a
    obtain ⟨k3,y0,y3,l0,l1,l2,l3,l4,l5,l6⟩:=I.tk _ d1
    obtain rfl:k=k3:=by omega
    rw [d2] at l3;injection l3 with l3;subst l3
    rw [I.pw] at d3 d5
    exact ⟨k,y0,g,d1,l1,l2,d2,d3,d5,l6⟩
 refine ⟨Iy,by rw [eq];exact C.len,fun t j d=>?_,C.oin,by rw [eq];exact C.qnd,fun c hc=>?_,fun t o' q h1 h2=>?_,fun t o' q h1 h2=>?_,fun t o' q h1 h2 j j0 j1=>?_,fun c hc hn j j0 j1=>?_,fun p h1 h2=>?_,fun k g0 p hg hk h1 h2 h3=>?_,fun k hk=>?_,fun k g0 hg hk=>?_,fun q hq hqo=>?_,by rw [<-hy];exact wb_write C.wb (fun z hz=>by rw [List.mem_singleton.1 hz];exact hwb)⟩
 · rcases d with d | ⟨d,-⟩
   · exact C.dl t j d
   · rw [d];exact (List.getElem?_eq_some_iff.1 hs).1
 · rw [hevo c hc,eq];exact C.seen c hc
 · rw [eq] at h2
   rcases C.plc t o' q h1 h2 with e | ⟨e1,e2,e3,e4⟩
   · exact .inl e
   · have:=hevo o' (C.oin o' (List.mem_of_getElem? h1))
     exact .inr ⟨by rw [this];exact e1,by rw [this];exact e2,hcp q (List.mem_of_getElem? h2) e3,e4⟩
 · rw [eq] at h2
   rw [hevq q (List.mem_of_getElem? h2)];exact C.hd t o' q h1 h2
 · rw [eq] at h2
   rw [eq]
   obtain ⟨f1,f2⟩:=C.fl t o' q h1 h2 j j0 j1
   by_cases e:t=s
   · subst e
     rw [hs] at h1;injection h1 with h1;subst h1
     rw [hA] at h2;injection h2 with h2;subst h2
     by_cases e2:j=i
     · subst e2
       rw [hself]
       exact ⟨fun _ _=>hw,fun c=>by have:=c (.inr ⟨rfl,rfl⟩);rw [hp] at this;cases this⟩
     · rw [hout _ (by omega)]
       exact ⟨fun d p=>f1 (d.elim id fun c=>absurd c.2 e2) p,fun c=>f2 fun d=>c (.inl d)⟩
   · have hne:q≠A:=fun c=>e (C.nd (by rw [<-c];exact h2) hA)
     have:=C.apart (List.mem_of_getElem? h2) hAm hne
     obtain ⟨y1,y2,-,-⟩:=C.size h1 h2
     have hjs:q+1+j < q+evN x q:=by rw [y1];unfold osz;omega
     rw [hout _ (by omega)]
     exact ⟨fun d p=>f1 (d.elim id fun c=>absurd c.1 e) p,fun c=>f2 fun d=>c (.inl d)⟩
 · rw [hout _ ?_]
   · exact C.un c hc hn j j0 j1
   · intro e
     obtain ⟨i4,j4,g4,b4⟩:=objects_begin hc
     have hb4:=b4.pos
     rcases hplace with ⟨a1,a2⟩ | ⟨k,g0,g,k1,k2,k3,k4,k5,k6,k7⟩
     · have hne:c≠A:=fun e2=>hn ((C.seen c hc).2 (.inl (by rw [e2];exact hAm)))
       have:=objects_apart hc a1 hne
       omega
     · have:=begins_free b4 k2 k3
       unfold bs at k5 k6;omega
 · rw [hout _ ?_]
   · exact C.ot p h1 h2
   · intro e
     rcases hplace with ⟨a1,a2⟩ | ⟨k,g0,g,k1,k2,k3,k4,k5,k6,k7⟩
     · have:=h1 A a1;omega
     · have:=h2 k g0 k2 k3;omega
 · rw [hout _ ?_]
   · refine C.fr k g0 p hg hk h1 h2 ?_
     rw [et,ep] at h3;exact h3
   · intro e
     rcases hplace with ⟨a1,a2⟩ | ⟨k',g0',g',k1,k2,k3,k4,k5,k6,k7⟩
     · obtain ⟨i4,j4,g4,b4⟩:=objects_begin a1
       have:=begins_free b4 hg hk
       unfold bs at h1 h2;omega
     · have:=bs_uniq (h:=h) (by omega) h1 h2 (k':=k') (by omega) (by omega)
       subst this
       rw [et,ep] at h3
       rcases h3 with c | ⟨g5,c1,c2⟩
       · exact c k1
       · rw [k4] at c1;injection c1 with c1;subst c1;omega
 · rw [et] at hk
   obtain ⟨u,l,t1,t2,t3⟩:=C.tile k hk
   refine ⟨u,l,by rw [ep];exact t1,tile_congr (fun q hq=>by unfold evN;rw [hevq q ((t3 q).1 hq).1]) t2,fun q=>by rw [eq];exact t3 q⟩
 · rw [et] at hk
   rw [ep,eq];exact C.ppg k g0 hg hk
 · rw [eq] at hq;exact C.kp q hq hqo
theorem CI_stGo {h:Hp} (G:Good h) {s:Nat} {o A:Int}:∀ (l:List Int) (x:Wk) (os:List Int) (D:Nat->Int->Prop),CI h x os D->os[s]?=some o->x.queue[s]?=some A->(∀ i∈l,ptrB (atH h o).k (atH h o).n (atH h o).m i=true/\¬D s i)->l.Nodup->(stGo x A l).2=0 ->
 ∃ os',CI h (stGo x A l).1 os' (fun t j=>D t j\/(t=s/\j∈l))/\(∃ m,os'=os ++ m)/\(∃ m,(stGo x A l).1.queue=x.queue ++ m)/\(stGo x A l).1.sc=x.sc
 | [],x,os,D,C,hs,hA,hl,hn,he=>⟨os,C.congr (fun i j d=>by rcases d with d | ⟨-,d⟩;exact C.dl i j d;cases d) (fun i o' _ j _=>⟨.inl,fun d=>d.elim id fun c=>nomatch c.2⟩),⟨[],by simp⟩,⟨[],by simp [stGo]⟩,rfl⟩
 | i :: r,x,os,D,C,hs,hA,hl,hn,he=>by
  have I:=C.inv
  rw [stGo] at he ⊢
  by_cases e0:evE x (loadV x.h.words (A+1+i))=0
  · rw [if_pos e0] at he ⊢
    obtain ⟨p1,p2⟩:=hl i (List.mem_cons_self ..)
    obtain ⟨-,i0,i1⟩:=ptr_lt p1
    have hv:loadV x.h.words (A+1+i)=loadV h.words (o+1+i):=(C.fl s o A hs hA i i0 i1).2 fun d=>absurd d p2
    have hob:=C.oin o (List.mem_of_getElem? hs)
    obtain ⟨os1,C1,⟨m1,rfl⟩,⟨m2,q2⟩,F1⟩:=C.forward (G.ptr o hob i p1) (by rw [<-hv];exact e0)
    have hsl:=(List.getElem?_eq_some_iff.1 hs).1
    have hAl:=(List.getElem?_eq_some_iff.1 hA).1
    have hs1:(os ++ m1)[s]?=some o:=by rw [List.getElem?_append_left hsl];exact hs
    have hA1:(evW x (loadV h.words (o+1+i))).queue[s]?=some A:=by rw [q2,List.getElem?_append_left hAl];exact hA
    have C2:=C1.write hs1 hA1 p1 F1
    have eN:stNext x (A+1+i)={ evW x (loadV h.words (o+1+i)) with h:={ (evW x (loadV h.words (o+1+i))).h with words:=writeV (evW x (loadV h.words (o+1+i))).h.words (A+1+i) [evA x (loadV h.words (o+1+i))] } }:=by
     unfold stNext;rw [hv]
    rw [<-eN] at C2
    have hq2:(stNext x (A+1+i)).queue=x.queue ++ m2:=by rw [eN];exact q2
    obtain ⟨nd1,nd2⟩:=List.nodup_cons.1 hn
    obtain ⟨os',C3,⟨m3,r1⟩,⟨m4,r2⟩,r3⟩:=CI_stGo G r (stNext x (A+1+i)) (os ++ m1) _ C2 hs1 (by rw [hq2,List.getElem?_append_left hAl];exact hA) (fun j hj=>⟨(hl j (List.mem_cons_of_mem _ hj)).1,fun d=>by
     rcases d with d | ⟨-,d⟩
     · exact (hl j (List.mem_cons_of_mem _ hj)).2 d
     · rw [d] at hj;exact nd1 hj⟩) nd2 he
    refine ⟨os',C3.congr (fun t j d=>?_) (fun t o' _ j _=>?_),⟨m1 ++ m3,by rw [r1,List.append_assoc]⟩,⟨m2 ++ m4,by rw [r2,hq2,List.append_assoc]⟩,?_⟩
    · rcases d with d | ⟨d1,d2⟩
      · have:=C.dl t j d
        rw [r1,List.length_append,List.length_append];omega
      · rw [d1,r1,List.length_append,List.length_append];omega
    · constructor
      · rintro ((d | ⟨d1,d2⟩) | ⟨d1,d2⟩)
        · exact .inl d
        · exact .inr ⟨d1,by rw [d2];exact List.mem_cons_self ..⟩
        · exact .inr ⟨d1,List.mem_cons_of_mem _ d2⟩
      · rintro (d | ⟨d1,d2⟩)
        · exact .inl (.inl d)
        · rcases List.mem_cons.1 d2 with q | q
          · exact .inl (.inr ⟨d1,q⟩)
          · exact .inr ⟨d1,q⟩
    · rw [r3]
      show (evW x (loadV x.h.words (A+1+i))).sc=x.sc
      exact (I.forward e0).2.sc
  · rw [if_neg e0] at he;exact absurd he e0
theorem ptrs_all {k n m i:Int} (h:ptrB k n m i=true):i∈ptrsV k n m:=by
 obtain ⟨v,i0,i1⟩:=ptr_lt h
 unfold ptrsV
 rw [if_pos v]
 unfold ptrsTo
 rw [List.mem_filter]
 refine ⟨List.mem_map.2 ⟨i.toNat,List.mem_range.2 (by omega),?_⟩,h⟩
 show ((i.toNat:Nat):Int)=i
 omega
theorem ptrs_nodup (k n m:Int):(ptrsV k n m).Nodup:=by
 unfold ptrsV
 split
 · unfold ptrsTo
   refine List.Pairwise.filter _ ?_
   exact List.Pairwise.map _ (fun a b hab=>fun e=>hab (Int.ofNat.inj e)) List.nodup_range
 · exact List.nodup_nil
theorem CI_all {h:Hp} (G:Good h):∀ (f:Nat) (x:Wk) (s:Nat) (os:List Int),CI h x os (fun t _=>t < s)->x.sc=s->s<=os.length->(objectsV h).length+1<=s+f->(allV f x).2=0 ->
 ∃ os',CI h (allV f x).1 os' (fun t _=>t < os'.length)/\(∃ m,os'=os ++ m)/\(∃ m,(allV f x).1.queue=x.queue ++ m)
 | 0,x,s,os,C,hsc,hs,hf,he=>by
  have:=C.inv.qlen
  have:=C.len
  omega
 | f+1,x,s,os,C,hsc,hs,hf,he=>by
  have hlen:=C.len
  cases hq:x.queue[s]? with
  | none =>
   rw [allV_end hsc hq]
   have hge:=List.getElem?_eq_none_iff.1 hq
   have e:s=os.length:=by omega
   subst e
   exact ⟨os,C,⟨[],by simp⟩,⟨[],by simp⟩⟩
  | some A =>
   rw [allV_go hsc hq] at he ⊢
   by_cases e:stE x A=0
   · rw [if_pos e] at he ⊢
     have hlt:=(List.getElem?_eq_some_iff.1 hq).1
     have hos:os[s]?=some os[s]:=List.getElem?_eq_getElem (by omega)
     generalize os[s]=o at hos
     obtain ⟨z1,z2,z3,z4⟩:=C.size hos hq
     have hL:stL x A=ptrsV (atH h o).k (atH h o).n (atH h o).m:=by unfold stL;rw [z2]
     have e2:(stGo x A (ptrsV (atH h o).k (atH h o).n (atH h o).m)).2=0:=by rw [<-hL];exact e
     obtain ⟨os1,C1,⟨m1,r1⟩,⟨m2,r2⟩,r3⟩:=CI_stGo G (s:=s) (o:=o) (A:=A) _ x os _ C hos hq (fun i hi=>⟨ptrsV_mem hi,by omega⟩) (ptrs_nodup _ _ _) e2
     have C2:CI h (stGo x A (ptrsV (atH h o).k (atH h o).n (atH h o).m)).1 os1 (fun t _=>t < s+1):=C1.congr (fun t j d=>by rw [r1,List.length_append];omega) (fun t o' ho' j hp=>by
      constructor
      · rintro (d | ⟨d,-⟩) <;> omega
      · intro d
        by_cases c:t=s
        · right
          refine ⟨c,?_⟩
          subst c
          rw [r1,List.getElem?_append_left (by omega),hos] at ho'
          injection ho' with ho'
          rw [ho'];exact ptrs_all hp
        · left;omega)
     rw [<-hL] at C2 r2 r3
     have C3:CI h (stW x A) os1 (fun t _=>t < s+1):=⟨C2.inv.reports _ _ _ _ _ _ _,C2.len,C2.dl,C2.oin,C2.qnd,C2.seen,C2.plc,C2.hd,C2.fl,C2.un,C2.ot,C2.fr,C2.tile,C2.ppg,C2.kp,C2.wb⟩
     have hb:=C.inv.qlen
     obtain ⟨os',C4,⟨m3,q1⟩,⟨m4,q2⟩⟩:=CI_all G f (stW x A) (s+1) os1 C3 (by
      show wrap64 ((stGo x A (stL x A)).1.sc+1)=_
      rw [r3,hsc];unfold wrap64;omega) (by rw [r1,List.length_append];omega) (by omega) he
     exact ⟨os',C4,⟨m1 ++ m3,by rw [q1,r1,List.append_assoc]⟩,⟨m2 ++ m4,by rw [q2];show (stGo x A (stL x A)).1.queue ++ m4=_;rw [r2,List.append_assoc]⟩⟩
   · rw [if_neg e] at he;exact absurd he e
theorem CI_roots {h:Hp}:∀ (rs:List Int) (x:Wk) (os acc:List Int) (D:Nat->Int->Prop),CI h x os D->(∀ r∈rs,r=0\/r∈objectsV h)->(rootsGo x acc rs).2.2=0 ->
 ∃ os' out,CI h (rootsGo x acc rs).1 os' D/\(rootsGo x acc rs).2.1=acc ++ out/\out.length=rs.length/\(∀ (i:Nat) (r w:Int),rs[i]?=some r->out[i]?=some w->Fw os' (rootsGo x acc rs).1.queue r w)/\(∃ m,os'=os ++ m)/\(∃ m,(rootsGo x acc rs).1.queue=x.queue ++ m)/\(rootsGo x acc rs).1.sc=x.sc
 | [],x,os,acc,D,C,_,_=>⟨os,[],C,by simp [rootsGo],rfl,(fun i r w h1=>by simp at h1),⟨[],by simp⟩,⟨[],by simp [rootsGo]⟩,rfl⟩
 | r :: rs,x,os,acc,D,C,hr,he=>by
  rw [rootsGo] at he ⊢
  by_cases e0:evE x r=0
  · rw [if_pos e0] at he ⊢
    obtain ⟨os1,C1,⟨m1,p1⟩,⟨m2,p2⟩,F1⟩:=C.forward (hr r (List.mem_cons_self ..)) e0
    obtain ⟨os',out,C2,q1,q2,q3,⟨m3,q4⟩,⟨m4,q5⟩,q6⟩:=CI_roots rs (evW x r) os1 (acc ++ [evA x r]) D C1 (fun c hc=>hr c (List.mem_cons_of_mem _ hc)) he
    refine ⟨os',evA x r :: out,C2,by rw [q1,List.append_assoc];rfl,by simp [q2],fun i r' w h1 h2=>?_,⟨m1 ++ m3,by rw [q4,p1,List.append_assoc]⟩,⟨m2 ++ m4,by rw [q5,p2,List.append_assoc]⟩,?_⟩
    · cases i with
      | zero =>
       simp only [List.getElem?_cons_zero,Option.some.injEq] at h1 h2
       subst h1 h2
       exact F1.more ⟨_,q4⟩ ⟨_,q5⟩
      | succ i =>
       rw [List.getElem?_cons_succ] at h1 h2
       exact q3 i r' w h1 h2
    · rw [q6];exact (C.inv.forward e0).2.sc
  · rw [if_neg e0] at he;exact absurd he e0
end Go.VI.P
namespace Go.VI.P
open Go
open Go.RowKit
theorem frPs_get (x:Wk):∀ (n j:Nat),(frPs x n)[j]?=if j < n/\frB x j=true then (x.h.pages[j]?).map (fun _=>Pg.zero) else x.h.pages[j]?
 | 0,j=>by rw [if_neg (by omega)];rfl
 | n+1,j=>by
  have ih:=frPs_get x n j
  rw [frPs]
  by_cases hf:frB x n=true
  · rw [if_pos hf,List.getElem?_set]
    by_cases e:n=j
    · subst e
      rw [if_pos rfl,frPs_len,if_pos (show n < n+1/\frB x n=true from ⟨by omega,hf⟩)]
      by_cases hl:n < x.h.pages.length
      · rw [if_pos hl,List.getElem?_eq_getElem hl];rfl
      · rw [if_neg hl,List.getElem?_eq_none (by omega)];rfl
    · rw [if_neg e,ih]
      by_cases c:j < n/\frB x j=true
      · rw [if_pos c,if_pos ⟨by omega,c.2⟩]
      · rw [if_neg c,if_neg (fun d=>c ⟨by omega,d.2⟩)]
  · rw [if_neg hf,ih]
    by_cases c:j < n/\frB x j=true
    · rw [if_pos c,if_pos ⟨by omega,c.2⟩]
    · rw [if_neg c,if_neg (fun d=>c ⟨by
       by_cases e:j=n
       · subst e;exact absurd d.2 hf
       · omega,d.2⟩)]
theorem frWs_get (x:Wk) (h0:0<=x.h.pw) (hw:(x.h.words.length:Int)=x.h.pages.length*x.h.pw) {j t:Nat} (hj:j < x.h.pages.length) (ht:t < x.h.pw.toNat):∀ n,n<=x.h.pages.length->(frWs x n)[j*x.h.pw.toNat+t]?=if j < n/\frB x j=true then some 0 else x.h.words[j*x.h.pw.toNat+t]?
 | 0,_=>by rw [if_neg (by omega)];rfl
 | n+1,hn=>by
  have ih:=frWs_get x h0 hw hj ht n (by omega)
  have hlen:=frWs_len x h0 hw n (by omega)
  have hpw:=page_words (k:=n) h0 (by omega) hw
  rw [frWs]
  by_cases hf:frB x n=true
  · rw [if_pos hf]
    have hfit:n*x.h.pw.toNat+(List.replicate x.h.pw.toNat (0:Int)).length<=(frWs x n).length:=by rw [List.length_replicate,hlen];exact hpw
    by_cases e:j=n
    · subst e
      rw [splice_in hfit (by omega) (by rw [List.length_replicate];omega),if_pos ⟨by omega,hf⟩,show j*x.h.pw.toNat+t - j*x.h.pw.toNat=t from by omega,List.getElem?_replicate,if_pos ht]
    · rw [splice_out hfit (by
       rw [List.length_replicate]
       by_cases hlt:j < n
       · left
         have:(j+1)*x.h.pw.toNat<=n*x.h.pw.toNat:=Nat.mul_le_mul_right _ (by omega)
         rw [Nat.add_mul,Nat.one_mul] at this
         omega
       · right
         have:(n+1)*x.h.pw.toNat<=j*x.h.pw.toNat:=Nat.mul_le_mul_right _ (by omega)
         rw [Nat.add_mul,Nat.one_mul] at this
         omega),ih]
      by_cases c:j < n/\frB x j=true
      · rw [if_pos c,if_pos ⟨by omega,c.2⟩]
      · rw [if_neg c,if_neg (fun d=>c ⟨by omega,d.2⟩)]
  · rw [if_neg hf,ih]
    by_cases c:j < n/\frB x j=true
    · rw [if_pos c,if_pos ⟨by omega,c.2⟩]
    · rw [if_neg c,if_neg (fun d=>c ⟨by
       by_cases e:j=n
       · subst e;exact absurd d.2 hf
       · omega,d.2⟩)]
theorem fill_words {h:Hp}:∀ (l:List Int) (y:Wk),l.Pairwise (fun a b=>a+osz h a<=b)->(∀ a∈l,a∈objectsV h)->y.h.words.length=h.words.length->(∀ a∈l,fillB y a=true->evWd y a=loadV h.words a) ->
 (∀ p,(∀ a∈l,fillB y a=true->p < a\/a+osz h a<=p)->loadV (l.foldl fillOne y).h.words p=loadV y.h.words p) /\
 (∀ a∈l,fillB y a=true->loadV (l.foldl fillOne y).h.words a=encV 0 (atH h a).n 0/\∀ j,1<=j->j < osz h a->loadV (l.foldl fillOne y).h.words (a+j)=0)
 | [],y,_,_,_,_=>⟨fun p _=>rfl,(fun a ha=>nomatch ha)⟩
 | a :: l,y,hp,hm,e,hev=>by
  obtain ⟨p1,p2⟩:=List.pairwise_cons.1 hp
  rw [List.foldl_cons]
  by_cases hb:fillB y a=true
  · have h1:=hev a (List.mem_cons_self ..) hb
    have ha:=hm a (List.mem_cons_self ..)
    obtain ⟨e1,e2,e3,-⟩:=old_ev ha h1
    obtain ⟨i,j,g,b⟩:=objects_begin ha
    have hpos:=b.pos
    have hwl:=b.wl
    have hen:(evH y a).n=(atH h a).n:=by unfold osz at e3;omega
    have hosz:osz h a=(atH h a).n+1:=rfl
    have hln:((fillL y a).length:Int)=osz h a:=by unfold fillL;rw [List.length_cons,List.length_replicate];omega
    have hok:okA y.h.words.length a (fillL y a).length=true:=okA_iff.2 (by omega)
    have hW:(fillOne y a).h.words=writeV y.h.words a (fillL y a):=by unfold fillOne;rw [if_pos hb]
    have hv:validB 0 (atH h a).n 0=true:=valid_plain (.inl rfl) (by omega) (at_in (objectsV_at ha).1).2.2.2.2.2 rfl
    have hfl:fillL y a=initL 0 (atH h a).n 0:=by
     unfold fillL initL
     rw [hen,(enc_ok hv).1]
    obtain ⟨i1,i2,i3⟩:=load_init (xs:=y.h.words) (A:=a) (k:=0) (n:=(atH h a).n) (m:=0) (by omega) (by rw [<-hfl];exact hok)
    rw [<-hfl,<-hW] at i1 i2 i3
    obtain ⟨q1,q2⟩:=fill_words l (fillOne y a) p2 (fun c hc=>hm c (List.mem_cons_of_mem _ hc)) (by rw [hW,write_len hok];exact e) (fun c hc hf=>by
     rw [fillB_one] at hf
     have h2:=hev c (List.mem_cons_of_mem _ hc) hf
     have h3:=p1 c hc
     rw [<-h2]
     exact i3 c (by omega))
    refine ⟨fun p hpp=>?_,fun c hc hf=>?_⟩
    · rw [q1 p (fun c hc hf=>by rw [fillB_one] at hf;exact hpp c (List.mem_cons_of_mem _ hc) hf)]
      exact i3 p (by have:=hpp a (List.mem_cons_self ..) hb;omega)
    · rcases List.mem_cons.1 hc with q | q
      · subst q
        have hrest:∀ p,c<=p->p < c+osz h c->loadV (l.foldl fillOne (fillOne y c)).h.words p=loadV (fillOne y c).h.words p:=fun p z1 z2=>q1 p fun d hd _=>by have:=p1 d hd;omega
        refine ⟨?_,fun j j0 j1=>?_⟩
        · rw [hrest c (by omega) (by omega),i1,(enc_ok hv).1]
        · rw [hrest (c+j) (by omega) (by omega),show c+j=c+1+(j - 1) from by omega]
          exact i2 (j - 1) (by omega) (by omega)
      · exact q2 c q (by rw [fillB_one];exact hf)
  · have hW:fillOne y a=y:=by unfold fillOne;rw [if_neg hb]
    rw [hW]
    obtain ⟨q1,q2⟩:=fill_words l y p2 (fun c hc=>hm c (List.mem_cons_of_mem _ hc)) e (fun c hc hf=>hev c (List.mem_cons_of_mem _ hc) hf)
    refine ⟨fun p hpp=>q1 p fun c hc hf=>hpp c (List.mem_cons_of_mem _ hc) hf,fun c hc hf=>?_⟩
    rcases List.mem_cons.1 hc with q | q
    · rw [q] at hf;exact absurd hf hb
    · exact q2 c q hf
theorem fill_wb:∀ (l:List Int) (y:Wk),WB y.h.words->WB (l.foldl fillOne y).h.words
 | [],y,h=>h
 | a :: l,y,h=>by
  rw [List.foldl_cons]
  refine fill_wb l _ ?_
  unfold fillOne
  split
  · refine wb_write h fun z hz=>?_
    unfold fillL at hz
    rcases List.mem_cons.1 hz with e | e
    · rw [e];exact encV_wb _
    · rw [List.eq_of_mem_replicate e];omega
  · exact h
def endH (x:Wk):Hp:={ (freeW (fillW x)).h with space:=1 - (freeW (fillW x)).h.space,bump:=((freeW (fillW x)).taken.getLast?).getD (-1) }
structure EP (h:Hp) (x:Wk) (k:Nat) (g0:Pg):Prop where
 tk:(k:Int)∈x.taken->g0.kind=0/\frB (fillW x) k=false/\∃ u,(endH x).pages[k]?=some ⟨1,1 - h.space,u,0⟩/\x.h.pages[k]?=some ⟨1,1 - h.space,u,0⟩/\0<=u/\u<=h.pw
 k0:¬(k:Int)∈x.taken->g0.kind=0->frB (fillW x) k=false/\(endH x).pages[k]?=some g0
 k1:g0.kind=1->0 < g0.pins->frB (fillW x) k=false/\(endH x).pages[k]?=some ⟨1,1 - h.space,g0.used,g0.pins⟩
 k1':g0.kind=1->¬0 < g0.pins->frB (fillW x) k=true/\(endH x).pages[k]?=some Pg.zero
 k2:g0.kind=2->bs h k∈x.queue->frB (fillW x) k=false/\(endH x).pages[k]?=some ⟨2,1 - h.space,g0.used,g0.pins⟩
 k2':g0.kind=2->¬bs h k∈x.queue->frB (fillW x) k=true/\(endH x).pages[k]?=some Pg.zero
 k3:g0.kind=3->bs h (headAt h.pages k)∈x.queue->frB (fillW x) k=false/\(endH x).pages[k]?=some ⟨3,1 - h.space,g0.used,g0.pins⟩
 k3':g0.kind=3->¬bs h (headAt h.pages k)∈x.queue->frB (fillW x) k=true/\(endH x).pages[k]?=some Pg.zero
theorem end_pages {h:Hp} {x:Wk} {os:List Int} {D:Nat->Int->Prop} (G:Good h) (C:CI h x os D) {k:Nat} {g0:Pg} (hg:h.pages[k]?=some g0):EP h x k g0:=by
 have I:=C.inv
 have hcf:=I.conf
 obtain ⟨f1,f2,f3,f4,f5,f6,f7,f8⟩:=fold_same x.old x
 have hkl:=(List.getElem?_eq_some_iff.1 hg).1
 have hpl:=I.pl
 have hFp:(fillW x).h.pages=x.h.pages:=f3
 have hFs:(fillW x).h.space=h.space:=by rw [<-I.sp];exact f4
 have hP:∀ y,x.h.pages[k]?=some y->(frB (fillW x) k=decide (¬y.kind=0/\y.space=h.space))/\(endH x).pages[k]?=if ¬y.kind=0/\y.space=h.space then some Pg.zero else some y:=fun y hy=>by
  have e1:frB (fillW x) k=decide (¬y.kind=0/\y.space=h.space):=by
   unfold frB
   rw [hFp,hFs,getD_at hy]
   by_cases c1:y.kind=0 <;> by_cases c2:y.space=h.space <;> simp [c1,c2]
  refine ⟨e1,?_⟩
  show (frPs (fillW x) (fillW x).h.pages.length)[k]?=_
  rw [frPs_get,hFp,hy,e1]
  by_cases c:¬y.kind=0/\y.space=h.space
  · rw [if_pos c,if_pos ⟨by omega,decide_eq_true c⟩];rfl
  · rw [if_neg c,if_neg (fun d=>c (of_decide_eq_true d.2))]
 have keep:∀ y,x.h.pages[k]?=some y->y.space=1 - h.space->frB (fillW x) k=false/\(endH x).pages[k]?=some y:=fun y hy hs=>by
  obtain ⟨a,b⟩:=hP y hy
  have c:¬(¬y.kind=0/\y.space=h.space):=fun c=>by omega
  rw [if_neg c] at b
  exact ⟨by rw [a];exact decide_eq_false c,b⟩
 have gone:∀ y,x.h.pages[k]?=some y->¬y.kind=0->y.space=h.space->frB (fillW x) k=true/\(endH x).pages[k]?=some Pg.zero:=fun y hy hk hs=>by
  obtain ⟨a,b⟩:=hP y hy
  rw [if_pos ⟨hk,hs⟩] at b
  exact ⟨by rw [a];exact decide_eq_true ⟨hk,hs⟩,b⟩
 have nt:¬g0.kind=0->¬(k:Int)∈x.taken:=fun c ht=>by
  obtain ⟨k2,g1,g,e0,e1,e2,-⟩:=I.tk _ ht
  obtain rfl:k=k2:=by omega
  rw [hg] at e1;injection e1 with e1;rw [<-e1] at e2;exact c e2
 refine ⟨fun ht=>?_,fun hn h0=>?_,fun h1 hp=>?_,fun h1 hp=>?_,fun h2 hq=>?_,fun h2 hq=>?_,fun h3 hq=>?_,fun h3 hq=>?_⟩
 · obtain ⟨u,l,t1,t2,t3⟩:=C.tile k ht
   obtain ⟨k2,g1,g,e0,e1,e2,e3,e4,e5,e6⟩:=I.tk _ ht
   obtain rfl:k=k2:=by omega
   rw [hg] at e1;injection e1 with e1
   rw [t1] at e3;injection e3 with e3
   obtain ⟨a,b⟩:=keep _ t1 rfl
   exact ⟨by rw [e1];exact e2,a,u,b,t1,by rw [<-e3] at e5;exact e5,by rw [<-e3] at e6;exact e6⟩
 · obtain ⟨s,q1,q2,-⟩:=C.ppg k g0 hg hn
   obtain ⟨a,b⟩:=hP _ q1
   have c:¬(¬g0.kind=0/\s=h.space):=fun c=>c.1 h0
   rw [if_neg c] at b
   exact ⟨by rw [a];exact decide_eq_false c,by rw [b,q2 h0]⟩
 · obtain ⟨s,q1,-,q3,-⟩:=C.ppg k g0 hg (nt (by omega))
   rw [q3 h1,if_pos hp,h1] at q1
   exact keep _ q1 rfl
 · obtain ⟨s,q1,-,q3,-⟩:=C.ppg k g0 hg (nt (by omega))
   rw [q3 h1,if_neg hp] at q1
   exact gone _ q1 (by show ¬g0.kind=0;omega) rfl
 · obtain ⟨s,q1,-,-,q4,-⟩:=C.ppg k g0 hg (nt (by omega))
   rw [q4 h2,if_pos hq,h2] at q1
   exact keep _ q1 rfl
 · obtain ⟨s,q1,-,-,q4,-⟩:=C.ppg k g0 hg (nt (by omega))
   rw [q4 h2,if_neg hq] at q1
   exact gone _ q1 (by show ¬g0.kind=0;omega) rfl
 · obtain ⟨s,q1,-,-,-,q5⟩:=C.ppg k g0 hg (nt (by omega))
   rw [q5 h3,if_pos hq,h3] at q1
   exact keep _ q1 rfl
 · obtain ⟨s,q1,-,-,-,q5⟩:=C.ppg k g0 hg (nt (by omega))
   rw [q5 h3,if_neg hq] at q1
   exact gone _ q1 (by show ¬g0.kind=0;omega) rfl
theorem end_words {h:Hp} {x:Wk} {os:List Int} {D:Nat->Int->Prop} (C:CI h x os D) {k:Nat} {p:Int} (hk:k < h.pages.length) (h1:bs h k<=p) (h2:p < bs h k+h.pw) :
 loadV (endH x).words p=if frB (fillW x) k=true then 0 else loadV (fillW x).h.words p:=by
 have I:=C.inv
 have hcf:=I.conf
 obtain ⟨f1,f2,f3,f4,f5,f6,f7,f8⟩:=fold_same x.old x
 have hFp:(fillW x).h.pages=x.h.pages:=f3
 have hFw:(fillW x).h.pw=h.pw:=by rw [<-I.pw];exact f1
 have hFl:=I.fill
 have hpl:=I.pl
 have hlen:((fillW x).h.words.length:Int)=(fillW x).h.pages.length*(fillW x).h.pw:=by
  rw [hFp,hFw,hFl,hpl]
  have e1:=hcf.2.2.2.2.1
  have e2:=hcf.2.2.2.2.2.1
  rw [e1,<-e2]
 obtain ⟨t,ht⟩:∃ t:Nat,p=bs h k+t:=⟨(p - bs h k).toNat,by omega⟩
 subst ht
 have hg:=frWs_get (fillW x) (by rw [hFw];omega) hlen (j:=k) (t:=t) (by rw [hFp];omega) (by rw [hFw];omega) (fillW x).h.pages.length (Nat.le_refl _)
 have hidx:(bs h k+t - 4096).toNat=k*(fillW x).h.pw.toNat+t:=by
  rw [hFw]
  have e:((k*h.pw.toNat+t:Nat):Int)=(k:Int)*h.pw+t:=by
   rw [Int.natCast_add,Int.natCast_mul,Int.toNat_of_nonneg (by omega)]
  unfold bs;omega
 have h0:0<=(k:Int)*h.pw:=Int.mul_nonneg (by omega) (by omega)
 have h4:4096<=bs h k+t:=by unfold bs;omega
 show loadV (frWs (fillW x) (fillW x).h.pages.length) (bs h k+t)=_
 rw [load_get _ h4,load_get _ h4,hidx,hg]
 by_cases c:frB (fillW x) k=true
 · rw [if_pos c,if_pos ⟨by rw [hFp];omega,c⟩];rfl
 · rw [if_neg c,if_neg (fun d=>c d.2)]
end Go.VI.P
namespace Go.VI.P
open Go
open Go.RowKit
theorem fill_iff {h:Hp} {x:Wk} {os:List Int} {D:Nat->Int->Prop} (C:CI h x os D) {a:Int} {i j:Nat} {g:Pg} (b:Begins h a i j g):fillB x a=true↔g.kind=1/\0 < g.pins/\¬a∈x.queue:=by
 have I:=C.inv
 have hcf:=I.conf
 have hnt:=I.begun b
 obtain ⟨s,q1,-,q3,-⟩:=C.ppg i g b.pg hnt
 unfold fillB
 rw [I.pw,I.np,b.oi]
 have hp:promB x (i:Int)=(decide (g.kind=1) && !decide (s=h.space)):=by
  unfold promB
  rw [Int.toNat_natCast,q1,I.sp]
  have e1:decide (0<=(i:Int))=true:=decide_eq_true (by omega)
  have e2:decide ((i:Int)∈x.taken)=false:=decide_eq_false hnt
  dsimp only
  rw [e1,e2]
  cases decide (g.kind=1) <;> cases decide (s=h.space) <;> rfl
 rw [hp]
 simp only [Bool.and_eq_true,decide_eq_true_eq,Bool.not_eq_true',decide_eq_false_iff_not]
 constructor
 · rintro ⟨⟨k1,k2⟩,k3⟩
   refine ⟨k1,Decidable.by_contra fun c=>k2 ?_,k3⟩
   rw [q3 k1,if_neg c]
 · rintro ⟨k1,k2,k3⟩
   refine ⟨⟨k1,?_⟩,k3⟩
   rw [q3 k1,if_pos k2];omega
theorem fill_facts {h:Hp} {x:Wk} {os:List Int} {D:Nat->Int->Prop} (C:CI h x os D) :
 (∀ p,(∀ a∈objectsV h,fillB x a=true->p < a\/a+osz h a<=p)->loadV (fillW x).h.words p=loadV x.h.words p) /\
 (∀ a∈objectsV h,fillB x a=true->loadV (fillW x).h.words a=encV 0 (atH h a).n 0/\∀ j,1<=j->j < osz h a->loadV (fillW x).h.words (a+j)=0):=by
 have I:=C.inv
 have hf:=fill_words (objectsV h) x (objects_sorted h) (fun a ha=>ha) I.wl (fun a ha hb=>by
  obtain ⟨i,j,g,b⟩:=objects_begin ha
  rcases I.un a ha with c | ⟨-,-,c3⟩
  · exact c
  · unfold fillB at hb
    rw [I.pw,I.np,c3] at hb
    cases hb)
 rw [<-I.old] at hf
 rw [<-I.old]
 exact hf
theorem queue_words {h:Hp} {x:Wk} {os:List Int} {D:Nat->Int->Prop} (G:Good h) (C:CI h x os D) {q:Int} (hq:q∈x.queue) {j:Int} (j0:0<=j) (j1:j < evN x q):loadV (endH x).words (q+j)=loadV x.h.words (q+j):=by
 have I:=C.inv
 have hcf:=I.conf
 have hc:=(okH_parts I.ok).1
 obtain ⟨f1,f2⟩:=fill_facts C
 have hF:loadV (fillW x).h.words (q+j)=loadV x.h.words (q+j):=by
  refine f1 _ fun a ha hb=>?_
  obtain ⟨i,j',g,b⟩:=objects_begin ha
  have hnq:=((fill_iff C b).1 hb).2.2
  rcases I.qs q hq with c | c
  · have hne:q≠a:=fun e=>hnq (by rw [<-e];exact hq)
    have:=objects_apart c ha hne
    rw [(old_ev c (I.kept c hq)).2.1] at j1
    omega
  · have:=I.old_copy ha c
    omega
 rcases I.qs q hq with c | c
 · rw [(old_ev c (I.kept c hq)).2.1] at j1
   obtain ⟨i,j',g,b⟩:=objects_begin c
   have hon:=obj_on b
   obtain ⟨u1,u2,u3,u4⟩:=b.upto
   have hpos:=b.pos
   have hwl:=b.wl
   obtain ⟨k,t,e,hk,ht⟩:=page_split hc (p:=q+j) (by omega) (by omega)
   have hkl:k < h.pages.length:=by omega
   have hb1:bs h k<=q+j:=by unfold bs;omega
   have hb2:q+j < bs h k+h.pw:=by unfold bs;omega
   rw [end_words C hkl hb1 hb2,<-hF]
   have hnf:frB (fillW x) k=false:=by
    rcases C.kp q hq c i j' g b with k2 | ⟨k1,k1p⟩
    · by_cases eki:k=i
      · subst eki
        have hqb:q=bs h k:=by
         rcases b.kd with ⟨z,-⟩ | ⟨-,z,-⟩
         · omega
         · have:=b.ad;unfold bs;omega
        exact ((end_pages G C b.pg).k2 k2 (by rw [<-hqb];exact hq)).1
      · have hlo:i < k:=by
         refine Decidable.by_contra fun z=>?_
         have:=bs_lt (h:=h) (by omega) (show k < i by omega)
         omega
        have hhi:(k:Int) < i+pspan h g:=by
         refine Decidable.by_contra fun z=>?_
         have:((i:Int)+pspan h g)*h.pw<=(k:Int)*h.pw:=Int.mul_le_mul_of_nonneg_right (by omega) (by omega)
         unfold bs at hb1;omega
        obtain ⟨y,y1,y2⟩:=u4 k hlo hhi
        have hhd:headAt h.pages k=i:=by
         obtain ⟨d,rfl⟩:∃ d,k=i+d:=⟨k - i,by omega⟩
         refine headAt_is (by rw [getD_at b.pg];omega) d fun t2 z1 z2=>?_
         obtain ⟨y',y1',y2'⟩:=u4 t2 z1 (by omega)
         rw [getD_at y1'];exact y2'
        have hqb:q=bs h i:=by
         rcases b.kd with ⟨z,-⟩ | ⟨-,z,-⟩
         · omega
         · have:=b.ad;unfold bs;omega
        exact ((end_pages G C y1).k3 y2 (by rw [hhd,<-hqb];exact hq)).1
    · have eki:k=i:=by
       refine bs_uniq (h:=h) (by omega) hb1 hb2 (by omega) ?_
       rcases b.kd with ⟨-,z1,z2⟩ | ⟨z,-⟩
       · have:=b.ad;unfold bs;omega
       · omega
      subst eki
      exact ((end_pages G C b.pg).k1 k1 k1p).1
   rw [hnf];rfl
 · obtain ⟨k,g,d1,d2,d3,d4,d5⟩:=c
   obtain ⟨k3,y0,y3,l0,l1,l2,l3,l4,l5,l6⟩:=I.tk _ d1
   obtain rfl:k=k3:=by omega
   rw [d2] at l3;injection l3 with l3;subst l3
   rw [I.pw] at d3 d5
   have hkl:=(List.getElem?_eq_some_iff.1 l1).1
   rw [end_words C hkl (by unfold bs;omega) (by unfold bs;omega),<-hF,((end_pages G C l1).tk d1).2.1];rfl
theorem end_same {h:Hp} {x:Wk} (I:Inv h x):(endH x).pw=h.pw/\(endH x).np=h.np/\(endH x).space=1 - h.space/\(endH x).pages.length=h.pages.length/\(endH x).words.length=h.words.length/\(endH x).bump=(x.taken.getLast?).getD (-1):=by
 have hcf:=I.conf
 obtain ⟨f1,f2,f3,f4,f5,f6,f7,f8⟩:=fold_same x.old x
 have hFp:(fillW x).h.pages=x.h.pages:=f3
 have hFw:(fillW x).h.pw=h.pw:=by rw [<-I.pw];exact f1
 have hFl:=I.fill
 have hpl:=I.pl
 refine ⟨hFw,by rw [<-I.np];exact f2,?_,?_,?_,?_⟩
 · show 1 - (fillW x).h.space=_
   rw [show (fillW x).h.space=x.h.space from f4,I.sp]
 · show (frPs (fillW x) (fillW x).h.pages.length).length=_
   rw [frPs_len,hFp,hpl]
 · show (frWs (fillW x) (fillW x).h.pages.length).length=_
   rw [frWs_len _ (by rw [hFw];omega) ?_ _ (Nat.le_refl _),hFl]
   rw [hFp,hFw,hFl,hpl]
   have e1:=hcf.2.2.2.2.1
   have e2:=hcf.2.2.2.2.2.1
   rw [e1,<-e2]
 · show ((fillW x).taken.getLast?).getD (-1)=_
   rw [show (fillW x).taken=x.taken from f5]
theorem end_ok {h:Hp} {x:Wk} {os:List Int} {D:Nat->Int->Prop} (G:Good h) (C:CI h x os D):okH (endH x)=true:=by
 have I:=C.inv
 have hcf:=I.conf
 obtain ⟨s1,s2,s3,s4,s5,s6⟩:=end_same I
 obtain ⟨p1,p2,p3,p4,p5,p6⟩:=okP_parts (h:=h) (by unfold okP;rw [properP_B];exact I.ok)
 have p7:=(okH_parts I.ok).2.2.2.2.2.2
 have hsp:spaceB (1 - h.space)=true:=space_le.2 (by omega)
 have hcase:∀ (k:Nat) (y:Pg),(endH x).pages[k]?=some y->∃ g0,h.pages[k]?=some g0:=fun k y hy=>by
  have:=(List.getElem?_eq_some_iff.1 hy).1
  exact ⟨h.pages[k],List.getElem?_eq_getElem (by omega)⟩
 have hno2:∀ (k:Nat) (g0:Pg),h.pages[k]?=some g0->¬g0.kind=2->¬((endH x).pages.getD k Pg.zero).kind=2:=fun k g0 hg hk=>by
  have E:=end_pages G C hg
  have hm:=properL_mem _ _ _ _ p7 g0 (List.mem_of_getElem? hg)
  rcases hm.2.2.2.2.2.2.2.2 with c | c | c | c
  · by_cases ht:(k:Int)∈x.taken
    · obtain ⟨-,-,u,e,-⟩:=E.tk ht
      rw [getD_at e];show ¬(1:Int)=2;decide
    · rw [getD_at (E.k0 ht c).2];omega
  · by_cases hp:0 < g0.pins
    · rw [getD_at (E.k1 c hp).2];show ¬(1:Int)=2;decide
    · rw [getD_at (E.k1' c hp).2];show ¬(0:Int)=2;decide
  · exact absurd c hk
  · by_cases hq:bs h (headAt h.pages k)∈x.queue
    · rw [getD_at (E.k3 c hq).2];show ¬(3:Int)=2;decide
    · rw [getD_at (E.k3' c hq).2];show ¬(0:Int)=2;decide
 have hT:tableOK (endH x).pw (endH x).np (endH x).pages=true:=by
  rw [s1,s2,tableOK_iff]
  intro k y hy
  obtain ⟨g0,hg⟩:=hcase k y hy
  have E:=end_pages G C hg
  have hm:=properL_mem _ _ _ _ p7 g0 (List.mem_of_getElem? hg)
  have hpo:=tableOK_iff.1 p6 k g0 hg
  have hzero:pageOK h.pw h.np (endH x).pages k Pg.zero=true:=by unfold pageOK;rw [if_pos (show Pg.zero.kind=0 from rfl)];decide
  rcases hm.2.2.2.2.2.2.2.2 with c | c | c | c
  · by_cases ht:(k:Int)∈x.taken
    · obtain ⟨-,-,u,e,-,u0,u1⟩:=E.tk ht
      rw [e] at hy;injection hy with hy;subst hy
      unfold pageOK
      rw [if_neg (by show ¬(1:Int)=0;decide),if_pos (by show (1:Int)=1;rfl)]
      unfold smallOK
      dsimp only
      rw [hsp,decide_eq_true (show 0<=u/\u<=h.pw from ⟨u0,u1⟩)];decide
    · rw [(E.k0 ht c).2] at hy;injection hy with hy;subst hy
      rw [hm.2.2.2.2.1 c];exact hzero
  · by_cases hp:0 < g0.pins
    · rw [(E.k1 c hp).2] at hy;injection hy with hy;subst hy
      unfold pageOK at hpo ⊢
      rw [if_neg (by omega),if_pos c] at hpo
      rw [if_neg (by show ¬(1:Int)=0;decide),if_pos (by show (1:Int)=1;rfl)]
      unfold smallOK at hpo ⊢
      simp only [Bool.and_eq_true] at hpo ⊢
      exact ⟨⟨hsp,hpo.1.2⟩,hpo.2⟩
    · rw [(E.k1' c hp).2] at hy;injection hy with hy;subst hy;exact hzero
  · by_cases hq:bs h k∈x.queue
    · rw [(E.k2 c hq).2] at hy;injection hy with hy;subst hy
      unfold pageOK at hpo ⊢
      rw [if_neg (by omega),if_neg (by omega),if_pos c] at hpo
      rw [if_neg (by show ¬(2:Int)=0;decide),if_neg (by show ¬(2:Int)=1;decide),if_pos (by show (2:Int)=2;rfl)]
      unfold largeOK at hpo ⊢
      simp only [Bool.and_eq_true] at hpo ⊢
      obtain ⟨⟨⟨⟨o1,o2⟩,o3⟩,o4⟩,o5⟩:=hpo
      refine ⟨⟨⟨⟨hsp,o2⟩,o3⟩,by rw [s4];exact o4⟩,?_⟩
      obtain ⟨t1,t2,t3⟩:=large_tails p7 hg c
      rw [allTails_iff]
      intro t z1 z2 z hz
      obtain ⟨y',y1,y2,-⟩:=t3 t (by omega) (by omega)
      have hhd:headAt h.pages t=k:=by
       obtain ⟨d,rfl⟩:∃ d,t=k+d:=⟨t - k,by omega⟩
       refine headAt_is (by rw [getD_at hg];omega) d fun t2 w1 w2=>?_
       obtain ⟨y'',y1',y2',-⟩:=t3 t2 w1 (by omega)
       rw [getD_at y1'];exact y2'
      rw [((end_pages G C y1).k3 y2 (by rw [hhd];exact hq)).2] at hz
      injection hz with hz
      subst hz
      exact ⟨rfl,rfl⟩
    · rw [(E.k2' c hq).2] at hy;injection hy with hy;subst hy;exact hzero
  · by_cases hq:bs h (headAt h.pages k)∈x.queue
    · rw [(E.k3 c hq).2] at hy;injection hy with hy;subst hy
      unfold pageOK at hpo ⊢
      rw [if_neg (by omega),if_neg (by omega),if_neg (by omega),if_pos c] at hpo
      rw [if_neg (by show ¬(3:Int)=0;decide),if_neg (by show ¬(3:Int)=1;decide),if_neg (by show ¬(3:Int)=2;decide),if_pos (by show (3:Int)=3;rfl)]
      unfold tailOK at hpo ⊢
      simp only [Bool.and_eq_true] at hpo ⊢
      refine ⟨hpo.1,?_⟩
      have ho:=hpo.2
      unfold ownedB at ho ⊢
      rw [owned_iff] at ho ⊢
      obtain ⟨l,l1,l2,l3,l4⟩:=ho
      have hkl:=(List.getElem?_eq_some_iff.1 hg).1
      have hl:h.pages[l]?=some h.pages[l]:=List.getElem?_eq_getElem (by omega)
      rw [getD_at hl] at l2 l4
      generalize h.pages[l]=yl at hl l2 l4
      obtain ⟨t1,t2,t3⟩:=large_tails p7 hl l2
      have hhd:headAt h.pages k=l:=by
       obtain ⟨d,rfl⟩:∃ d,k=l+d:=⟨k - l,by omega⟩
       refine headAt_is (by rw [getD_at hl];omega) d fun t w1 w2=>?_
       obtain ⟨z,z1,z2,-⟩:=t3 t w1 (by omega)
       rw [getD_at z1];exact z2
      rw [hhd] at hq
      have hlE:=((end_pages G C hl).k2 l2 hq).2
      refine ⟨l,l1,by rw [getD_at hlE],fun m m1 m2=>?_,by rw [getD_at hlE];exact l4⟩
      have hmm:h.pages[m]?=some h.pages[m]:=List.getElem?_eq_getElem (by omega)
      have:=l3 m m1 m2
      rw [getD_at hmm] at this
      exact hno2 m _ hmm this
    · rw [(E.k3' c hq).2] at hy;injection hy with hy;subst hy;exact hzero
 have hB:bumpB (endH x).pages (endH x).bump=true:=by
  rw [s6]
  cases hl:x.taken.getLast? with
  | none=>unfold bumpB;exact decide_eq_true (.inl rfl)
  | some t =>
   have ht:=List.mem_of_getLast? hl
   obtain ⟨k,g1,g,e0,e1,e2,-⟩:=I.tk t ht
   subst e0
   obtain ⟨-,-,u,e,-⟩:=(end_pages G C e1).tk ht
   exact bumpB_mk e rfl
 have:=okP_mk (h:=endH x) (by rw [s1,s2];exact p1) (by rw [s5,s1,s2];exact p2) (by rw [s4,s2];exact p3) (by rw [s3];exact hsp) hB hT
 unfold okP at this;rw [properP_B] at this;exact this
end Go.VI.P
namespace Go.VI.P
open Go
open Go.RowKit
theorem pinned_word {h:Hp} {x:Wk} {os:List Int} {D:Nat->Int->Prop} (G:Good h) (C:CI h x os D) {k:Nat} {g0:Pg} (hg:h.pages[k]?=some g0) (h1:g0.kind=1) (hp:0 < g0.pins) {c:Int} (hc:c∈pageV h k) :
 okD (wordAt (endH x) c)=true/\(dN (wordAt (endH x) c):Int)+1=osz h c/\(c∈objectsV h->¬c∈x.queue->dK (wordAt (endH x) c)=0/\∀ j,1<=j->j < osz h c->loadV (endH x).words (c+j)=0)/\((¬c∈objectsV h\/c∈x.queue)->wordAt (endH x) c=wordAt h c):=by
 have I:=C.inv
 have hcf:=I.conf
 have hkl:=(List.getElem?_eq_some_iff.1 hg).1
 have E:=end_pages G C hg
 obtain ⟨f1,f2⟩:=fill_facts C
 obtain ⟨t1,t2,t3,t4⟩:=small_tile G.ok hg h1 (G.pg k hkl)
 obtain ⟨m1,m2,m3⟩:=tile_mem t3 c hc
 obtain ⟨d1,d2⟩:=t4 c hc
 have hcs:c∈startsV h:=(starts_mem G.ok G.pg).2 ⟨k,hkl,hc⟩
 have hbk:bs h k=4096+(k:Int)*h.pw:=rfl
 have hld:∀ p,c<=p->p < c+osz h c->loadV (endH x).words p=loadV (fillW x).h.words p:=fun p z1 z2=>by
  rw [end_words C hkl (by omega) (by omega),(E.k1 h1 hp).1];rfl
 have h4:4096<=c:=(at_bd (startsV_at hcs)).1
 by_cases ho:c∈objectsV h
 · obtain ⟨i,j,g,b⟩:=objects_begin ho
   have hik:i=k:=bs_uniq (h:=h) (by omega) (obj_on b).1 (obj_on b).2 (by omega) (by omega)
   subst hik
   have hgg:g=g0:=by have:=b.pg;rw [hg] at this;injection this with this;exact this.symm
   subst hgg
   by_cases hq:c∈x.queue
   · have hw:wordAt (endH x) c=wordAt h c:=by
      have:=queue_words G C hq (j:=0) (by omega) (by rw [(old_ev ho (I.kept ho hq)).2.1];omega)
      rw [Int.add_zero] at this
      rw [word_load h4,word_load h4,this]
      have:=I.kept ho hq
      unfold evWd at this
      rw [this]
     exact ⟨by rw [hw];exact d1,by rw [hw];exact d2.symm,fun _ c2=>absurd hq c2,fun _=>hw⟩
   · have hb:=(fill_iff C b).2 ⟨h1,hp,hq⟩
     obtain ⟨w1,w2⟩:=f2 c ho hb
     have hv:validB 0 (atH h c).n 0=true:=valid_plain (.inl rfl) (at_in (startsV_at hcs)).2.2.2.2.1 (at_in (startsV_at hcs)).2.2.2.2.2 rfl
     have hwb:=word_bd hv (by omega)
     have hwd:wordAt (endH x) c=(wordV 0 (atH h c).n 0).toNat:=by rw [word_load h4,hld c (by omega) (by omega),w1,(enc_ok hv).1]
     obtain ⟨e1,e2,e3,e4⟩:=word_dec hv (by omega) (x:=(wordV 0 (atH h c).n 0).toNat) (by omega)
     rw [<-hwd] at e1 e2 e3
     refine ⟨e1,by rw [e3];rfl,fun _ _=>⟨by omega,fun j j0 j1=>?_⟩,fun c2=>?_⟩
     · rw [hld (c+j) (by omega) (by omega)];exact w2 j j0 j1
     · rcases c2 with c2 | c2
       · exact absurd ho c2
       · exact absurd c2 hq
 · have hout:∀ a∈objectsV h,c < a\/a+osz h a<=c:=fun a ha=>by
    have hne:c≠a:=fun e=>ho (e ▸ ha)
    have:=starts_apart G hcs (obj_start.1 ha).1 hne
    omega
   have hw:wordAt (endH x) c=wordAt h c:=by
    rw [word_load h4,word_load h4,hld c (by omega) (by omega),f1 c (fun a ha _=>hout a ha),C.ot c hout fun k2 y hy hk2=>?_]
    refine Decidable.by_contra fun z=>?_
    have:=bs_uniq (h:=h) (p:=c) (by omega) (k:=k2) (k':=k) (by omega) (by omega) (by omega) (by omega)
    subst this
    rw [hg] at hy;injection hy with hy;subst hy;omega
   exact ⟨by rw [hw];exact d1,by rw [hw];exact d2.symm,fun c2=>absurd c2 ho,fun _=>hw⟩
theorem end_layout {h:Hp} {x:Wk} {os:List Int} {D:Nat->Int->Prop} (G:Good h) (C:CI h x os D) :
 (∀ k:Nat,k < h.pages.length->pageE (endH x) k=0/\∀ c∈pageV (endH x) k,(c∈x.queue/\bs h k<=c/\c < bs h k+h.pw)\/∃ g0,h.pages[k]?=some g0/\g0.kind=1/\0 < g0.pins/\c∈pageV h k/\¬c∈x.queue) /\
 (∀ (k:Nat) (g0:Pg),h.pages[k]?=some g0->g0.kind=1->0 < g0.pins->pageV (endH x) k=pageV h k) /\
 (∀ q∈x.queue,∃ k:Nat,k < h.pages.length/\q∈pageV (endH x) k):=by
 have I:=C.inv
 have hcf:=I.conf
 have ok:=end_ok G C
 obtain ⟨s1,s2,s3,s4,s5,s6⟩:=end_same I
 have p7:=(okH_parts I.ok).2.2.2.2.2.2
 have hq0:∀ q∈x.queue,4096<=q/\wordAt (endH x) q=(evWd x q).toNat:=fun q hq=>by
  have hb:=I.queue_bd hq
  refine ⟨hb.1,?_⟩
  obtain ⟨t,ht,e⟩:=List.mem_iff_getElem.1 hq
  have hlen:=C.len
  have hqq:x.queue[t]?=some q:=by rw [List.getElem?_eq_getElem ht,e]
  obtain ⟨z1,-,-,-⟩:=C.size (List.getElem?_eq_getElem (show t < os.length by omega)) hqq
  have hos:=C.oin _ (List.getElem_mem (show t < os.length by omega))
  obtain ⟨i,j,g,b⟩:=objects_begin hos
  have:=queue_words G C hq (j:=0) (by omega) (by rw [z1];have:=b.pos;omega)
  rw [Int.add_zero] at this
  rw [word_load hb.1,this];rfl
 have hqd:∀ q∈x.queue,okD (wordAt (endH x) q)=true/\(dN (wordAt (endH x) q):Int)+1=evN x q:=fun q hq=>by
  obtain ⟨t,ht,e⟩:=List.mem_iff_getElem.1 hq
  have hlen:=C.len
  have hqq:x.queue[t]?=some q:=by rw [List.getElem?_eq_getElem ht,e]
  obtain ⟨-,-,z3,-⟩:=C.size (List.getElem?_eq_getElem (show t < os.length by omega)) hqq
  rw [(hq0 q hq).2]
  exact ⟨z3,by rw [(evN_ok z3).1]⟩
 have hbk:∀ k:Nat,4096+(k:Int)*(endH x).pw=bs h k:=fun k=>by rw [s1];rfl
 have htaken:∀ (k:Nat),(k:Int)∈x.taken->∃ l,pageE (endH x) k=0/\pageV (endH x) k=l/\∀ q,q∈l↔q∈x.queue/\bs h k<=q/\q < bs h k+h.pw:=fun k ht=>by
  obtain ⟨k2,g1,g,e0,e1,-⟩:=I.tk _ ht
  obtain rfl:k=k2:=by omega
  obtain ⟨-,-,u,e,e',u0,u1⟩:=(end_pages G C e1).tk ht
  obtain ⟨u',l,t1,t2,t3⟩:=C.tile k ht
  rw [e'] at t1;injection t1 with t1;injection t1 with _ _ t1 _
  subst t1
  obtain ⟨r1,r2⟩:=small_page ok e rfl u0 (by rw [s1];exact u1) (sz:=evN x) (l:=l) (by rw [hbk];exact t2) fun q hq=>by
   obtain ⟨z1,z2⟩:=hqd q ((t3 q).1 hq).1
   exact ⟨z1,by omega⟩
  exact ⟨l,r1,r2,t3⟩
 have hpinned:∀ (k:Nat) (g0:Pg),h.pages[k]?=some g0->g0.kind=1->0 < g0.pins->pageE (endH x) k=0/\pageV (endH x) k=pageV h k:=fun k g0 hg h1 hp=>by
  have hkl:=(List.getElem?_eq_some_iff.1 hg).1
  obtain ⟨t1,t2,t3,t4⟩:=small_tile G.ok hg h1 (G.pg k hkl)
  refine small_page ok ((end_pages G C hg).k1 h1 hp).2 rfl t1 (by rw [s1];exact t2) (sz:=osz h) (by rw [hbk];exact t3) fun c hc=>?_
  obtain ⟨w1,w2,-⟩:=pinned_word G C hg h1 hp hc
  exact ⟨w1,w2.symm⟩
 have hlarge:∀ (k:Nat) (g0:Pg),h.pages[k]?=some g0->g0.kind=2->bs h k∈x.queue->pageE (endH x) k=0/\pageV (endH x) k=[bs h k]:=fun k g0 hg h2 hq=>by
  have hkl:=(List.getElem?_eq_some_iff.1 hg).1
  obtain ⟨t1,t2,t3,t4⟩:=large_one G.ok hg h2 (G.pg k hkl)
  have hob:bs h k∈objectsV h:=by
   rcases I.qs _ hq with c | c
   · exact c
   · exfalso
     obtain ⟨k3,g3,d1,d2,d3,d4,d5,d6,d7⟩:=I.copy c
     have:=bs_uniq (h:=h) (p:=bs h k) (by omega) (k:=k) (k':=k3) (by omega) (by omega) (by have e3:bs h k3=4096+(k3:Int)*h.pw:=rfl;omega) (by have e3:bs h k3=4096+(k3:Int)*h.pw:=rfl;omega)
     subst this
     rw [hg] at d1;injection d1 with d1;subst d1;omega
  have hw:wordAt (endH x) (bs h k)=wordAt h (bs h k):=by
   rw [(hq0 _ hq).2,I.kept hob hq,word_load (hq0 _ hq).1]
  obtain ⟨r1,r2,-⟩:=large_page ok ((end_pages G C hg).k2 h2 hq).2 rfl (by rw [hbk,hw];exact t2) (by rw [hbk,hw];exact t3)
  exact ⟨r1,by rw [r2,hbk]⟩
 refine ⟨fun k hk=>?_,fun k g0 hg h1 hp=>(hpinned k g0 hg h1 hp).2,fun q hq=>?_⟩
 · have hg:h.pages[k]?=some h.pages[k]:=List.getElem?_eq_getElem hk
   generalize h.pages[k]=g0 at hg
   have E:=end_pages G C hg
   rcases (properL_mem _ _ _ _ p7 g0 (List.mem_of_getElem? hg)).2.2.2.2.2.2.2.2 with c | c | c | c
   · by_cases ht:(k:Int)∈x.taken
     · obtain ⟨l,r1,r2,r3⟩:=htaken k ht
       exact ⟨r1,fun q hq=>.inl ((r3 q).1 (by rw [<-r2];exact hq))⟩
     · obtain ⟨r1,r2⟩:=none_page ok (E.k0 ht c).2 (.inl c)
       exact ⟨r1,fun q hq=>by rw [r2] at hq;cases hq⟩
   · by_cases hp:0 < g0.pins
     · obtain ⟨r1,r2⟩:=hpinned k g0 hg c hp
       refine ⟨r1,fun q hq=>?_⟩
       rw [r2] at hq
       by_cases hqq:q∈x.queue
       · left
         obtain ⟨t1,t2,t3,t4⟩:=small_tile G.ok hg c (G.pg k hk)
         have:=tile_mem t3 q hq
         refine ⟨hqq,?_⟩
         unfold bs;omega
       · exact .inr ⟨g0,hg,c,hp,hq,hqq⟩
     · obtain ⟨r1,r2⟩:=none_page ok (E.k1' c hp).2 (.inl rfl)
       exact ⟨r1,fun q hq=>by rw [r2] at hq;cases hq⟩
   · by_cases hq:bs h k∈x.queue
     · obtain ⟨r1,r2⟩:=hlarge k g0 hg c hq
       refine ⟨r1,fun q hq2=>?_⟩
       rw [r2] at hq2
       rw [List.mem_singleton.1 hq2]
       exact .inl ⟨hq,by omega,by omega⟩
     · obtain ⟨r1,r2⟩:=none_page ok (E.k2' c hq).2 (.inl rfl)
       exact ⟨r1,fun q hq=>by rw [r2] at hq;cases hq⟩
   · by_cases hq:bs h (headAt h.pages k)∈x.queue
     · obtain ⟨r1,r2⟩:=none_page ok (E.k3 c hq).2 (.inr rfl)
       exact ⟨r1,fun q hq=>by rw [r2] at hq;cases hq⟩
     · obtain ⟨r1,r2⟩:=none_page ok (E.k3' c hq).2 (.inl rfl)
       exact ⟨r1,fun q hq=>by rw [r2] at hq;cases hq⟩
 · rcases I.qs q hq with c | c
   · obtain ⟨i,j,g,b⟩:=objects_begin c
     rcases C.kp q hq c i j g b with k2 | ⟨k1,kp⟩
     · have hqb:q=bs h i:=by
        rcases b.kd with ⟨z,-⟩ | ⟨-,z,-⟩
        · omega
        · have:=b.ad;unfold bs;omega
       refine ⟨i,b.il,?_⟩
       rw [(hlarge i g b.pg k2 (by rw [<-hqb];exact hq)).2]
       exact List.mem_singleton.2 hqb
     · obtain ⟨k',hk',hx⟩:=(starts_mem G.ok G.pg).1 (obj_start.1 c).1
       obtain ⟨j',g',b'⟩:=page_begins G.ok hk' hx
       have:k'=i:=by have h1:=b.oi;have h2:=b'.oi;omega
       subst this
       exact ⟨k',hk',by rw [(hpinned k' g b.pg k1 kp).2];exact hx⟩
   · obtain ⟨k,g,d1,d2,d3,d4,d5⟩:=c
     obtain ⟨k3,y0,y3,l0,l1,l2,l3,l4,l5,l6⟩:=I.tk _ d1
     obtain rfl:k=k3:=by omega
     rw [d2] at l3;injection l3 with l3;subst l3
     rw [I.pw] at d3 d5
     obtain ⟨l,r1,r2,r3⟩:=htaken k d1
     have:=(evN_ok d4).1
     refine ⟨k,(List.getElem?_eq_some_iff.1 l1).1,?_⟩
     rw [r2]
     exact (r3 q).2 ⟨hq,by unfold bs;omega,by unfold bs;omega⟩
theorem good_end {h:Hp} {x:Wk} {os:List Int} (G:Good h) (C:CI h x os (fun t _=>t < os.length)) :
 Good (endH x)/\(∀ c,c∈objectsV (endH x)↔c∈x.queue)/\(∀ (i:Nat) (o q:Int),os[i]?=some o->x.queue[i]?=some q->atH (endH x) q=atH h o/\∀ j,0<=j->j < (atH h o).n->loadV (endH x).words (q+1+j)=loadV x.h.words (q+1+j)):=by
 have I:=C.inv
 have hcf:=I.conf
 have ok:=end_ok G C
 obtain ⟨s1,s2,s3,s4,s5,s6⟩:=end_same I
 have p7:=(okH_parts I.ok).2.2.2.2.2.2
 have hc:=(okH_parts I.ok).1
 obtain ⟨l1,l2,l3⟩:=end_layout G C
 have hlen:=C.len
 have hidx:∀ q∈x.queue,∃ (i:Nat) (o:Int),os[i]?=some o/\x.queue[i]?=some q:=fun q hq=>by
  obtain ⟨t,ht,e⟩:=List.mem_iff_getElem.1 hq
  exact ⟨t,os[t],List.getElem?_eq_getElem (by omega),by rw [List.getElem?_eq_getElem ht,e]⟩
 have hpe:∀ k:Nat,k < (endH x).pages.length->pageE (endH x) k=0:=fun k hk=>(l1 k (by omega)).1
 have hst:∀ c,c∈startsV (endH x)↔∃ k:Nat,k < h.pages.length/\c∈pageV (endH x) k:=fun c=>by rw [starts_mem ok hpe,s4]
 have hat:∀ (i:Nat) (o q:Int),os[i]?=some o->x.queue[i]?=some q->atH (endH x) q=atH h o:=fun i o q h1 h2=>by
  have hqm:=List.mem_of_getElem? h2
  have hob:=C.oin o (List.mem_of_getElem? h1)
  obtain ⟨z1,z2,z3,z4⟩:=C.size h1 h2
  have e1:=startsV_at ((hst q).2 (l3 q hqm))
  obtain ⟨i5,j5,g5,b5⟩:=begins e1
  obtain ⟨i6,j6,g6,b6⟩:=objects_begin hob
  have hb:=I.queue_bd hqm
  have hw:=queue_words G C hqm (j:=0) (by omega) (by rw [z1];have:=b6.pos;omega)
  rw [Int.add_zero] at hw
  have:wordAt (endH x) q=wordAt h o:=by rw [word_load hb.1,hw];exact z4
  rw [b5.hd,b6.hd,this]
 have hpin:∀ (k:Nat) (g0:Pg),h.pages[k]?=some g0->g0.kind=1->0 < g0.pins->∀ c∈pageV h k,(c∈objectsV h->¬c∈x.queue->(atH (endH x) c).k=0/\(atH (endH x) c).n=(atH h c).n/\∀ j,1<=j->j < osz h c->loadV (endH x).words (c+j)=0)/\((¬c∈objectsV h\/c∈x.queue)->atH (endH x) c=atH h c):=fun k g0 hg h1 hp c hcm=>by
  have hkl:=(List.getElem?_eq_some_iff.1 hg).1
  obtain ⟨w1,w2,w3,w4⟩:=pinned_word G C hg h1 hp hcm
  have e1:atE (endH x) c=0:=pageV_at (h:=endH x) (i:=(k:Int)) (by rw [l2 k g0 hg h1 hp];exact hcm)
  obtain ⟨i5,j5,g5,b5⟩:=begins e1
  obtain ⟨i6,j6,g6,b6⟩:=begins (pageV_at hcm)
  refine ⟨fun c1 c2=>?_,fun c1=>by rw [b5.hd,b6.hd,w4 c1]⟩
  obtain ⟨v1,v2⟩:=w3 c1 c2
  refine ⟨?_,?_,v2⟩
  · rw [b5.hd];show (dK (wordAt (endH x) c):Int)=0;omega
  · rw [b5.hd]
    show (dN (wordAt (endH x) c):Int)=(atH h c).n
    unfold osz at w2;omega
 have hob:∀ c,c∈objectsV (endH x)↔c∈x.queue:=fun c=>by
  rw [obj_start,hst]
  constructor
  · rintro ⟨⟨k,hk,hcm⟩,hk0⟩
    rcases (l1 k hk).2 c hcm with q | ⟨g0,hg,h1,hp,hcv,hnq⟩
    · exact q.1
    · exfalso
      obtain ⟨v1,v2⟩:=hpin k g0 hg h1 hp c hcv
      by_cases ho:c∈objectsV h
      · exact hk0 (v1 ho hnq).1
      · rw [v2 (.inl ho)] at hk0
        exact ho (obj_start.2 ⟨(starts_mem G.ok G.pg).2 ⟨k,hk,hcv⟩,hk0⟩)
  · intro hq
    obtain ⟨i,o,h1,h2⟩:=hidx c hq
    refine ⟨l3 c hq,?_⟩
    rw [hat i o c h1 h2]
    exact (objectsV_at (C.oin o (List.mem_of_getElem? h1))).2
 have hfw:∀ (i:Nat) (o q:Int),os[i]?=some o->x.queue[i]?=some q->∀ j,0<=j->j < (atH h o).n->loadV (endH x).words (q+1+j)=loadV x.h.words (q+1+j):=fun i o q h1 h2 j j0 j1=>by
  obtain ⟨z1,-,-,-⟩:=C.size h1 h2
  have:=queue_words G C (List.mem_of_getElem? h2) (j:=j+1) (by omega) (by rw [z1];unfold osz;omega)
  rwa [show q+(j+1)=q+1+j from by omega] at this
 have hback:∀ (k:Nat) (y:Pg),(endH x).pages[k]?=some y->∃ g0,h.pages[k]?=some g0:=fun k y hy=>by
  have:=(List.getElem?_eq_some_iff.1 hy).1
  exact ⟨h.pages[k],List.getElem?_eq_getElem (by omega)⟩
 refine ⟨⟨ok,fun k y hy=>?_,hpe,fun k y hy c hcm=>?_,fun p p0 p1=>?_,fun a ha i hi=>?_,?_⟩,hob,fun i o q h1 h2=>⟨hat i o q h1 h2,hfw i o q h1 h2⟩⟩
 ·
  obtain ⟨g0,hg⟩:=hback k y hy
  have E:=end_pages G C hg
  rw [s3]
  rcases (properL_mem _ _ _ _ p7 g0 (List.mem_of_getElem? hg)).2.2.2.2.2.2.2.2 with c | c | c | c
  · by_cases ht:(k:Int)∈x.taken
    · obtain ⟨-,-,u,e,-⟩:=E.tk ht
      rw [e] at hy;injection hy with hy;subst hy;exact .inr rfl
    · rw [(E.k0 ht c).2] at hy;injection hy with hy;subst hy;exact .inl c
  · by_cases hp:0 < g0.pins
    · rw [(E.k1 c hp).2] at hy;injection hy with hy;subst hy;exact .inr rfl
    · rw [(E.k1' c hp).2] at hy;injection hy with hy;subst hy;exact .inl rfl
  · by_cases hq:bs h k∈x.queue
    · rw [(E.k2 c hq).2] at hy;injection hy with hy;subst hy;exact .inr rfl
    · rw [(E.k2' c hq).2] at hy;injection hy with hy;subst hy;exact .inl rfl
  · by_cases hq:bs h (headAt h.pages k)∈x.queue
    · rw [(E.k3 c hq).2] at hy;injection hy with hy;subst hy;exact .inr rfl
    · rw [(E.k3' c hq).2] at hy;injection hy with hy;subst hy;exact .inl rfl
 ·
  obtain ⟨g0,hg⟩:=hback k y hy
  have hk:=(List.getElem?_eq_some_iff.1 hg).1
  have E:=end_pages G C hg
  have hce:atE (endH x) c=0:=pageV_at hcm
  rw [s1,s2]
  rcases (l1 k hk).2 c hcm with ⟨hq,hr1,hr2⟩ | ⟨g1,hg1,h1,hp,hcv,hnq⟩
  · obtain ⟨i,o,i1,i2⟩:=hidx c hq
    have hoo:=C.oin o (List.mem_of_getElem? i1)
    obtain ⟨i6,j6,g6,b6⟩:=objects_begin hoo
    have hocl:∀ (kk:Nat) (gg:Pg),h.pages[kk]?=some gg->o∈pageV h kk->(gg.kind=1->sizeV (atH h o).k (atH h o).n (atH h o).m<=smallV h.pw h.np):=fun kk gg hgg hom=>(G.cls kk gg hgg o hom).1
    rw [hat i o c i1 i2]
    refine ⟨fun hy1=>?_,fun _=>(objectsV_at hoo).2⟩
    obtain ⟨k',hk',hom⟩:=(starts_mem G.ok G.pg).1 (obj_start.1 hoo).1
    obtain ⟨j',g',b'⟩:=page_begins G.ok hk' hom
    refine hocl k' g' b'.pg hom ?_
    rcases C.plc i o c i1 i2 with e | ⟨-,-,-,e⟩
    · subst e
      have:k'=k:=bs_uniq (h:=h) (by omega) (obj_on b').1 (obj_on b').2 hr1 hr2
      subst this
      have hgg:g'=g0:=by have:=b'.pg;rw [hg] at this;injection this with this;exact this.symm
      subst hgg
      rcases b'.kd with ⟨z,-⟩ | ⟨z,-⟩
      · exact z
      · exfalso
        by_cases hqq:bs h k'∈x.queue
        · rw [(E.k2 z hqq).2] at hy;injection hy with hy;subst hy;cases hy1
        · rw [(E.k2' z hqq).2] at hy;injection hy with hy;subst hy;cases hy1
    · exact e _ _ _ b'
  · rw [hg] at hg1;injection hg1 with hg1;subst hg1
    obtain ⟨v1,v2⟩:=hpin k g0 hg h1 hp c hcv
    have hcl:=(G.cls k g0 hg c hcv).1 h1
    refine ⟨fun _=>?_,fun hy2=>?_⟩
    · by_cases ho:c∈objectsV h
      · obtain ⟨w1,w2,-⟩:=v1 ho hnq
        have hvv:=(at_in hce).2.1
        rw [size_ok hvv,w2]
        rw [size_ok (at_in (pageV_at hcv)).2.1] at hcl
        exact hcl
      · rw [v2 (.inl ho)];exact hcl
    · rw [(E.k1 h1 hp).2] at hy;injection hy with hy;subst hy;cases hy2
 ·
  rw [s1,s2] at p1
  obtain ⟨k,t,e,hk,ht⟩:=page_split hc p0 p1
  have hkl:k < h.pages.length:=by omega
  have hb1:bs h k<=p:=by unfold bs;omega
  have hb2:p < bs h k+h.pw:=by unfold bs;omega
  have hg:h.pages[k]?=some h.pages[k]:=List.getElem?_eq_getElem hkl
  generalize h.pages[k]=g0 at hg
  have E:=end_pages G C hg
  have hW:=end_words C hkl hb1 hb2
  obtain ⟨f1,f2⟩:=fill_facts C
  have gen:frB (fillW x) k=false->¬g0.kind=0->(∀ c∈objectsV h,c<=p->p < c+osz h c->¬c∈x.queue->∃ (kc:Nat) (gc:Pg),h.pages[kc]?=some gc/\gc.kind=1/\0 < gc.pins/\c∈pageV h kc)->(∀ c∈pageV h k,¬c∈objectsV h->g0.kind=1/\0 < g0.pins) ->
   (∃ c∈startsV (endH x),c<=p/\p < c+usedZ (endH x) c)\/loadV (endH x).words p=0:=fun hnf hk0 hgo hfil=>by
   by_cases hobj:∃ c∈objectsV h,c<=p/\p < c+osz h c
   · obtain ⟨c,hco,c1,c2⟩:=hobj
     by_cases hq:c∈x.queue
     · left
       refine ⟨c,(hst c).2 (l3 c hq),c1,?_⟩
       obtain ⟨i,o,i1,i2⟩:=hidx c hq
       have ha:=hat i o c i1 i2
       have hok1:=(obj_start.1 ((hob c).2 hq)).2
       have hv:=(at_in (startsV_at ((hst c).2 (l3 c hq)))).2.1
       have hn:(atH (endH x) c).n+1=osz h c:=by
        obtain ⟨z1,-,-,-⟩:=C.size i1 i2
        rw [(old_ev hco (I.kept hco hq)).2.1] at z1
        rw [ha,z1];rfl
       unfold usedZ
       rw [if_neg hok1,size_ok hv,hn];exact c2
     · obtain ⟨kc,gc,hgc,g1,g2,hcv⟩:=hgo c hco c1 c2 hq
       obtain ⟨v1,v2,v3⟩:=(hpin kc gc hgc g1 g2 c hcv).1 hco hq
       by_cases ep:p=c
       · left
         refine ⟨c,(hst c).2 ⟨kc,(List.getElem?_eq_some_iff.1 hgc).1,by rw [l2 kc gc hgc g1 g2];exact hcv⟩,c1,?_⟩
         unfold usedZ
         rw [if_pos v1];omega
       · right
         have:=v3 (p - c) (by omega) (by omega)
         rwa [show c+(p - c)=p from by omega] at this
   · have hno:∀ a∈objectsV h,p < a\/a+osz h a<=p:=fun a ha=>by
      refine Decidable.by_contra fun z=>hobj ⟨a,ha,by omega,by omega⟩
     have hx:loadV (endH x).words p=loadV h.words p:=by
      rw [hW,hnf]
      show loadV (fillW x).h.words p=_
      rw [f1 p (fun a ha _=>hno a ha),C.ot p hno fun k2 y hy hk2=>?_]
      refine Decidable.by_contra fun z=>?_
      have:=bs_uniq (h:=h) (p:=p) (by omega) (k:=k2) (k':=k) (by omega) (by omega) hb1 hb2
      subst this
      rw [hg] at hy;injection hy with hy;subst hy;exact hk0 hk2
     rcases G.zero p p0 (by omega) with ⟨c,hcs,c1,c2⟩ | e0
     · left
       have hcn:¬c∈objectsV h:=fun ho=>by
        have hz:=usedZ_osz (startsV_at hcs)
        have:=hno c ho
        omega
       have hck:(atH h c).k=0:=Decidable.by_contra fun z=>hcn (obj_start.2 ⟨hcs,z⟩)
       have hpc:p=c:=by unfold usedZ at c2;rw [if_pos hck] at c2;omega
       obtain ⟨k',hk',hcv⟩:=(starts_mem G.ok G.pg).1 hcs
       obtain ⟨j',g',b'⟩:=page_begins G.ok hk' hcv
       have:k'=k:=bs_uniq (h:=h) (by omega) (obj_on b').1 (obj_on b').2 (by omega) (by omega)
       subst this
       obtain ⟨g1,g2⟩:=hfil c hcv hcn
       refine ⟨c,(hst c).2 ⟨k',hk',by rw [l2 k' g0 hg g1 g2];exact hcv⟩,c1,?_⟩
       unfold usedZ
       rw [(hpin k' g0 hg g1 g2 c hcv).2 (.inl hcn),if_pos hck];omega
     · right;rw [hx];exact e0
  rcases (properL_mem _ _ _ _ p7 g0 (List.mem_of_getElem? hg)).2.2.2.2.2.2.2.2 with c | c | c | c
  · have hxz:(¬(k:Int)∈x.taken\/∃ g,x.h.pages[k]?=some g/\bs h k+g.used<=p)->loadV (endH x).words p=0:=fun hz=>by
     rw [hW]
     split
     · rfl
     · rw [f1 p fun a ha _=>?_]
       · exact C.fr k g0 p hg c hb1 hb2 hz
       · obtain ⟨i3,j3,g3,b3⟩:=objects_begin ha
         have:=begins_free b3 hg c
         unfold bs at hb1 hb2
         omega
    by_cases ht:(k:Int)∈x.taken
    · obtain ⟨u,l,t1,t2,t3⟩:=C.tile k ht
      by_cases hu:bs h k+u<=p
      · exact .inr (hxz (.inr ⟨_,t1,hu⟩))
      · left
        obtain ⟨q,hq,q1,q2⟩:=tile_cover t2 hb1 (by omega)
        have hqq:=((t3 q).1 hq).1
        refine ⟨q,(hst q).2 (l3 q hqq),q1,?_⟩
        obtain ⟨i,o,i1,i2⟩:=hidx q hqq
        have hv:=(at_in (startsV_at ((hst q).2 (l3 q hqq)))).2.1
        unfold usedZ
        rw [if_neg (obj_start.1 ((hob q).2 hqq)).2,size_ok hv,hat i o q i1 i2]
        obtain ⟨z1,-,-,-⟩:=C.size i1 i2
        rw [z1] at q2
        exact q2
    · exact .inr (hxz (.inl ht))
  · by_cases hp:0 < g0.pins
    · refine gen (E.k1 c hp).1 (by omega) (fun a ha a1 a2 _=>?_) fun a _ _=>⟨c,hp⟩
      obtain ⟨k',hk',hav⟩:=(starts_mem G.ok G.pg).1 (obj_start.1 ha).1
      obtain ⟨j',g',b'⟩:=page_begins G.ok hk' hav
      have hon:=obj_on b'
      obtain ⟨u1,u2,u3,u4⟩:=b'.upto
      have hkk:k'=k:=by
       have hlo:¬k < k':=fun z=>by have:=bs_lt (h:=h) (by omega) z;omega
       refine Decidable.by_contra fun z=>?_
       have hlt:k' < k:=by omega
       have hhi:(k:Int) < k'+pspan h g':=by
        refine Decidable.by_contra fun z2=>?_
        have:((k':Int)+pspan h g')*h.pw<=(k:Int)*h.pw:=Int.mul_le_mul_of_nonneg_right (by omega) (by omega)
        unfold bs at hb1;omega
       obtain ⟨y,y1,y2⟩:=u4 k hlt hhi
       rw [hg] at y1;injection y1 with y1;subst y1;omega
      subst hkk
      exact ⟨k',g0,hg,c,hp,hav⟩
    · right;rw [hW,(E.k1' c hp).1];rfl
  · by_cases hq:bs h k∈x.queue
    · refine gen (E.k2 c hq).1 (by omega) (fun a ha a1 a2 hnq=>?_) fun a hav hno=>?_
      · exfalso
        obtain ⟨t1,t2,t3,t4⟩:=large_one G.ok hg c (G.pg k hkl)
        obtain ⟨k',hk',hav⟩:=(starts_mem G.ok G.pg).1 (obj_start.1 ha).1
        obtain ⟨j',g',b'⟩:=page_begins G.ok hk' hav
        have hon:=obj_on b'
        obtain ⟨u1,u2,u3,u4⟩:=b'.upto
        have hkk:k'=k:=by
         have hlo:¬k < k':=fun z=>by have:=bs_lt (h:=h) (by omega) z;omega
         refine Decidable.by_contra fun z=>?_
         have hlt:k' < k:=by omega
         have hhi:(k:Int) < k'+pspan h g':=by
          refine Decidable.by_contra fun z2=>?_
          have:((k':Int)+pspan h g')*h.pw<=(k:Int)*h.pw:=Int.mul_le_mul_of_nonneg_right (by omega) (by omega)
          unfold bs at hb1;omega
         obtain ⟨y,y1,y2⟩:=u4 k hlt hhi
         rw [hg] at y1;injection y1 with y1;subst y1;omega
        subst hkk
        rw [t1] at hav
        rw [List.mem_singleton.1 hav] at hnq
        exact hnq hq
      · exfalso
        exact hno (obj_start.2 ⟨(starts_mem G.ok G.pg).2 ⟨k,hkl,hav⟩,(G.cls k g0 hg a hav).2 c⟩)
    · right;rw [hW,(E.k2' c hq).1];rfl
  · by_cases hq:bs h (headAt h.pages k)∈x.queue
    · obtain ⟨r1,r2⟩:=none_page G.ok hg (.inr c)
      refine gen (E.k3 c hq).1 (by omega) (fun a ha a1 a2 hnq=>?_) fun a hav hno=>by rw [r2] at hav;cases hav
      exfalso
      obtain ⟨l,yl,l1',l2',l3',l4'⟩:=tail_head I.ok hg c
      rw [l2'] at hq
      obtain ⟨k',hk',hav⟩:=(starts_mem G.ok G.pg).1 (obj_start.1 ha).1
      obtain ⟨j',g',b'⟩:=page_begins G.ok hk' hav
      have hon:=obj_on b'
      obtain ⟨u1,u2,u3,u4⟩:=b'.upto
      have hkd:g'.kind=1\/g'.kind=2:=by rcases b'.kd with ⟨z,-⟩ | ⟨z,-⟩ <;> omega
      have hne:k'≠k:=fun z=>by subst z;have:=b'.pg;rw [hg] at this;injection this with this;subst this;omega
      have hlo:¬k < k':=fun z=>by have:=bs_lt (h:=h) (by omega) z;omega
      have hlt:k' < k:=by omega
      have hhi:(k:Int) < k'+pspan h g':=by
       refine Decidable.by_contra fun z2=>?_
       have:((k':Int)+pspan h g')*h.pw<=(k:Int)*h.pw:=Int.mul_le_mul_of_nonneg_right (by omega) (by omega)
       unfold bs at hb1;omega
      have hhd:headAt h.pages k=k':=by
       obtain ⟨d,rfl⟩:∃ d,k=k'+d:=⟨k - k',by omega⟩
       refine headAt_is (by rw [getD_at b'.pg];omega) d fun t2 w1 w2=>?_
       obtain ⟨y',y1',y2'⟩:=u4 t2 w1 (by omega)
       rw [getD_at y1'];exact y2'
      rw [hhd] at l2'
      subst l2'
      have hgg:g'=yl:=by have:=b'.pg;rw [l3'] at this;injection this with this;exact this.symm
      subst hgg
      have hab:a=bs h k':=by
       rcases b'.kd with ⟨z,-⟩ | ⟨-,z,-⟩
       · omega
       · have:=b'.ad;unfold bs;omega
      rw [<-hab] at hq
      exact hnq hq
    · right;rw [hW,(E.k3' c hq).1];rfl
 ·
  have hq:=(hob a).1 ha
  obtain ⟨t,o,i1,i2⟩:=hidx a hq
  rw [hat t o a i1 i2] at hi
  obtain ⟨-,z0,z1⟩:=ptr_lt hi
  rw [hfw t o a i1 i2 i z0 z1,hob]
  rcases (C.fl t o a i1 i2 i z0 z1).1 (List.getElem?_eq_some_iff.1 i1).1 hi with ⟨-,e⟩ | ⟨t2,-,e⟩
  · exact .inl e
  · exact .inr (List.mem_of_getElem? e)
 ·
  rw [s2]
  have:=crowd_le h.pages (endH x).pages s4.symm fun k a b ha hb hbk=>by
   have E:=end_pages G C ha
   rcases (properL_mem _ _ _ _ p7 a (List.mem_of_getElem? ha)).2.2.2.2.2.2.2.2 with c | c | c | c
   · by_cases ht:(k:Int)∈x.taken
     · obtain ⟨-,-,u,e,-⟩:=E.tk ht
       rw [e] at hb;injection hb with hb;subst hb;exact absurd hbk.2 (by show ¬(0:Int) < 0;decide)
     · rw [(E.k0 ht c).2] at hb;injection hb with hb;subst hb;omega
   · by_cases hp:0 < a.pins
     · exact ⟨c,hp⟩
     · rw [(E.k1' c hp).2] at hb;injection hb with hb;subst hb;exact absurd hbk.1 (by decide)
   · by_cases hq:bs h k∈x.queue
     · rw [(E.k2 c hq).2] at hb;injection hb with hb;subst hb;exact absurd hbk.1 (by show ¬(2:Int)=1;decide)
     · rw [(E.k2' c hq).2] at hb;injection hb with hb;subst hb;exact absurd hbk.1 (by decide)
   · by_cases hq:bs h (headAt h.pages k)∈x.queue
     · rw [(E.k3 c hq).2] at hb;injection hb with hb;subst hb;exact absurd hbk.1 (by show ¬(3:Int)=1;decide)
     · rw [(E.k3' c hq).2] at hb;injection hb with hb;subst hb;exact absurd hbk.1 (by decide)
  have:=G.crowd
  omega
theorem coll_facts {h:Hp} {st wk:List Int} (G:Good h) (hwb:WB h.words) (hst:∀ a∈st,a=0\/a∈objectsV h) (hE:collE h st wk=0):∃ os,CI h (collX h st wk) os (fun t _=>t < os.length)/\collH h st wk=endH (collX h st wk) /\
 (collS h st).length=st.length/\(∀ (i:Nat) (r w:Int),st[i]?=some r->(collS h st)[i]?=some w->Fw os (collX h st wk).queue r w):=by
 obtain ⟨e1,e2⟩:(collR h st).2.2=0/\(collA h st).2=0:=by
  unfold collE at hE
  rw [if_pos G.ok] at hE
  split at hE
  · by_cases c:(collR h st).2.2=0
    · rw [if_pos c] at hE;exact ⟨c,hE⟩
    · rw [if_neg c] at hE;exact absurd hE c
  · exact absurd hE (by decide)
 obtain ⟨os1,out,C1,r1,r2,r3,⟨m1,r4⟩,⟨m2,r5⟩,r6⟩:=CI_roots st (beginW h) [] [] (fun _ _=>False) (CI.begin G hwb) hst e1
 have C2:CI h (collR h st).1 os1 (fun t _=>t < 0):=C1.congr (fun i j d=>by omega) (fun i o _ j _=>⟨fun d=>d.elim,fun d=>by omega⟩)
 obtain ⟨os,C3,⟨m3,q1⟩,⟨m4,q2⟩⟩:=CI_all G ((objectsV h).length+1) (collR h st).1 0 os1 C2 (by show (rootsGo (beginW h) [] st).1.sc=_;rw [r6];rfl) (by omega) (by omega) e2
 refine ⟨os,⟨C3.inv.reports _ _ _ _ _ _ _,C3.len,C3.dl,C3.oin,C3.qnd,C3.seen,C3.plc,C3.hd,C3.fl,C3.un,C3.ot,C3.fr,C3.tile,C3.ppg,C3.kp,C3.wb⟩,rfl,?_,fun i r w h1 h2=>?_⟩
 · show (rootsGo (beginW h) [] st).2.1.length=_
   rw [r1];simpa using r2
 · have h2:(rootsGo (beginW h) [] st).2.1[i]?=some w:=h2
   rw [r1,List.nil_append] at h2
   exact (r3 i r w h1 h2).more ⟨_,q1⟩ ⟨_,q2⟩
theorem coll_good:CollGood:=by
 intro x G hE
 obtain ⟨os,C,eH,eL,eF⟩:=coll_facts G.good G.wb G.st hE
 obtain ⟨g1,g2,-⟩:=good_end G.good C
 have hq:∀ r w,Fw os (collX x.h x.st x.wk).queue r w->w=0\/w∈objectsV (collH x.h x.st x.wk):=fun r w hf=>by
  rw [eH,g2]
  rcases hf with ⟨-,e⟩ | ⟨t,-,e⟩
  · exact .inl e
  · exact .inr (List.mem_of_getElem? e)
 refine ⟨by show Good (collH x.h x.st x.wk);rw [eH];exact g1,?_,fun a ha=>?_,fun a ha=>?_⟩
 · show WB (collH x.h x.st x.wk).words
   exact frWs_wb _ (fill_wb _ _ C.wb) _
 · have ha:a∈collS x.h x.st:=ha
   obtain ⟨i,hi,e⟩:=List.mem_iff_getElem.1 ha
   exact hq _ a (eF i x.st[i] a (List.getElem?_eq_getElem (by omega)) (by rw [List.getElem?_eq_getElem hi,e]))
 · have ha:a∈x.wk.map (leftV (collA x.h x.st).1):=ha
   obtain ⟨r,hr,e⟩:=List.mem_map.1 ha
   rw [<-e]
   show leftV (collA x.h x.st).1 r=0\/leftV (collA x.h x.st).1 r∈objectsV (collH x.h x.st x.wk)
   unfold leftV
   by_cases c:r=0
   · rw [if_pos c];exact .inl rfl
   rw [if_neg c]
   have hro:=(G.wk r hr).resolve_left c
   rw [eH,g2]
   show afterV (collX x.h x.st x.wk) r=0\/afterV (collX x.h x.st x.wk) r∈_
   unfold afterV
   by_cases c1:r∈(collX x.h x.st x.wk).queue
   · rw [if_pos c1];exact .inr c1
   rw [if_neg c1]
   by_cases c2:okT (evWd (collX x.h x.st x.wk) r).toNat=true
   · have hin:=(C.seen r hro).2 (.inr c2)
     obtain ⟨t,ht,e2⟩:=List.mem_iff_getElem.1 hin
     have hlen:=C.len
     have hos:os[t]?=some r:=by rw [List.getElem?_eq_getElem ht,e2]
     have hqq:(collX x.h x.st x.wk).queue[t]?=some (collX x.h x.st x.wk).queue[t]:=List.getElem?_eq_getElem (by omega)
     rcases C.plc t r _ hos hqq with q | ⟨-,q,-⟩
     · exact absurd (by rw [<-q];exact List.getElem_mem _) c1
     · right;rw [q];exact List.getElem_mem _
   · left;exact tgt_no (by simpa using c2)
theorem made_gw (n:Nat) (x:Wd) (hm:Made n x) (hn:n<=400):GW x:=made_good coll_good n x hm hn
end Go.VI.P
