import Derived.Test.YtipjdbhocjpmdaaGreatQ01
import Derived.Test.YtipjdbhocjpmdaaGreatQ08
import Derived.Test.YtipjdbhocjpmdaaGreatQ13
import Derived.Test.YtipjdbhocjpmdaaGreatQ19
import Derived.Test.YtipjdbhocjpmdaaGreatQ23
import Derived.Test.YtipjdbhocjpmdaaGreatQ48
import Derived.Deep.DeepCutAuto
import Derived.Maps.RangeWalk
set_option linter.unusedSimpArgs false
set_option linter.unusedVariables false
set_option maxRecDepth 100000
set_option maxHeartbeats 12800000
namespace Go.Proofs.YtipjdbhocjpmdaaGreat
open Go.RowKit
theorem next_big (tb:Nat) (lp:Option Addr) (ln lc:Nat) (xs:List Int) (j:Nat) (nn:Int) (w:World) (h:Tp w tb lp ln lc xs j) (hj:j<=100000) (hnn:nn<=2000000) :
 Calls Tryz.prog 45 #[.pointer (some ⟨tb,0,none⟩),.int .i64 nn] w fun e w'=>NextP tb lp ln lc xs j nn w e w':=by
 have c0:=h.own.cell 0 _ rfl
 have c1:=h.own.cell 1 _ rfl
 have f1:=h.own.free 1
 have hl:=h.row.i63.2
 have H:=qq h
 by_cases h0:nn < 1
 · clear h
   go_enter Tryz.func45,Tryz.ntmps45
   go_wp2
   go_ret
   exact ⟨0,rfl,Int.le_refl _,fun _=>rfl,fun h=>by omega,⟨j,Nat.le_refl _,by omega,fun h=>by omega,H.out⟩,But.refl _ _⟩
 · have h1:1<=nn:=by omega
   have hne:nn≠0:=by omega
   have e1:IntKind.i64.wrap ((j:Int)*7)=(j:Int)*7:=IntWalk.i64_in _ (by omega)
   have e2:IntKind.i64.wrap ((j:Int)*7+3)=(j:Int)*7+3:=IntWalk.i64_in _ (by omega)
   have e3:IntKind.i64.wrap ((j:Int)+1)=((j+1:Nat):Int):=by rw [IntWalk.i64_in _ (by omega)];rfl
   by_cases hlt:j < ln
   · obtain ⟨V,b,off,hx,rfl,d0⟩:=h.row.at_ hlt
     obtain ⟨t1,t2,t3,t4⟩:=yc7 (v:=V) h1
     obtain ⟨r,hr⟩:∃ r,V.tmod nn=r:=⟨_,rfl⟩
     rw [hr] at t1 t2 t3 t4
     obtain ⟨z,hz⟩:∃ z,(r+nn).tmod nn=z:=⟨_,rfl⟩
     rw [hz] at t1 t2
     have e4:IntKind.i64.wrap (r+nn)=r+nn:=IntWalk.i64_in _ (by omega)
     clear h hx
     have hlt2:(j:Int) < ln:=by omega
     go_enter Tryz.func45,Tryz.ntmps45
     go_wp2
     go_quiet (fail)
     go_wp2
     go_quiet (fail)
     go_wp2
     go_ret
     refine ⟨z,rfl,t1,fun h=>by omega,fun _=>t2,⟨j+1,by omega,Nat.le_refl _,fun _=>rfl,?_⟩,?_⟩
     · exact Tp.next (H.out.keep (below_drewN (Below.refl _ _) _)) (j+1)
     · exact But.set (But.of _ (below_drewN (Below.refl _ _) _)) 1 _
   · obtain ⟨V,hV⟩:∃ V:Int,(j:Int)*7+3=V:=⟨_,rfl⟩
     rw [hV] at e2
     obtain ⟨t1,t2,t3,t4⟩:=yc7 (v:=V) h1
     obtain ⟨r,hr⟩:∃ r,V.tmod nn=r:=⟨_,rfl⟩
     rw [hr] at t1 t2 t3 t4
     obtain ⟨z,hz⟩:∃ z,(r+nn).tmod nn=z:=⟨_,rfl⟩
     rw [hz] at t1 t2
     have e4:IntKind.i64.wrap (r+nn)=r+nn:=IntWalk.i64_in _ (by omega)
     clear h
     have hlt2:¬(j:Int) < ln:=by omega
     go_enter Tryz.func45,Tryz.ntmps45
     go_wp2
     go_quiet (fail)
     go_wp2
     go_ret
     refine ⟨z,rfl,t1,fun h=>by omega,fun _=>t2,⟨j+1,by omega,Nat.le_refl _,fun _=>rfl,?_⟩,?_⟩
     · exact Tp.next (H.out.keep (below_drewN (Below.refl _ _) _)) (j+1)
     · exact But.set (But.of _ (below_drewN (Below.refl _ _) _)) 1 _
theorem zz5 {P:Program} {ops:Array Oper} {rest:List Oper} {op:Oper} {a:Act} {w:World} {Q:Exit->Act->World->Prop} (hgd:op.guard=none) (T:TypeId) (x y:Operand) (ho:op.op = .store T x y) (b:Nat) (hx:a.eval x = .pointer (some ⟨b,0,none⟩)) (vs ys zs:List Value) (hy:a.eval y = .agg vs.toArray) (h:OwnL w b (ys ++ zs)) (hl:ys.length=vs.length) (h1:vs.all (·.oneCell')=true) (hT:(P.info? T).map (·.size)=some vs.length)
 (hK:∀ w',OwnL w' b (vs ++ zs)->But b w w'->Hid (w'=w.setCells b 0 vs)->wpList P ops Q rest (a.put op.dst undef) w'):wpList P ops Q (op :: rest) a w :=
 wpList_store_mid hgd T x y ho b 0 vs.toArray hx hy (h.isThere (by simp;omega)) (by simpa using hT) (by simpa using h1) (hK _ (by rw [zb7];exact yc1 vs [] ys zs w h hl) (But.setCells vs 0) (qq rfl))
theorem zn7 {st wk:List Int} (h1:WB st) (h2:WB wk) {a:Int} (h:a∈0 :: (st ++ wk)):0<=a/\a < 18446744073709551616:=by
 simp only [List.mem_cons,List.mem_append] at h
 rcases h with rfl | h | h
 · exact ⟨by omega,by omega⟩
 · exact h1 _ h
 · exact h2 _ h
def RetSet (H:Hp) (ps:List Pg) (q:Option Addr) (e:Ending) (w':World):Prop:=∃ p' n' c' q' m' d' er,e = .returned (.tuple #[.agg #[.int .i64 H.pw,.int .i64 H.np,.slice p' n' c',.slice q' m' d',.int .i64 H.space,.int .i64 H.bump],.int .i64 er])/\SRow w' .u64 p' n' c' H.words/\PRow w' q' m' d' H.pages/\WB H.words/\(H.pages≠[]->q'=q/\ps≠[])
theorem yd1 (h:Hp) (p q:Option Addr) (n c m d:Nat) (a i v:Int) (w:World) (hs:SRow w .u64 p n c h.words) (hr:PRow w q m d h.pages) (hw:WB h.words) (ha:0<=a) (ha2:a < 18446744073709551616) (hv:0<=v) (hv2:v < 18446744073709551616) :
 Calls Tryz.prog 38 #[.agg #[.int .i64 h.pw,.int .i64 h.np,.slice p n c,.slice q m d,.int .i64 h.space,.int .i64 h.bump],.int .u64 a,.int .i64 i,.int .u64 v] w fun e w'=>RetSet (setV h a i v) h.pages q e w'/\Below w.heap.size w w':=by
 by_cases he:zo8 h a i=0
 · refine (setField_ok h p q n c m d a i v w hs hr hw ha ha2 he).mono ?_
   rintro e w' ⟨⟨p',n',c',rfl,hr'⟩,hb⟩
   have e1:setV h a i v={ h with words:=zc8 h.words (a+1+i) [v] }:=by unfold setV;exact if_pos he
   refine ⟨⟨p',n',c',q,m,d,0,rfl,hr',?_,?_,?_⟩,hb⟩
   · rw [e1];exact PRow.keep hr hb
   · rw [e1];exact zt1 hw (fun y hy=>by simp at hy;subst hy;exact ⟨hv,hv2⟩)
   · rw [e1];exact fun hne=>⟨rfl,hne⟩
 · refine (setField_bad h p q n c m d a i v w hs hr hw ha ha2 he).mono ?_
   rintro e w' ⟨he',hb⟩
   have e1:setV h a i v=Hp.zero:=by unfold setV;exact if_neg he
   rw [e1]
   refine ⟨⟨none,0,0,none,0,0,zo8 h a i,he',SRow.nil _ _ _,PRow.nil _ _,WB.nil,fun hne=>absurd rfl hne⟩,hb⟩
theorem link_any (tb:Nat) (lp:Option Addr) (ln lc:Nat) (xs:List Int) (j:Nat) (x:Wd) (p q ps pk:Option Addr) (n c m d ns cs nk ck:Nat) (w:World) (ht:Tp w tb lp ln lc xs j) (hj:j<=80000) (hx:WW w x p q ps pk n c m d ns cs nk ck) (hsb:WB x.st) (hkb:WB x.wk) (hns:ns<=10000) (hnk:nk<=10000) :
 Calls Tryz.prog 85 #[(.agg #[.int .i64 x.h.pw,.int .i64 x.h.np,.slice p n c,.slice q m d,.int .i64 x.h.space,.int .i64 x.h.bump,.slice ps ns cs,.slice pk nk ck]),.pointer (some ⟨tb,0,none⟩)] w fun e w'=>(∃ v y,e = .returned v/\MStep x y/\WdV w' v y)/\(∃ j',j<=j'/\j'<=j+4/\Tp w' tb lp ln lc xs j')/\But tb w w':=by
 have htb:=ht.lt
 obtain ⟨w1,hw1,hbx⟩:=boxes2x w 31 [.int .i64 x.h.pw,.int .i64 x.h.np,.slice p n c,.slice q m d,.int .i64 x.h.space,.int .i64 x.h.bump,.slice ps ns cs,.slice pk nk ck] [.int .i64 0,.int .i64 0,.slice none 0 0,.slice none 0 0,.int .i64 0,.int .i64 0,.slice none 0 0,.slice none 0 0]
 have hk0:w1.heap[w.heap.size]?=some (.cells ([.int .i64 x.h.pw,.int .i64 x.h.np,.slice p n c,.slice q m d,.int .i64 x.h.space,.int .i64 x.h.bump,.slice ps ns cs,.slice pk nk ck]:List Value).toArray 31 (0,0)):=by rw [<-hw1.out];exact zv5 w _ _
 have hk1:w1.heap[w.heap.size+1]?=some (.cells ([.int .i64 0,.int .i64 0,.slice none 0 0,.slice none 0 0,.int .i64 0,.int .i64 0,.slice none 0 0,.slice none 0 0]:List Value).toArray 31 (0,0)):=by rw [<-hw1.out];exact zt9 w _ _
 have Ha:=qq hbx.1
 have Hb:=qq hbx.2.1
 have HX:=qq (hx.keep hbx.2.2)
 have HT:=qq (ht.keep hbx.2.2)
 have HB:=qq (But.of tb hbx.2.2)
 have HQ:=qq (show x.h.pages≠[]->∀ ad,q=some ad->ad.block≠w.heap.size/\ad.block≠w.heap.size+1 from fun hne ad e=>⟨zm6 hk0 HX.out.pages ad e hne,zm6 hk1 HX.out.pages ad e hne⟩)
 have h1a:w.heap.size+1 < w1.heap.size:=Hb.out.lt rfl
 clear hbx hx ht hk0 hk1
 go_enter Tryz.func85,Tryz.ntmps85
 go_upto_region 1 with fail
 rw [hw1.out]
 clear hw1
 have c6:=Ha.out.cell 6 _ rfl
 clear c6
 obtain ⟨hud,hui⟩:=zc1
 obtain ⟨dd,hdd,hdr⟩:=Option.map_eq_some_iff.1 hud
 refine wp_region_held_drew (S:=fun W=>W.rangeAt w.heap.size 0 [.int .i64 x.h.pw,.int .i64 x.h.np,.slice p n c,.slice q m d,.int .i64 x.h.space,.int .i64 x.h.bump,.slice ps ns cs,.slice pk nk ck]) (by kernel_rfl) ((Ha.out.keep (Below.drew (Below.refl _ _)) (Ha.out.lt rfl)).range) (fun hHeld=>?_)
 refine wpAnyH_take (i:=0) (oi:=⟨some 10,.load 31 (.tmp 2),_,_,_,_⟩) (v:=_) rfl (by kernel_rfl) (by kernel_rfl) (by kernel_rfl) (fun _ _ _ h=>h) (yieldsIf_load_mid (by rfl) _ _ rfl w.heap.size 0 rfl [.int .i64 x.h.pw,.int .i64 x.h.np,.slice p n c,.slice q m d,.int .i64 x.h.space,.int .i64 x.h.bump,.slice ps ns cs,.slice pk nk ck] dd (fun W h=>h) hdd hdr hui) hHeld ?_
 go_frame
 refine wpAnyH_take (i:=3) (oi:=⟨some 13,.load 31 (.tmp 2),_,_,_,_⟩) (v:=_) rfl (by kernel_rfl) (by kernel_rfl) (by kernel_rfl) (fun _ _ _ h=>h) (yieldsIf_load_mid (by rfl) _ _ rfl w.heap.size 0 rfl [.int .i64 x.h.pw,.int .i64 x.h.np,.slice p n c,.slice q m d,.int .i64 x.h.space,.int .i64 x.h.bump,.slice ps ns cs,.slice pk nk ck] dd (fun W h=>h) hdd hdr hui) hHeld ?_
 go_frame
 refine draw_t 1 11 hHeld ?_
 refine draw_t 4 14 hHeld ?_
 refine draw_t 6 16 hHeld ?_
 have hbd:Below w1.heap.size w1 w1.drew:=Below.drew (Below.refl _ _)
 refine rdy1 2 (fun K hK=>?_)
 go_simp
 go_at_call 89
 refine (pick_any tb lp ln lc xs j x p q ps pk n c m d ns cs nk ck w1.drew (HT.out.keep hbd) (by omega) (HX.out.st.keep hbd) (HX.out.wk.keep hbd) hns hnk).mono ?_
 rintro e w2 ⟨⟨a,rfl,ha⟩,hT,hbt0⟩
 have hbt:But tb w1 w2:=(But.of tb hbd).trans hbt0
 clear hbt0 hbd
 have HAm:=qq ha
 clear ha
 replace Ha:=qq (Ha.out.but hbt (by omega) (by omega))
 replace Hb:=qq (Hb.out.but hbt (by omega) (by omega))
 replace HX:=qq (HX.out.tape HT.out hbt)
 replace HB:=qq (HB.out.trans hbt)
 replace HT:=qq hT
 have hszw2:=hbt.size
 clear hT hbt
 go_wp2_with fail
 refine hK.out _ _ Ha.out.range (fun hHeld=>?_)
 clear hK K
 try go_frame
 refine rdy1 5 (fun K hK=>?_)
 go_simp
 go_at_call 89
 refine (pick_any tb lp ln lc xs (j+1) x p q ps pk n c m d ns cs nk ck w2 HT.out (by omega) HX.out.st HX.out.wk hns hnk).mono ?_
 rintro e w3 ⟨⟨b,rfl,hb⟩,hT,hbt⟩
 have HBm:=qq hb
 clear hb
 replace Ha:=qq (Ha.out.but hbt (by omega) (by omega))
 replace Hb:=qq (Hb.out.but hbt (by omega) (by omega))
 replace HX:=qq (HX.out.tape HT.out hbt)
 replace HB:=qq (HB.out.trans hbt)
 replace HT:=qq hT
 have hszw3:=hbt.size
 clear hT hbt
 go_wp2_with fail
 refine hK.out _ _ Ha.out.range (fun hHeld=>?_)
 clear hK K
 try go_frame
 refine rdy1 7 (fun K hK=>?_)
 go_simp
 go_at_call 45
 refine (ze2 tb lp ln lc xs (j+1+1) _ w3 HT.out (by omega) (by omega)).mono ?_
 rintro e w4 ⟨v,rfl,v0,-,v1,⟨jn,-,-,hjn,hT⟩,hbt⟩
 obtain rfl:=hjn (by omega)
 replace v1:=v1 (by omega)
 clear hjn
 obtain ⟨kv,rfl⟩:∃ kv:Nat,v=kv:=⟨v.toNat,by omega⟩
 replace Ha:=qq (Ha.out.but hbt (by omega) (by omega))
 replace Hb:=qq (Hb.out.but hbt (by omega) (by omega))
 replace HX:=qq (HX.out.tape HT.out hbt)
 replace HB:=qq (HB.out.trans hbt)
 replace HT:=qq hT
 have hszw4:=hbt.size
 clear hT hbt
 go_wp2_with fail
 refine hK.out _ _ Ha.out.range (fun hHeld=>?_)
 clear hK K
 try go_frame
 refine draw_t 8 5 hHeld ?_
 refine draw_t 9 6 hHeld ?_
 refine draw_t 10 7 hHeld ?_
 refine wpAnyH_done (by kernel_rfl) ?_ _
 clear hud hdd hdr
 obtain ⟨G,hG⟩:∃ G,Hid (getH x.h a=G):=⟨_,rfl⟩
 obtain ⟨E,hE⟩:∃ E,Hid (getE x.h a=E):=⟨_,rfl⟩
 have hGm:=getH_m x.h a
 have hget:=ya2 x.h p q n c m d a w4 HX.out.words HX.out.pages HX.out.wb (zn7 hsb hkb HAm.out).1 (zn7 hsb hkb HAm.out).2
 rw [hG.out,hE.out] at hget
 rw [hG.out] at hGm
 obtain ⟨K9,N9,M9⟩:=G
 have hN:=qq (show E=0->0<=N9/\N9<=255 from fun h=>by have h2:=getE_in (h:=x.h) (a:=a) (hE.out.trans h);rw [hG.out] at h2;obtain ⟨-,-,-,-,-,-,-,h3,h4,-⟩:=h2;exact ⟨h3,h4⟩)
 dsimp only at hGm
 obtain ⟨hm0,hm1⟩:=hGm
 have c0:=Ha.out.cell 0 _ rfl
 have c1:=Ha.out.cell 1 _ rfl
 have c2:=Ha.out.cell 2 _ rfl
 have c3:=Ha.out.cell 3 _ rfl
 have c4:=Ha.out.cell 4 _ rfl
 have c5:=Ha.out.cell 5 _ rfl
 go_wp2_with fail
 refine hget.mono ?_
 clear c0 c1 c2 c3 c4 c5 hget
 rintro e w5 ⟨rfl,hb5⟩
 dsimp only
 replace Ha:=qq (Ha.out.keep hb5 (by omega))
 replace Hb:=qq (Hb.out.keep hb5 (by omega))
 replace HX:=qq (HX.out.keep hb5)
 replace HB:=qq (HB.out.then hb5)
 replace HT:=qq (HT.out.keep hb5)
 have hszw5:=hb5.size
 clear hb5
 have HN:=qq (OwnL.new w5 [.int .i64 0,.int .i64 0,.int .u32 0] 54)
 go_wp2_with (first | ((with_reducible show wpList _ _ _ _ _ _);refine za6 (op:=⟨none,.store 54 _ _,_,_,_,_⟩) rfl _ _ _ rfl _ ?hx801 [.int .i64 K9,.int .i64 N9,.int .u32 M9] _ ?hy801 HN.out rfl rfl yc0 ?_))
 (try (case hx801=>rfl))
 (try (case hy801=>rfl))
 intro w6 ho hbt hst
 have hb6:Below w5.heap.size w5 w6:=za1.trans (hbt.low (Nat.le_refl _) (by simp))
 have H8:=qq ho
 have h8s:w5.heap.size < w6.heap.size:=H8.out.lt rfl
 clear HN ho hbt hst
 replace Ha:=qq (Ha.out.keep hb6 (by omega))
 replace Hb:=qq (Hb.out.keep hb6 (by omega))
 replace HX:=qq (HX.out.keep hb6)
 replace HB:=qq (HB.out.then hb6)
 replace HT:=qq (HT.out.keep hb6)
 have hszw6:=hb6.size
 clear hb6
 by_cases hE0:E=0
 rotate_left
 · have e1:(E != 0)=true:=by simp [hE0]
   have e2:(E == 0)=false:=beq_eq_false_iff_ne.2 hE0
   go_upto_region 4 with fail
   go_wp2_with (first | ((with_reducible show wpList _ _ _ _ _ _);refine za7 (op:=⟨some 32,.load 31 _,_,_,_,_⟩) rfl _ _ rfl _ rfl _ Ha.out zc1 ?_) | ((with_reducible show wpList _ _ _ _ _ _);refine za6 (op:=⟨none,.store 31 _ _,_,_,_,_⟩) rfl _ _ _ rfl _ ?hx802 [.int .i64 x.h.pw,.int .i64 x.h.np,.slice p n c,.slice q m d,.int .i64 x.h.space,.int .i64 x.h.bump,.slice ps ns cs,.slice pk nk ck] _ ?hy802 Hb.out rfl rfl zc1 ?_))
   (try (case hx802=>rfl))
   (try (case hy802=>rfl))
   intro w9 ho hbt hst
   have HZ:=qq ho
   have HX9:=qq (HX.out.stored (i:=0) (vs:=[.int .i64 x.h.pw,.int .i64 x.h.np,.slice p n c,.slice q m d,.int .i64 x.h.space,.int .i64 x.h.bump,.slice ps ns cs,.slice pk nk ck]) Hb.out (zf3 _ _ _ _ _ _ _ _ _ _ _ _ _ _ _ _) (by simp) (by rw [<-zb7];exact hst.out.symm) hbt (fun hne ad e=>(HQ.out hne ad e).2))
   have HT9:=qq (HT.out.oth hbt (by omega))
   have HB9:=qq (HB.out.store hbt (by omega))
   clear ho hbt hst
   go_wp2
   refine bodyPost_ret (zc9 rfl rfl HZ.out zc1) rfl ?_
   exact ⟨⟨_,_,rfl,MStep.none x,HX9.out.wd⟩,⟨j+1+1+1,by omega,by omega,HT9.out⟩,HB9.out⟩
 subst hE0
 have hN2:=hN.out rfl
 clear hN
 have d1:=H8.out.cell 1 _ rfl
 by_cases hN0:N9=0
 · subst hN0
   clear hN2
   go_upto_region 4 with fail
   clear d1
   go_wp2_with (first | ((with_reducible show wpList _ _ _ _ _ _);refine za7 (op:=⟨some 32,.load 31 _,_,_,_,_⟩) rfl _ _ rfl _ rfl _ Ha.out zc1 ?_) | ((with_reducible show wpList _ _ _ _ _ _);refine za6 (op:=⟨none,.store 31 _ _,_,_,_,_⟩) rfl _ _ _ rfl _ ?hx803 [.int .i64 x.h.pw,.int .i64 x.h.np,.slice p n c,.slice q m d,.int .i64 x.h.space,.int .i64 x.h.bump,.slice ps ns cs,.slice pk nk ck] _ ?hy803 Hb.out rfl rfl zc1 ?_))
   (try (case hx803=>rfl))
   (try (case hy803=>rfl))
   intro w9 ho hbt hst
   have HZ:=qq ho
   have HX9:=qq (HX.out.stored (i:=0) (vs:=[.int .i64 x.h.pw,.int .i64 x.h.np,.slice p n c,.slice q m d,.int .i64 x.h.space,.int .i64 x.h.bump,.slice ps ns cs,.slice pk nk ck]) Hb.out (zf3 _ _ _ _ _ _ _ _ _ _ _ _ _ _ _ _) (by simp) (by rw [<-zb7];exact hst.out.symm) hbt (fun hne ad e=>(HQ.out hne ad e).2))
   have HT9:=qq (HT.out.oth hbt (by omega))
   have HB9:=qq (HB.out.store hbt (by omega))
   clear ho hbt hst
   go_wp2
   refine bodyPost_ret (zc9 rfl rfl HZ.out zc1) rfl ?_
   exact ⟨⟨_,_,rfl,MStep.none x,HX9.out.wd⟩,⟨j+1+1+1,by omega,by omega,HT9.out⟩,HB9.out⟩
 have hNb:(N9 == 0)=false:=beq_eq_false_iff_ne.2 hN0
 obtain ⟨I9,hI⟩:∃ r,(kv:Int).tmod N9=r:=⟨_,rfl⟩
 have hI0:0<=I9:=by rw [<-hI];exact Int.tmod_nonneg _ (by omega)
 have hI1:I9 < N9:=by rw [<-hI];exact Int.tmod_lt_of_pos _ (by omega)
 obtain ⟨B9,hB9⟩:∃ B,Hid (ptrB K9 N9 M9 I9=B):=⟨_,rfl⟩
 go_wp2_with (first | ((with_reducible show wpList _ _ _ _ _ _);refine za7 (op:=⟨some 37,.load 54 _,_,_,_,_⟩) rfl _ _ rfl _ rfl _ H8.out yc0 ?_))
 have hptr:=zn4 K9 N9 M9 I9 w6 hm0 hm1
 rw [hB9.out] at hptr
 refine hptr.mono ?_
 clear hptr d1 H8
 rintro e w7 ⟨rfl,hb7⟩
 have hIk:=qq hI
 clear hI
 replace Ha:=qq (Ha.out.keep hb7 (by omega))
 replace Hb:=qq (Hb.out.keep hb7 (by omega))
 replace HX:=qq (HX.out.keep hb7)
 replace HB:=qq (HB.out.then hb7)
 replace HT:=qq (HT.out.keep hb7)
 have hszw7:=hb7.size
 clear hb7
 cases B9 with
 | true =>
  obtain ⟨Y,hY⟩:∃ Y,Hid (setV x.h a I9 b=Y):=⟨_,rfl⟩
  have hst:=yd1 x.h p q n c m d a I9 b w7 HX.out.words HX.out.pages HX.out.wb (zn7 hsb hkb HAm.out).1 (zn7 hsb hkb HAm.out).2 (zn7 hsb hkb HBm.out).1 (zn7 hsb hkb HBm.out).2
  rw [hY.out] at hst
  have c0:=Ha.out.cell 0 _ rfl
  have c1:=Ha.out.cell 1 _ rfl
  have c2:=Ha.out.cell 2 _ rfl
  have c3:=Ha.out.cell 3 _ rfl
  have c4:=Ha.out.cell 4 _ rfl
  have c5:=Ha.out.cell 5 _ rfl
  go_wp2_with fail
  refine hst.mono ?_
  clear c0 c1 c2 c3 c4 c5 hst
  rintro e wS ⟨⟨p2,n2,c2,q2,m2,d2,er,rfl,y1,y2,y3,y4⟩,hbS⟩
  have Y1:=qq y1
  have Y2:=qq y2
  have Y3:=qq y3
  have Y4:=qq y4
  clear y1 y2 y3 y4
  replace Ha:=qq (Ha.out.keep hbS (by omega))
  replace Hb:=qq (Hb.out.keep hbS (by omega))
  replace HX:=qq (HX.out.keep hbS)
  replace HB:=qq (HB.out.then hbS)
  replace HT:=qq (HT.out.keep hbS)
  have hszwS:=hbS.size
  clear hbS
  obtain ⟨hudH,huiH⟩:=zd3
  clear hudH
  go_wp2_with (first | ((with_reducible show wpList _ _ _ _ _ _);refine zz5 (op:=⟨none,.store 27 _ _,_,_,_,_⟩) rfl _ _ _ rfl _ ?hx804 [.int .i64 Y.pw,.int .i64 Y.np,.slice p2 n2 c2,.slice q2 m2 d2,.int .i64 Y.space,.int .i64 Y.bump] [.int .i64 x.h.pw,.int .i64 x.h.np,.slice p n c,.slice q m d,.int .i64 x.h.space,.int .i64 x.h.bump] [.slice ps ns cs,.slice pk nk ck] ?hy804 Ha.out rfl rfl huiH ?_))
  (try (case hx804=>rfl))
  (try (case hy804=>rfl))
  intro wE ho hbt hst
  have HWW:=qq (show WW wS ⟨Y,x.st,x.wk⟩ p2 q2 ps pk n2 c2 m2 d2 ns cs nk ck from ⟨Y1.out,Y2.out,Y3.out,HX.out.st,HX.out.wk⟩)
  have HQ2:=qq (show Y.pages≠[]->∀ ad,q2=some ad->ad.block≠w.heap.size/\ad.block≠w.heap.size+1 from fun hne ad e=>HQ.out (Y4.out hne).2 ad ((Y4.out hne).1.symm.trans e))
  have HW2:=qq (HWW.out.stored (i:=0) (vs:=[.int .i64 Y.pw,.int .i64 Y.np,.slice p2 n2 c2,.slice q2 m2 d2,.int .i64 Y.space,.int .i64 Y.bump]) Ha.out (zf3 _ _ _ _ _ _ _ _ _ _ _ _ _ _ _ _) (by simp) (by rw [<-zb7];exact hst.out.symm) hbt (fun hne ad e=>(HQ2.out hne ad e).1))
  replace Hb:=qq (Hb.out.but hbt (by omega) (by omega))
  replace HB:=qq (HB.out.store hbt (by omega))
  replace HT:=qq (HT.out.oth hbt (by omega))
  have hszE:=hbt.size
  clear Ha HX HWW HQ hst hbt Y1 Y2 Y3 Y4
  have Ha:=qq (show OwnL wE w.heap.size [.int .i64 Y.pw,.int .i64 Y.np,.slice p2 n2 c2,.slice q2 m2 d2,.int .i64 Y.space,.int .i64 Y.bump,.slice ps ns cs,.slice pk nk ck] from ho)
  have HX:=qq HW2.out
  have HQ:=qq HQ2.out
  clear ho HW2 HQ2
  have HMS:=qq (show MStep x ⟨Y,x.st,x.wk⟩ from by rw [<-hY.out];exact MStep.link x a I9 b HAm.out hE.out hI0 (by rw [hG.out];exact hI1) (zn7 hsb hkb HBm.out).1 (zn7 hsb hkb HBm.out).2 (by rw [hG.out];exact fun _=>HBm.out))
  clear hY
  go_wp2_with (first | ((with_reducible show wpList _ _ _ _ _ _);refine za7 (op:=⟨some 54,.load 31 _,_,_,_,_⟩) rfl _ _ rfl _ rfl _ Ha.out zc1 ?_) | ((with_reducible show wpList _ _ _ _ _ _);refine za6 (op:=⟨none,.store 31 _ _,_,_,_,_⟩) rfl _ _ _ rfl _ ?hx805 [.int .i64 Y.pw,.int .i64 Y.np,.slice p2 n2 c2,.slice q2 m2 d2,.int .i64 Y.space,.int .i64 Y.bump,.slice ps ns cs,.slice pk nk ck] _ ?hy805 Hb.out rfl rfl zc1 ?_))
  (try (case hx805=>rfl))
  (try (case hy805=>rfl))
  intro w9 ho hbt hst
  have HZ:=qq ho
  have HX9:=qq (HX.out.stored (i:=0) (vs:=[.int .i64 Y.pw,.int .i64 Y.np,.slice p2 n2 c2,.slice q2 m2 d2,.int .i64 Y.space,.int .i64 Y.bump,.slice ps ns cs,.slice pk nk ck]) Hb.out (zf3 _ _ _ _ _ _ _ _ _ _ _ _ _ _ _ _) (by simp) (by rw [<-zb7];exact hst.out.symm) hbt (fun hne ad e=>(HQ.out hne ad e).2))
  have HT9:=qq (HT.out.oth hbt (by omega))
  have HB9:=qq (HB.out.store hbt (by omega))
  clear ho hbt hst
  go_wp2
  refine bodyPost_ret (zc9 rfl rfl HZ.out zc1) rfl ?_
  exact ⟨⟨_,_,rfl,HMS.out,HX9.out.wd⟩,⟨j+1+1+1,by omega,by omega,HT9.out⟩,HB9.out⟩
 | false =>
  go_wp2_with fail
  refine (next_big tb lp ln lc xs (j+1+1+1) _ w7 HT.out (by omega) (by omega)).mono ?_
  rintro e w8 ⟨z,rfl,z0,-,z1,⟨jn,-,-,hjn,hT⟩,hbt⟩
  obtain rfl:=hjn (by omega)
  replace z1:=z1 (by omega)
  clear hjn
  replace Ha:=qq (Ha.out.but hbt (by omega) (by omega))
  replace Hb:=qq (Hb.out.but hbt (by omega) (by omega))
  replace HX:=qq (HX.out.tape HT.out hbt)
  replace HB:=qq (HB.out.trans hbt)
  replace HT:=qq hT
  have hszw8:=hbt.size
  clear hT hbt
  have hzw:IntKind.u64.wrap z=z:=IntWalk.u64_in _ (by omega)
  have hzz:=qq (show 0<=z/\z < 18446744073709551616 from ⟨z0,by omega⟩)
  obtain ⟨Y,hY⟩:∃ Y,Hid (setV x.h a I9 z=Y):=⟨_,rfl⟩
  have hst:=yd1 x.h p q n c m d a I9 z w8 HX.out.words HX.out.pages HX.out.wb (zn7 hsb hkb HAm.out).1 (zn7 hsb hkb HAm.out).2 hzz.out.1 hzz.out.2
  rw [hY.out] at hst
  have c0:=Ha.out.cell 0 _ rfl
  have c1:=Ha.out.cell 1 _ rfl
  have c2:=Ha.out.cell 2 _ rfl
  have c3:=Ha.out.cell 3 _ rfl
  have c4:=Ha.out.cell 4 _ rfl
  have c5:=Ha.out.cell 5 _ rfl
  go_wp2_with fail
  refine hst.mono ?_
  clear c0 c1 c2 c3 c4 c5 hst
  rintro e wS ⟨⟨p2,n2,c2,q2,m2,d2,er,rfl,y1,y2,y3,y4⟩,hbS⟩
  have Y1:=qq y1
  have Y2:=qq y2
  have Y3:=qq y3
  have Y4:=qq y4
  clear y1 y2 y3 y4
  replace Ha:=qq (Ha.out.keep hbS (by omega))
  replace Hb:=qq (Hb.out.keep hbS (by omega))
  replace HX:=qq (HX.out.keep hbS)
  replace HB:=qq (HB.out.then hbS)
  replace HT:=qq (HT.out.keep hbS)
  have hszwS:=hbS.size
  clear hbS
  obtain ⟨hudH,huiH⟩:=zd3
  clear hudH
  go_wp2_with (first | ((with_reducible show wpList _ _ _ _ _ _);refine zz5 (op:=⟨none,.store 27 _ _,_,_,_,_⟩) rfl _ _ _ rfl _ ?hx806 [.int .i64 Y.pw,.int .i64 Y.np,.slice p2 n2 c2,.slice q2 m2 d2,.int .i64 Y.space,.int .i64 Y.bump] [.int .i64 x.h.pw,.int .i64 x.h.np,.slice p n c,.slice q m d,.int .i64 x.h.space,.int .i64 x.h.bump] [.slice ps ns cs,.slice pk nk ck] ?hy806 Ha.out rfl rfl huiH ?_))
  (try (case hx806=>rfl))
  (try (case hy806=>rfl))
  intro wE ho hbt hst
  have HWW:=qq (show WW wS ⟨Y,x.st,x.wk⟩ p2 q2 ps pk n2 c2 m2 d2 ns cs nk ck from ⟨Y1.out,Y2.out,Y3.out,HX.out.st,HX.out.wk⟩)
  have HQ2:=qq (show Y.pages≠[]->∀ ad,q2=some ad->ad.block≠w.heap.size/\ad.block≠w.heap.size+1 from fun hne ad e=>HQ.out (Y4.out hne).2 ad ((Y4.out hne).1.symm.trans e))
  have HW2:=qq (HWW.out.stored (i:=0) (vs:=[.int .i64 Y.pw,.int .i64 Y.np,.slice p2 n2 c2,.slice q2 m2 d2,.int .i64 Y.space,.int .i64 Y.bump]) Ha.out (zf3 _ _ _ _ _ _ _ _ _ _ _ _ _ _ _ _) (by simp) (by rw [<-zb7];exact hst.out.symm) hbt (fun hne ad e=>(HQ2.out hne ad e).1))
  replace Hb:=qq (Hb.out.but hbt (by omega) (by omega))
  replace HB:=qq (HB.out.store hbt (by omega))
  replace HT:=qq (HT.out.oth hbt (by omega))
  have hszE:=hbt.size
  clear Ha HX HWW HQ hst hbt Y1 Y2 Y3 Y4
  have Ha:=qq (show OwnL wE w.heap.size [.int .i64 Y.pw,.int .i64 Y.np,.slice p2 n2 c2,.slice q2 m2 d2,.int .i64 Y.space,.int .i64 Y.bump,.slice ps ns cs,.slice pk nk ck] from ho)
  have HX:=qq HW2.out
  have HQ:=qq HQ2.out
  clear ho HW2 HQ2
  have HMS:=qq (show MStep x ⟨Y,x.st,x.wk⟩ from by rw [<-hY.out];exact MStep.link x a I9 z HAm.out hE.out hI0 (by rw [hG.out];exact hI1) hzz.out.1 hzz.out.2 (by rw [hG.out];exact fun h=>by rw [hB9.out] at h;cases h))
  clear hY
  go_wp2_with (first | ((with_reducible show wpList _ _ _ _ _ _);refine za7 (op:=⟨some 54,.load 31 _,_,_,_,_⟩) rfl _ _ rfl _ rfl _ Ha.out zc1 ?_) | ((with_reducible show wpList _ _ _ _ _ _);refine za6 (op:=⟨none,.store 31 _ _,_,_,_,_⟩) rfl _ _ _ rfl _ ?hx807 [.int .i64 Y.pw,.int .i64 Y.np,.slice p2 n2 c2,.slice q2 m2 d2,.int .i64 Y.space,.int .i64 Y.bump,.slice ps ns cs,.slice pk nk ck] _ ?hy807 Hb.out rfl rfl zc1 ?_))
  (try (case hx807=>rfl))
  (try (case hy807=>rfl))
  intro w9 ho hbt hst
  have HZ:=qq ho
  have HX9:=qq (HX.out.stored (i:=0) (vs:=[.int .i64 Y.pw,.int .i64 Y.np,.slice p2 n2 c2,.slice q2 m2 d2,.int .i64 Y.space,.int .i64 Y.bump,.slice ps ns cs,.slice pk nk ck]) Hb.out (zf3 _ _ _ _ _ _ _ _ _ _ _ _ _ _ _ _) (by simp) (by rw [<-zb7];exact hst.out.symm) hbt (fun hne ad e=>(HQ.out hne ad e).2))
  have HT9:=qq (HT.out.oth hbt (by omega))
  have HB9:=qq (HB.out.store hbt (by omega))
  clear ho hbt hst
  go_wp2
  refine bodyPost_ret (zc9 rfl rfl HZ.out zc1) rfl ?_
  exact ⟨⟨_,_,rfl,HMS.out,HX9.out.wd⟩,⟨j+1+1+1+1,by omega,by omega,HT9.out⟩,HB9.out⟩
end Go.Proofs.YtipjdbhocjpmdaaGreat
