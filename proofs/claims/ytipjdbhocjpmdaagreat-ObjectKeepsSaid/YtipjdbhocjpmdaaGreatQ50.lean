import Derived.Test.YtipjdbhocjpmdaaGreatQ01
import Derived.Test.YtipjdbhocjpmdaaGreatQ13
import Derived.Test.YtipjdbhocjpmdaaGreatQ32
import Derived.Test.YtipjdbhocjpmdaaGreatQ49
import Derived.Deep.DeepCutAuto
import Derived.Maps.RangeWalk
set_option linter.unusedSimpArgs false
set_option linter.unusedVariables false
set_option maxRecDepth 100000
set_option maxHeartbeats 12800000
namespace Go.Proofs.YtipjdbhocjpmdaaGreat
open Go.RowKit
theorem pvals_setP:∀ (ps:List Pg) (k:Nat) (x:Pg) (v:Int),ps[k]?=some x->(zc4 ps).set (k*4+3) (.int .i64 v)=zc4 (ps.set k ⟨x.kind,x.space,x.used,v⟩)
 | [],k,x,v,h=>by simp at h
 | y :: r,0,x,v,h=>by
  simp at h;subst h
  simp [zc4,Pg.vals]
 | y :: r,k+1,x,v,h=>by
  rw [List.getElem?_cons_succ] at h
  have ih:=pvals_setP r k x v h
  have c:∀ (l:List Value) (j:Nat) (u:Value),(y.vals ++ l).set (j+4) u=y.vals ++ l.set j u:=fun l j u=>by simp [Pg.vals]
  rw [List.set_cons_succ,show (k+1)*4+3=(k*4+3)+4 from by omega,show zc4 (y :: r)=y.vals ++ zc4 r from rfl,show zc4 (y :: r.set k ⟨x.kind,x.space,x.used,v⟩)=y.vals ++ zc4 (r.set k ⟨x.kind,x.space,x.used,v⟩) from rfl,c,ih]
theorem own_setP {w:World} {base g n cap:Nat} {e:TypeId} {qs:List Pg} (h:w.ownsRow base e 4 (.slice (some ⟨g,0,none⟩) n cap) n (zc4 qs)) (j:Nat) (x:Pg) (hx:qs[j]?=some x) (v:Int) :
 (w.setCell ⟨g,j*4+3,none⟩ (.int .i64 v)).ownsRow base e 4 (.slice (some ⟨g,0,none⟩) n cap) n (zc4 (qs.set j ⟨x.kind,x.space,x.used,v⟩)):=by
 rw [<-pvals_setP qs j x v hx]
 exact (h.stored _ _).1
theorem zy0 {w:World} {base g n cap:Nat} {e:TypeId} {ps:List Pg} (h:w.ownsRow base e 4 (.slice (some ⟨g,0,none⟩) n cap) n (zc4 ps)):PRow w (some ⟨g,0,none⟩) n cap ps:=by
 obtain ⟨p,c,e1,h1⟩:=PRow.of_own h
 injection e1 with e2 e3 e4
 subst e2 e4
 exact h1
theorem rows3 {w:World} {x:Wd} {p q ps pk:Option Addr} {n c m d ns cs nk ck:Nat} (h:WW w x p q ps pk n c m d ns cs nk ck) (a:Addr) (z:Int) (v:Value) (hc:w.cell? a=some (.int .i64 z)):SRow (w.setCell a v) .u64 p n c x.h.words/\SRow (w.setCell a v) .u64 ps ns cs x.st/\SRow (w.setCell a v) .u64 pk nk ck x.wk :=
 ⟨h.words.setOther a _ v hc (fun y e=>by cases e),h.st.setOther a _ v hc (fun y e=>by cases e),h.wk.setOther a _ v hc (fun y e=>by cases e)⟩
theorem of_facts {pw np a:Int} (h:ofE pw np a=0):zb8 pw np=true/\0<=ofI pw np a/\ofI pw np a < np:=by
 have h1:zb8 pw np=true:=by
  cases hv:zb8 pw np with
  | false=>have:=(of_no (a:=a) hv).2.2;omega
  | true=>rfl
 have h2:inAr pw np a=true:=by
  cases hi:inAr pw np a with
  | false=>have:=(of_out h1 hi).2.2;omega
  | true=>rfl
 have h3:=zb1 h1
 refine ⟨h1,ofI_nonneg h,?_⟩
 rw [(of_ok h1 h2).1]
 unfold inAr at h2
 have h4:=of_decide_eq_true h2
 exact Int.ediv_lt_of_lt_mul (by omega) (by omega)
theorem OwnL.pre {w:World} {b:Nat} {xs ys:List Value} (h:OwnL w b (xs ++ ys)):w.rangeAt b 0 xs:=fun i v hv=>h.range i v (by rw [List.getElem?_append_left (List.getElem?_eq_some_iff.1 hv).1];exact hv)
theorem pin_any (tb:Nat) (lp:Option Addr) (ln lc:Nat) (xs:List Int) (j:Nat) (x:Wd) (p q ps pk:Option Addr) (n c m d ns cs nk ck:Nat) (w:World) (ht:Tp w tb lp ln lc xs j) (hj:j<=80000) (hx:WW w x p q ps pk n c m d ns cs nk ck) (hsb:WB x.st) (hkb:WB x.wk) (hns:ns<=10000) (hnk:nk<=10000) (hpl:(x.h.pages.length:Int)=x.h.np) (hpb:∀ g∈x.h.pages,0<=g.pins/\g.pins<=1000000) :
 Calls Tryz.prog 86 #[(.agg #[.int .i64 x.h.pw,.int .i64 x.h.np,.slice p n c,.slice q m d,.int .i64 x.h.space,.int .i64 x.h.bump,.slice ps ns cs,.slice pk nk ck]),.pointer (some ⟨tb,0,none⟩)] w fun e w'=>(∃ v y,e = .returned v/\MStep x y/\WdV w' v y)/\(∃ j',j<=j'/\j'<=j+4/\Tp w' tb lp ln lc xs j')/\But tb w w':=by
 have hml:=PRow.len hx.pages
 have hm63:=(VRow.i63 hx.pages).2
 have htb:=ht.lt
 obtain ⟨w1,hw1,hbx⟩:=boxes2x w 31 [.int .i64 x.h.pw,.int .i64 x.h.np,.slice p n c,.slice q m d,.int .i64 x.h.space,.int .i64 x.h.bump,.slice ps ns cs,.slice pk nk ck] [.int .i64 0,.int .i64 0,.slice none 0 0,.slice none 0 0,.int .i64 0,.int .i64 0,.slice none 0 0,.slice none 0 0]
 have hk0:w1.heap[w.heap.size]?=some (.cells ([.int .i64 x.h.pw,.int .i64 x.h.np,.slice p n c,.slice q m d,.int .i64 x.h.space,.int .i64 x.h.bump,.slice ps ns cs,.slice pk nk ck]:List Value).toArray 31 (0,0)):=by rw [<-hw1.out];exact zv5 w _ _
 have hk1:w1.heap[w.heap.size+1]?=some (.cells ([.int .i64 0,.int .i64 0,.slice none 0 0,.slice none 0 0,.int .i64 0,.int .i64 0,.slice none 0 0,.slice none 0 0]:List Value).toArray 31 (0,0)):=by rw [<-hw1.out];exact zt9 w _ _
 have Ha:=qq hbx.1
 have Hb:=qq hbx.2.1
 have HX:=qq (hx.keep hbx.2.2)
 have HT:=qq (ht.keep hbx.2.2)
 have HB:=qq (But.of tb hbx.2.2)
 have HQ:=qq (show x.h.pages≠[]->∀ ad,q=some ad->ad.block≠w.heap.size/\ad.block≠w.heap.size+1 from fun hne ad e=>⟨zm6 hk0 HX.out.pages ad e hne,zm6 hk1 HX.out.pages ad e hne⟩)
 have h1a:w.heap.size+1 < w1.heap.size:=Hb.out.lt rfl
 clear hbx hx ht hk0 hk1
 go_enter Tryz.func86,Tryz.ntmps86
 go_upto_region 1 with fail
 rw [hw1.out]
 clear hw1
 have c6:=Ha.out.cell 6 _ rfl
 clear c6
 go_wp2_with (first | ((with_reducible show wpList _ _ _ _ _ _);refine za7 (op:=⟨some 10,.load 31 _,_,_,_,_⟩) rfl _ _ rfl _ rfl _ Ha.out zc1 ?_))
 refine (pick_any tb lp ln lc xs j x p q ps pk n c m d ns cs nk ck w1 HT.out (by omega) HX.out.st HX.out.wk hns hnk).mono ?_
 rintro e w2 ⟨⟨a,rfl,ha⟩,hT,hbt⟩
 have HAm:=qq ha
 clear ha
 replace Ha:=qq (Ha.out.but hbt (by omega) (by omega))
 replace Hb:=qq (Hb.out.but hbt (by omega) (by omega))
 replace HX:=qq (HX.out.tape HT.out hbt)
 replace HB:=qq (HB.out.trans hbt)
 replace HT:=qq hT
 have hszw2:=hbt.size
 clear hT hbt
 obtain ⟨E,hE0⟩:∃ E,Hid (ofE x.h.pw x.h.np a=E):=⟨_,rfl⟩
 obtain ⟨I9,hI⟩:∃ I,Hid (ofI x.h.pw x.h.np a=I):=⟨_,rfl⟩
 obtain ⟨K9,hK9⟩:∃ K,Hid (ofK x.h.pw x.h.np a=K):=⟨_,rfl⟩
 have hof:=zk6 x.h.pw x.h.np a w2 (zn7 hsb hkb HAm.out).1 (zn7 hsb hkb HAm.out).2
 rw [hE0.out,hI.out,hK9.out] at hof
 clear hK9
 have HML:=qq hml
 have HPB:=qq hpb
 have HPL:=qq hpl
 clear hml hpb hpl
 have c0:=Ha.out.cell 0 _ rfl
 have c1:=Ha.out.cell 1 _ rfl
 go_wp2_with fail
 refine hof.mono ?_
 clear c0 c1 hof
 rintro e w3 ⟨rfl,hb3⟩
 replace Ha:=qq (Ha.out.keep hb3 (by omega))
 replace Hb:=qq (Hb.out.keep hb3 (by omega))
 replace HX:=qq (HX.out.keep hb3)
 replace HB:=qq (HB.out.then hb3)
 replace HT:=qq (HT.out.keep hb3)
 have hszw3:=hb3.size
 clear hb3
 by_cases hEz:E=0
 rotate_left
 · have e1:(E != 0)=true:=by simp [hEz]
   have e2:(E == 0)=false:=beq_eq_false_iff_ne.2 hEz
   go_upto_region 4 with fail
   go_wp2_with (first | ((with_reducible show wpList _ _ _ _ _ _);refine za7 (op:=⟨some 24,.load 31 _,_,_,_,_⟩) rfl _ _ rfl _ rfl _ Ha.out zc1 ?_) | ((with_reducible show wpList _ _ _ _ _ _);refine za6 (op:=⟨none,.store 31 _ _,_,_,_,_⟩) rfl _ _ _ rfl _ ?hx801 [.int .i64 x.h.pw,.int .i64 x.h.np,.slice p n c,.slice q m d,.int .i64 x.h.space,.int .i64 x.h.bump,.slice ps ns cs,.slice pk nk ck] _ ?hy801 Hb.out rfl rfl zc1 ?_))
   (try (case hx801=>rfl))
   (try (case hy801=>rfl))
   intro w9 ho hbt hst
   have HZ:=qq ho
   have HX9:=qq (HX.out.stored (i:=0) (vs:=[.int .i64 x.h.pw,.int .i64 x.h.np,.slice p n c,.slice q m d,.int .i64 x.h.space,.int .i64 x.h.bump,.slice ps ns cs,.slice pk nk ck]) Hb.out (zf3 _ _ _ _ _ _ _ _ _ _ _ _ _ _ _ _) (by simp) (by rw [<-zb7];exact hst.out.symm) hbt (fun hne ad e=>(HQ.out hne ad e).2))
   have HT9:=qq (HT.out.oth hbt (by omega))
   have HB9:=qq (HB.out.store hbt (by omega))
   clear ho hbt hst
   go_wp2
   refine bodyPost_ret (zc9 rfl rfl HZ.out zc1) rfl ?_
   exact ⟨⟨_,_,rfl,MStep.none x,HX9.out.wd⟩,⟨j+1,by omega,by omega,HT9.out⟩,HB9.out⟩
 subst hEz
 have hof:=of_facts hE0.out
 rw [hI.out] at hof
 obtain ⟨hcf,hI0,hI1⟩:=hof
 obtain ⟨-,-,-,hnp0,hnp1⟩:=zb1 hcf
 clear hcf
 obtain ⟨iv,rfl⟩:∃ iv:Nat,I9=iv:=⟨I9.toNat,by omega⟩
 have him:iv < m:=by have h1:=HML.out;have h2:=HPL.out;omega
 have hm64:m<=64:=by have h1:=HML.out;have h2:=HPL.out;omega
 have hwa3:w.heap.size < w3.heap.size:=by omega
 have hwb3:w.heap.size+1 < w3.heap.size:=by omega
 obtain ⟨g,hgg⟩:∃ g,x.h.pages[iv]?=some g:=⟨_,List.getElem?_eq_getElem (by rw [HML.out];exact him)⟩
 have hg:=qq hgg
 have hgp:=HPB.out g (List.mem_of_getElem? hgg)
 obtain ⟨hgp0,hgp1⟩:=hgp
 clear hgg hI0 hI1
 obtain ⟨i0,hin,hz0,hz1,hz2⟩:=info_parts zr6
 have hown0:(w3.alloc (.cells #[] 77)).ownsRow w3.heap.size 77 4 (.slice (some ⟨w3.heap.size,0,none⟩) 0 0) 0 []:=by simpa using zf9 w3 77 4
 have Hq:=qq (show PRow (w3.alloc (.cells #[] 77)) q m d x.h.pages from (PRow.keep HX.out.pages za1))
 have c3:=Ha.out.cell 3 _ rfl
 go_wp2_with (at_builtin;refine zg3 rfl _ _ 25 rfl w3.heap.size 77 i0 _ 4 32 Tryz.underlying25 hin hz0 hz1 hz2 rfl (by decide) (.slice (some ⟨w3.heap.size,0,none⟩) 0 0) 0 [] rfl hown0 q m d (zc4 x.h.pages) rfl ?src (zr1 x.h.pages) ?c3 ?c4 ?c5 ?_)
 case src=>exact Hq.out
 case c3=>unfold maxLen;omega
 case c4=>omega
 case c5=>simp
 intro v' w4 hown hgrow
 have hb4:Below w3.heap.size w3 w4:=((Below.refl _ _).alloc (Nat.le_refl _) _).grown hgrow (by simp) (fun k h=>by simp [Value.ownBlock] at h;omega)
 obtain ⟨g9,cc,rfl,hg9,-⟩:=World.ownsRow.form hown (by omega)
 have hg9b:w.heap.size+2<=g9:=by omega
 have HP:=qq (show w4.ownsRow (w.heap.size+2) 77 4 (.slice (some ⟨g9,0,none⟩) m cc) m (zc4 x.h.pages) from by simpa using zg6 hown (show w.heap.size+2<=w3.heap.size by omega))
 clear hgrow hown0 hown Hq c3 hg9 hin hz0 hz1 hz2
 replace Ha:=qq (Ha.out.keep hb4 (by omega))
 replace Hb:=qq (Hb.out.keep hb4 (by omega))
 replace HX:=qq (HX.out.keep hb4)
 replace HB:=qq (HB.out.then hb4)
 replace HT:=qq (HT.out.keep hb4)
 have hszw4:=hb4.size
 clear hb4
 have hg4:g9 < w4.heap.size:=(HP.out.lt g9 rfl).2
 have c3:=Ha.out.cell 3 _ rfl
 have f3:=Ha.out.free 3
 go_upto_region 6 with fail
 clear c3 f3
 have hbt:But w.heap.size w4 (w4.setCell ⟨w.heap.size,3,none⟩ (.slice (some ⟨g9,0,none⟩) m cc)):=(But.refl _ _).set 3 _
 obtain ⟨w5,h5⟩:∃ W,Hid (w4.setCell ⟨w.heap.size,3,none⟩ (.slice (some ⟨g9,0,none⟩) m cc)=W):=⟨_,rfl⟩
 have ho:=Ha.out.set 3 (.slice (some ⟨g9,0,none⟩) m cc) (by simp)
 have hww:=HX.out.stored (i:=3) (vs:=[.slice (some ⟨g9,0,none⟩) m cc]) Ha.out (zf3 _ _ _ _ _ _ _ _ _ _ _ _ _ _ _ _) (by simp) h5.out (by rw [<-h5.out];exact hbt) (fun hne ad e=>(HQ.out hne ad e).1)
 rw [h5.out] at ho hbt ⊢
 replace Ha:=qq (show OwnL w5 w.heap.size [.int .i64 x.h.pw,.int .i64 x.h.np,.slice p n c,.slice (some ⟨g9,0,none⟩) m cc,.int .i64 x.h.space,.int .i64 x.h.bump,.slice ps ns cs,.slice pk nk ck] from ho)
 replace Hb:=qq (Hb.out.but hbt (by omega) (by omega))
 replace HX:=qq hww
 replace HB:=qq (HB.out.store hbt (Nat.le_refl _))
 replace HT:=qq (HT.out.oth hbt (by omega))
 replace HP:=qq (zq7 HP.out hbt (by omega))
 have hsz5:=hbt.size
 clear ho hww hbt h5 HQ
 have c3:=Ha.out.cell 3 _ rfl
 go_upto_region 7 with fail
 clear c3
 have e1:IntKind.i64.wrap (g.pins - 1)=g.pins - 1:=IntWalk.i64_in _ (by omega)
 have e2:IntKind.i64.wrap (g.pins+1)=g.pins+1:=IntWalk.i64_in _ (by omega)
 obtain ⟨⟨q0,q1,q2,q3⟩,z0,z1,z2,z3⟩:=zh9 HP.out hg.out
 clear z0 z1 z2 z3 q0 q1 q2
 by_cases hp0:0 < g.pins
 · go_wp2_with fail
   clear q3
   refine (ze2 tb lp ln lc xs (j+1) _ w5 HT.out (by omega) (by omega)).mono ?_
   rintro e w6 ⟨z,rfl,z0,-,z1,⟨jn,-,-,hjn,hT⟩,hbt⟩
   obtain rfl:=hjn (by omega)
   replace z1:=z1 (by omega)
   clear hjn
   replace HP:=qq (zq7 HP.out hbt (by omega))
   replace Ha:=qq (Ha.out.but hbt (by omega) (by omega))
   replace Hb:=qq (Hb.out.but hbt (by omega) (by omega))
   replace HX:=qq (HX.out.tape HT.out hbt)
   replace HB:=qq (HB.out.trans hbt)
   replace HT:=qq hT
   have hszw6:=hbt.size
   clear hT hbt
   by_cases hz:z=0
   · subst hz
     clear z0 z1
     go_upto_region 8 with fail
     obtain ⟨⟨q0,q1,q2,q3⟩,z0,z1,z2,z3⟩:=zh9 HP.out hg.out
     clear z0 z1 z2 q1 q2
     go_upto_region 11 with fail
     have HR3:=qq (rows3 HX.out ⟨g9,iv*4+3,none⟩ _ (.int .i64 (g.pins - 1)) q3)
     have HP2:=qq (own_setP HP.out iv g hg.out (g.pins - 1))
     have hbt:But g9 w6 (w6.setCell ⟨g9,iv*4+3,none⟩ (.int .i64 (g.pins - 1))):=(But.refl _ _).set _ _
     clear q0 q3 z3
     obtain ⟨wE,hE⟩:∃ W,Hid (w6.setCell ⟨g9,iv*4+3,none⟩ (.int .i64 (g.pins - 1))=W):=⟨_,rfl⟩
     rw [hE.out] at HR3 HP2 hbt ⊢
     clear hE HP
     have HP:=HP2
     clear HP2
     replace Ha:=qq (Ha.out.but hbt (by omega) (by omega))
     replace Hb:=qq (Hb.out.but hbt (by omega) (by omega))
     replace HB:=qq (HB.out.store hbt (by omega))
     replace HT:=qq (HT.out.oth hbt (by omega))
     have hszE:=hbt.size
     clear hbt
     have HWW:=qq (show WW wE ⟨{ x.h with pages:=x.h.pages.set iv ⟨g.kind,g.space,g.used,g.pins - 1⟩ },x.st,x.wk⟩ p (some ⟨g9,0,none⟩) ps pk n c m cc ns cs nk ck from ⟨HR3.out.1,zy0 HP.out,HX.out.wb,HR3.out.2.1,HR3.out.2.2⟩)
     go_wp2_with (first | ((with_reducible show wpList _ _ _ _ _ _);refine za7 (op:=⟨some 86,.load 31 _,_,_,_,_⟩) rfl _ _ rfl _ rfl _ Ha.out zc1 ?_) | ((with_reducible show wpList _ _ _ _ _ _);refine za6 (op:=⟨none,.store 31 _ _,_,_,_,_⟩) rfl _ _ _ rfl _ ?hx802 [.int .i64 x.h.pw,.int .i64 x.h.np,.slice p n c,.slice (some ⟨g9,0,none⟩) m cc,.int .i64 x.h.space,.int .i64 x.h.bump,.slice ps ns cs,.slice pk nk ck] _ ?hy802 Hb.out rfl rfl zc1 ?_))
     (try (case hx802=>rfl))
     (try (case hy802=>rfl))
     intro w9 ho hbt hst
     have HZ:=qq ho
     have HX9:=qq (HWW.out.stored (i:=0) (vs:=[.int .i64 x.h.pw,.int .i64 x.h.np,.slice p n c,.slice (some ⟨g9,0,none⟩) m cc,.int .i64 x.h.space,.int .i64 x.h.bump,.slice ps ns cs,.slice pk nk ck]) Hb.out (zf3 _ _ _ _ _ _ _ _ _ _ _ _ _ _ _ _) (by simp) (by rw [<-zb7];exact hst.out.symm) hbt (fun hne ad e=>by injection e with e;subst e;simp only;omega))
     have HT9:=qq (HT.out.oth hbt (by omega))
     have HB9:=qq (HB.out.store hbt (by omega))
     clear ho hbt hst
     go_wp2
     refine bodyPost_ret (zc9 rfl rfl HZ.out zc1) rfl ?_
     exact ⟨⟨_,_,rfl,MStep.pin x a iv g (g.pins - 1) HAm.out hE0.out hI.out hg.out (Or.inl ⟨hp0,rfl⟩),HX9.out.wd⟩,⟨j+1+1,by omega,by omega,HT9.out⟩,HB9.out⟩
   have hzb:(z == 0)=false:=beq_eq_false_iff_ne.2 hz
   go_upto_region 9 with fail
   have hSof:=qq (fun W (hB:Below w6.heap.size w6 W)=>(⟨za0 hB (zh9 HP.out hg.out).1.2.2.2,za0 hB (zh9 HP.out hg.out).1.1,za0 hB (Ha.out.cell 1 _ rfl),(Ha.out.keep hB (by omega)).pre (xs:=[.int .i64 x.h.pw,.int .i64 x.h.np,.slice p n c,.slice (some ⟨g9,0,none⟩) m cc,.int .i64 x.h.space,.int .i64 x.h.bump]) (ys:=[.slice ps ns cs,.slice pk nk ck])⟩:(fun W=>W.cell? ⟨g9,iv*4+3,none⟩=some (.int .i64 g.pins)/\W.cell? ⟨g9,iv*4,none⟩=some (.int .i64 g.kind)/\W.cell? ⟨w.heap.size,1,none⟩=some (.int .i64 x.h.np)/\W.rangeAt w.heap.size 0 [.int .i64 x.h.pw,.int .i64 x.h.np,.slice p n c,.slice (some ⟨g9,0,none⟩) m cc,.int .i64 x.h.space,.int .i64 x.h.bump]) W))
   refine wp_region_held_drew (S:=fun W=>W.cell? ⟨g9,iv*4+3,none⟩=some (.int .i64 g.pins)/\W.cell? ⟨g9,iv*4,none⟩=some (.int .i64 g.kind)/\W.cell? ⟨w.heap.size,1,none⟩=some (.int .i64 x.h.np)/\W.rangeAt w.heap.size 0 [.int .i64 x.h.pw,.int .i64 x.h.np,.slice p n c,.slice (some ⟨g9,0,none⟩) m cc,.int .i64 x.h.space,.int .i64 x.h.bump]) (by kernel_rfl) (hSof.out _ (Below.drew (Below.refl _ _))) (fun hHeld=>?_)
   refine draw_t 0 56 hHeld ?_
   refine draw_t 1 57 hHeld ?_
   refine draw_t 2 58 hHeld ?_
   refine draw_t 3 59 hHeld ?_
   refine draw_t 4 60 hHeld ?_
   refine draw_t 5 61 hHeld ?_
   refine draw_s 6 62 hHeld ?_
   refine draw_s 7 63 hHeld ?_
   refine draw_s 8 64 hHeld ?_
   refine draw_s 9 65 hHeld ?_
   refine draw_s 10 66 hHeld ?_
   refine draw_t 11 67 hHeld ?_
   refine draw_t 12 68 hHeld ?_
   refine draw_s 13 69 hHeld ?_
   refine draw_s 14 70 hHeld ?_
   refine draw_s 15 71 hHeld ?_
   refine draw_s 16 72 hHeld ?_
   refine draw_s 17 73 hHeld ?_
   refine draw_s 18 74 hHeld ?_
   refine draw_s 19 75 hHeld ?_
   refine draw_s 20 76 hHeld ?_
   refine draw_s 21 77 hHeld ?_
   refine draw_t 22 78 hHeld ?_
   refine draw_t 23 55 hHeld ?_
   refine wpAnyH_done (by kernel_rfl) ?_ _
   clear hSof
   obtain ⟨wd,hwd⟩:∃ W,Hid (w6.drew=W):=⟨_,rfl⟩
   have hdr:Below w6.heap.size w6 wd:=by rw [<-hwd.out];exact Below.drew (Below.refl _ _)
   rw [hwd.out]
   clear hwd hHeld
   replace HP:=qq (zb5 HP.out hdr)
   replace Ha:=qq (Ha.out.keep hdr (by omega))
   replace Hb:=qq (Hb.out.keep hdr (by omega))
   replace HX:=qq (HX.out.keep hdr)
   replace HB:=qq (HB.out.then hdr)
   replace HT:=qq (HT.out.keep hdr)
   have hszd:=hdr.size
   clear hdr
   obtain ⟨⟨q0,q1,q2,q3⟩,z0,z1,z2,z3⟩:=zh9 HP.out hg.out
   clear z0 z1 z2 q1 q2
   go_upto_region 11 with fail
   have HR3:=qq (rows3 HX.out ⟨g9,iv*4+3,none⟩ _ (.int .i64 (g.pins+1)) q3)
   have HP2:=qq (own_setP HP.out iv g hg.out (g.pins+1))
   have hbt:But g9 wd (wd.setCell ⟨g9,iv*4+3,none⟩ (.int .i64 (g.pins+1))):=(But.refl _ _).set _ _
   clear q0 q3 z3
   obtain ⟨wE,hE⟩:∃ W,Hid (wd.setCell ⟨g9,iv*4+3,none⟩ (.int .i64 (g.pins+1))=W):=⟨_,rfl⟩
   rw [hE.out] at HR3 HP2 hbt ⊢
   clear hE HP
   have HP:=HP2
   clear HP2
   replace Ha:=qq (Ha.out.but hbt (by omega) (by omega))
   replace Hb:=qq (Hb.out.but hbt (by omega) (by omega))
   replace HB:=qq (HB.out.store hbt (by omega))
   replace HT:=qq (HT.out.oth hbt (by omega))
   have hszE:=hbt.size
   clear hbt
   have HWW:=qq (show WW wE ⟨{ x.h with pages:=x.h.pages.set iv ⟨g.kind,g.space,g.used,g.pins+1⟩ },x.st,x.wk⟩ p (some ⟨g9,0,none⟩) ps pk n c m cc ns cs nk ck from ⟨HR3.out.1,zy0 HP.out,HX.out.wb,HR3.out.2.1,HR3.out.2.2⟩)
   go_wp2_with (first | ((with_reducible show wpList _ _ _ _ _ _);refine za7 (op:=⟨some 86,.load 31 _,_,_,_,_⟩) rfl _ _ rfl _ rfl _ Ha.out zc1 ?_) | ((with_reducible show wpList _ _ _ _ _ _);refine za6 (op:=⟨none,.store 31 _ _,_,_,_,_⟩) rfl _ _ _ rfl _ ?hx803 [.int .i64 x.h.pw,.int .i64 x.h.np,.slice p n c,.slice (some ⟨g9,0,none⟩) m cc,.int .i64 x.h.space,.int .i64 x.h.bump,.slice ps ns cs,.slice pk nk ck] _ ?hy803 Hb.out rfl rfl zc1 ?_))
   (try (case hx803=>rfl))
   (try (case hy803=>rfl))
   intro w9 ho hbt hst
   have HZ:=qq ho
   have HX9:=qq (HWW.out.stored (i:=0) (vs:=[.int .i64 x.h.pw,.int .i64 x.h.np,.slice p n c,.slice (some ⟨g9,0,none⟩) m cc,.int .i64 x.h.space,.int .i64 x.h.bump,.slice ps ns cs,.slice pk nk ck]) Hb.out (zf3 _ _ _ _ _ _ _ _ _ _ _ _ _ _ _ _) (by simp) (by rw [<-zb7];exact hst.out.symm) hbt (fun hne ad e=>by injection e with e;subst e;simp only;omega))
   have HT9:=qq (HT.out.oth hbt (by omega))
   have HB9:=qq (HB.out.store hbt (by omega))
   clear ho hbt hst
   go_wp2
   refine bodyPost_ret (zc9 rfl rfl HZ.out zc1) rfl ?_
   exact ⟨⟨_,_,rfl,MStep.pin x a iv g (g.pins+1) HAm.out hE0.out hI.out hg.out (Or.inr ⟨rfl,Or.inl hp0⟩),HX9.out.wd⟩,⟨j+1+1,by omega,by omega,HT9.out⟩,HB9.out⟩
 go_upto_region 9 with fail
 clear q3
 by_cases hk2:g.kind=2
 · have hkb:(g.kind == 2)=true:=beq_iff_eq.2 hk2
   replace hk2:=qq hk2
   have hSof:=qq (fun W (hB:Below w5.heap.size w5 W)=>(⟨za0 hB (zh9 HP.out hg.out).1.2.2.2,za0 hB (zh9 HP.out hg.out).1.1,za0 hB (Ha.out.cell 1 _ rfl),(Ha.out.keep hB (by omega)).pre (xs:=[.int .i64 x.h.pw,.int .i64 x.h.np,.slice p n c,.slice (some ⟨g9,0,none⟩) m cc,.int .i64 x.h.space,.int .i64 x.h.bump]) (ys:=[.slice ps ns cs,.slice pk nk ck])⟩:(fun W=>W.cell? ⟨g9,iv*4+3,none⟩=some (.int .i64 g.pins)/\W.cell? ⟨g9,iv*4,none⟩=some (.int .i64 g.kind)/\W.cell? ⟨w.heap.size,1,none⟩=some (.int .i64 x.h.np)/\W.rangeAt w.heap.size 0 [.int .i64 x.h.pw,.int .i64 x.h.np,.slice p n c,.slice (some ⟨g9,0,none⟩) m cc,.int .i64 x.h.space,.int .i64 x.h.bump]) W))
   refine wp_region_held_drew (S:=fun W=>W.cell? ⟨g9,iv*4+3,none⟩=some (.int .i64 g.pins)/\W.cell? ⟨g9,iv*4,none⟩=some (.int .i64 g.kind)/\W.cell? ⟨w.heap.size,1,none⟩=some (.int .i64 x.h.np)/\W.rangeAt w.heap.size 0 [.int .i64 x.h.pw,.int .i64 x.h.np,.slice p n c,.slice (some ⟨g9,0,none⟩) m cc,.int .i64 x.h.space,.int .i64 x.h.bump]) (by kernel_rfl) (hSof.out _ (Below.drew (Below.refl _ _))) (fun hHeld=>?_)
   refine draw_t 0 56 hHeld ?_
   refine draw_t 1 57 hHeld ?_
   refine draw_t 2 58 hHeld ?_
   refine draw_t 3 59 hHeld ?_
   refine draw_t 4 60 hHeld ?_
   refine draw_t 5 61 hHeld ?_
   refine draw_t 6 62 hHeld ?_
   refine draw_t 7 63 hHeld ?_
   refine draw_t 8 64 hHeld ?_
   refine draw_t 9 65 hHeld ?_
   refine draw_t 10 66 hHeld ?_
   refine draw_t 11 67 hHeld ?_
   refine draw_t 12 68 hHeld ?_
   refine draw_s 13 69 hHeld ?_
   refine draw_s 14 70 hHeld ?_
   refine draw_s 15 71 hHeld ?_
   refine draw_s 16 72 hHeld ?_
   refine draw_s 17 73 hHeld ?_
   refine draw_s 18 74 hHeld ?_
   refine draw_s 19 75 hHeld ?_
   refine draw_s 20 76 hHeld ?_
   refine draw_s 21 77 hHeld ?_
   refine draw_t 22 78 hHeld ?_
   refine draw_t 23 55 hHeld ?_
   refine wpAnyH_done (by kernel_rfl) ?_ _
   clear hSof
   obtain ⟨wd,hwd⟩:∃ W,Hid (w5.drew=W):=⟨_,rfl⟩
   have hdr:Below w5.heap.size w5 wd:=by rw [<-hwd.out];exact Below.drew (Below.refl _ _)
   rw [hwd.out]
   clear hwd hHeld
   replace HP:=qq (zb5 HP.out hdr)
   replace Ha:=qq (Ha.out.keep hdr (by omega))
   replace Hb:=qq (Hb.out.keep hdr (by omega))
   replace HX:=qq (HX.out.keep hdr)
   replace HB:=qq (HB.out.then hdr)
   replace HT:=qq (HT.out.keep hdr)
   have hszd:=hdr.size
   clear hdr
   obtain ⟨⟨q0,q1,q2,q3⟩,z0,z1,z2,z3⟩:=zh9 HP.out hg.out
   clear z0 z1 z2 q1 q2
   go_upto_region 11 with fail
   have HR3:=qq (rows3 HX.out ⟨g9,iv*4+3,none⟩ _ (.int .i64 (g.pins+1)) q3)
   have HP2:=qq (own_setP HP.out iv g hg.out (g.pins+1))
   have hbt:But g9 wd (wd.setCell ⟨g9,iv*4+3,none⟩ (.int .i64 (g.pins+1))):=(But.refl _ _).set _ _
   clear q0 q3 z3
   obtain ⟨wE,hE⟩:∃ W,Hid (wd.setCell ⟨g9,iv*4+3,none⟩ (.int .i64 (g.pins+1))=W):=⟨_,rfl⟩
   rw [hE.out] at HR3 HP2 hbt ⊢
   clear hE HP
   have HP:=HP2
   clear HP2
   replace Ha:=qq (Ha.out.but hbt (by omega) (by omega))
   replace Hb:=qq (Hb.out.but hbt (by omega) (by omega))
   replace HB:=qq (HB.out.store hbt (by omega))
   replace HT:=qq (HT.out.oth hbt (by omega))
   have hszE:=hbt.size
   clear hbt
   have HWW:=qq (show WW wE ⟨{ x.h with pages:=x.h.pages.set iv ⟨g.kind,g.space,g.used,g.pins+1⟩ },x.st,x.wk⟩ p (some ⟨g9,0,none⟩) ps pk n c m cc ns cs nk ck from ⟨HR3.out.1,zy0 HP.out,HX.out.wb,HR3.out.2.1,HR3.out.2.2⟩)
   go_wp2_with (first | ((with_reducible show wpList _ _ _ _ _ _);refine za7 (op:=⟨some 86,.load 31 _,_,_,_,_⟩) rfl _ _ rfl _ rfl _ Ha.out zc1 ?_) | ((with_reducible show wpList _ _ _ _ _ _);refine za6 (op:=⟨none,.store 31 _ _,_,_,_,_⟩) rfl _ _ _ rfl _ ?hx804 [.int .i64 x.h.pw,.int .i64 x.h.np,.slice p n c,.slice (some ⟨g9,0,none⟩) m cc,.int .i64 x.h.space,.int .i64 x.h.bump,.slice ps ns cs,.slice pk nk ck] _ ?hy804 Hb.out rfl rfl zc1 ?_))
   (try (case hx804=>rfl))
   (try (case hy804=>rfl))
   intro w9 ho hbt hst
   have HZ:=qq ho
   have HX9:=qq (HWW.out.stored (i:=0) (vs:=[.int .i64 x.h.pw,.int .i64 x.h.np,.slice p n c,.slice (some ⟨g9,0,none⟩) m cc,.int .i64 x.h.space,.int .i64 x.h.bump,.slice ps ns cs,.slice pk nk ck]) Hb.out (zf3 _ _ _ _ _ _ _ _ _ _ _ _ _ _ _ _) (by simp) (by rw [<-zb7];exact hst.out.symm) hbt (fun hne ad e=>by injection e with e;subst e;simp only;omega))
   have HT9:=qq (HT.out.oth hbt (by omega))
   have HB9:=qq (HB.out.store hbt (by omega))
   clear ho hbt hst
   go_wp2
   refine bodyPost_ret (zc9 rfl rfl HZ.out zc1) rfl ?_
   exact ⟨⟨_,_,rfl,MStep.pin x a iv g (g.pins+1) HAm.out hE0.out hI.out hg.out (Or.inr ⟨rfl,Or.inr (Or.inl hk2.out)⟩),HX9.out.wd⟩,⟨j+1,by omega,by omega,HT9.out⟩,HB9.out⟩
 have hkb:(g.kind == 2)=false:=beq_eq_false_iff_ne.2 hk2
 obtain ⟨C9,hC9⟩:∃ C,Hid (zg1 x.h.pages=C):=⟨_,rfl⟩
 have hq4:x.h.np.tdiv 4=x.h.np / 4:=Int.tdiv_eq_ediv_of_nonneg (by omega)
 have hq5:IntKind.i64.wrap (x.h.np / 4)=x.h.np / 4:=IntWalk.i64_in _ (by omega)
 have hSof:=qq (fun W (hB:Below w5.heap.size w5 W)=>(⟨za0 hB (zh9 HP.out hg.out).1.2.2.2,za0 hB (zh9 HP.out hg.out).1.1,za0 hB (Ha.out.cell 1 _ rfl),(Ha.out.keep hB (by omega)).pre (xs:=[.int .i64 x.h.pw,.int .i64 x.h.np,.slice p n c,.slice (some ⟨g9,0,none⟩) m cc,.int .i64 x.h.space,.int .i64 x.h.bump]) (ys:=[.slice ps ns cs,.slice pk nk ck])⟩:(fun W=>W.cell? ⟨g9,iv*4+3,none⟩=some (.int .i64 g.pins)/\W.cell? ⟨g9,iv*4,none⟩=some (.int .i64 g.kind)/\W.cell? ⟨w.heap.size,1,none⟩=some (.int .i64 x.h.np)/\W.rangeAt w.heap.size 0 [.int .i64 x.h.pw,.int .i64 x.h.np,.slice p n c,.slice (some ⟨g9,0,none⟩) m cc,.int .i64 x.h.space,.int .i64 x.h.bump]) W))
 refine wp_region_held_drew (S:=fun W=>W.cell? ⟨g9,iv*4+3,none⟩=some (.int .i64 g.pins)/\W.cell? ⟨g9,iv*4,none⟩=some (.int .i64 g.kind)/\W.cell? ⟨w.heap.size,1,none⟩=some (.int .i64 x.h.np)/\W.rangeAt w.heap.size 0 [.int .i64 x.h.pw,.int .i64 x.h.np,.slice p n c,.slice (some ⟨g9,0,none⟩) m cc,.int .i64 x.h.space,.int .i64 x.h.bump]) (by kernel_rfl) (hSof.out _ (Below.drew (Below.refl _ _))) (fun hHeld=>?_)
 refine draw_t 0 56 hHeld ?_
 refine draw_t 1 57 hHeld ?_
 refine draw_t 2 58 hHeld ?_
 refine draw_t 3 59 hHeld ?_
 refine draw_t 4 60 hHeld ?_
 refine draw_t 5 61 hHeld ?_
 refine draw_t 6 62 hHeld ?_
 refine draw_t 7 63 hHeld ?_
 refine draw_t 8 64 hHeld ?_
 refine draw_t 9 65 hHeld ?_
 refine draw_t 10 66 hHeld ?_
 refine draw_t 11 67 hHeld ?_
 refine draw_t 12 68 hHeld ?_
 refine draw_t 13 69 hHeld ?_
 obtain ⟨hudH,huiH⟩:=zd3
 obtain ⟨ddH,hddH,hdrH⟩:=Option.map_eq_some_iff.1 hudH
 refine wpAnyH_take (i:=14) (oi:=⟨some 70,.load 27 (.tmp 69),_,_,_,_⟩) (v:=_) rfl (by kernel_rfl) (by kernel_rfl) (by kernel_rfl) (fun _ _ _ h=>h) (yieldsIf_load_mid (by rfl) _ _ rfl w.heap.size 0 rfl [.int .i64 x.h.pw,.int .i64 x.h.np,.slice p n c,.slice (some ⟨g9,0,none⟩) m cc,.int .i64 x.h.space,.int .i64 x.h.bump] ddH (fun W h=>h.2.2.2) hddH hdrH huiH) hHeld ?_
 go_frame
 clear hudH huiH hddH hdrH
 refine draw_t 16 72 hHeld ?_
 refine draw_t 17 73 hHeld ?_
 refine draw_t 18 74 hHeld ?_
 refine draw_t 19 75 hHeld ?_
 refine draw_t 20 76 hHeld ?_
 refine rdy1 15 (fun K hK=>?_)
 go_simp
 go_at_call 108
 refine (crowd_any x.h p (some ⟨g9,0,none⟩) n c m cc w5.drew (PRow.keep (zy0 HP.out) (Below.drew (Below.refl _ _)))).mono ?_
 rintro e w7 ⟨rfl,hb7⟩
 have hbx:Below w5.heap.size w5 w7:=(Below.drew (Below.refl _ _)).trans (by simpa using hb7)
 clear hb7
 go_wp2_with fail
 refine hK.out _ _ (hSof.out _ hbx) (fun hHeld=>?_)
 clear hK K
 try go_frame
 refine draw_t 21 77 hHeld ?_
 refine draw_t 22 78 hHeld ?_
 refine draw_t 23 55 hHeld ?_
 refine wpAnyH_done (by kernel_rfl) ?_ _
 clear hSof
 replace HP:=qq (zb5 HP.out hbx)
 replace Ha:=qq (Ha.out.keep hbx (by omega))
 replace Hb:=qq (Hb.out.keep hbx (by omega))
 replace HX:=qq (HX.out.keep hbx)
 replace HB:=qq (HB.out.then hbx)
 replace HT:=qq (HT.out.keep hbx)
 have hszw7:=hbx.size
 clear hbx
 by_cases hcr:(zg1 x.h.pages:Int) < x.h.np / 4
 · go_upto_region 10 with fail
   obtain ⟨⟨q0,q1,q2,q3⟩,z0,z1,z2,z3⟩:=zh9 HP.out hg.out
   clear z0 z1 z2 q1 q2
   go_upto_region 11 with fail
   have HR3:=qq (rows3 HX.out ⟨g9,iv*4+3,none⟩ _ (.int .i64 (g.pins+1)) q3)
   have HP2:=qq (own_setP HP.out iv g hg.out (g.pins+1))
   have hbt:But g9 w7 (w7.setCell ⟨g9,iv*4+3,none⟩ (.int .i64 (g.pins+1))):=(But.refl _ _).set _ _
   clear q0 q3 z3
   obtain ⟨wE,hE⟩:∃ W,Hid (w7.setCell ⟨g9,iv*4+3,none⟩ (.int .i64 (g.pins+1))=W):=⟨_,rfl⟩
   rw [hE.out] at HR3 HP2 hbt ⊢
   clear hE HP
   have HP:=HP2
   clear HP2
   replace Ha:=qq (Ha.out.but hbt (by omega) (by omega))
   replace Hb:=qq (Hb.out.but hbt (by omega) (by omega))
   replace HB:=qq (HB.out.store hbt (by omega))
   replace HT:=qq (HT.out.oth hbt (by omega))
   have hszE:=hbt.size
   clear hbt
   have HWW:=qq (show WW wE ⟨{ x.h with pages:=x.h.pages.set iv ⟨g.kind,g.space,g.used,g.pins+1⟩ },x.st,x.wk⟩ p (some ⟨g9,0,none⟩) ps pk n c m cc ns cs nk ck from ⟨HR3.out.1,zy0 HP.out,HX.out.wb,HR3.out.2.1,HR3.out.2.2⟩)
   go_wp2_with (first | ((with_reducible show wpList _ _ _ _ _ _);refine za7 (op:=⟨some 86,.load 31 _,_,_,_,_⟩) rfl _ _ rfl _ rfl _ Ha.out zc1 ?_) | ((with_reducible show wpList _ _ _ _ _ _);refine za6 (op:=⟨none,.store 31 _ _,_,_,_,_⟩) rfl _ _ _ rfl _ ?hx805 [.int .i64 x.h.pw,.int .i64 x.h.np,.slice p n c,.slice (some ⟨g9,0,none⟩) m cc,.int .i64 x.h.space,.int .i64 x.h.bump,.slice ps ns cs,.slice pk nk ck] _ ?hy805 Hb.out rfl rfl zc1 ?_))
   (try (case hx805=>rfl))
   (try (case hy805=>rfl))
   intro w9 ho hbt hst
   have HZ:=qq ho
   have HX9:=qq (HWW.out.stored (i:=0) (vs:=[.int .i64 x.h.pw,.int .i64 x.h.np,.slice p n c,.slice (some ⟨g9,0,none⟩) m cc,.int .i64 x.h.space,.int .i64 x.h.bump,.slice ps ns cs,.slice pk nk ck]) Hb.out (zf3 _ _ _ _ _ _ _ _ _ _ _ _ _ _ _ _) (by simp) (by rw [<-zb7];exact hst.out.symm) hbt (fun hne ad e=>by injection e with e;subst e;simp only;omega))
   have HT9:=qq (HT.out.oth hbt (by omega))
   have HB9:=qq (HB.out.store hbt (by omega))
   clear ho hbt hst
   go_wp2
   refine bodyPost_ret (zc9 rfl rfl HZ.out zc1) rfl ?_
   exact ⟨⟨_,_,rfl,MStep.pin x a iv g (g.pins+1) HAm.out hE0.out hI.out hg.out (Or.inr ⟨rfl,Or.inr (Or.inr hcr)⟩),HX9.out.wd⟩,⟨j+1,by omega,by omega,HT9.out⟩,HB9.out⟩
 go_upto_region 11 with fail
 have HR3:=qq (show SRow w7 .u64 p n c x.h.words/\SRow w7 .u64 ps ns cs x.st/\SRow w7 .u64 pk nk ck x.wk from ⟨HX.out.words,HX.out.st,HX.out.wk⟩)
 have HWW:=qq (show WW w7 x p (some ⟨g9,0,none⟩) ps pk n c m cc ns cs nk ck from ⟨HR3.out.1,zy0 HP.out,HX.out.wb,HR3.out.2.1,HR3.out.2.2⟩)
 go_wp2_with (first | ((with_reducible show wpList _ _ _ _ _ _);refine za7 (op:=⟨some 86,.load 31 _,_,_,_,_⟩) rfl _ _ rfl _ rfl _ Ha.out zc1 ?_) | ((with_reducible show wpList _ _ _ _ _ _);refine za6 (op:=⟨none,.store 31 _ _,_,_,_,_⟩) rfl _ _ _ rfl _ ?hx806 [.int .i64 x.h.pw,.int .i64 x.h.np,.slice p n c,.slice (some ⟨g9,0,none⟩) m cc,.int .i64 x.h.space,.int .i64 x.h.bump,.slice ps ns cs,.slice pk nk ck] _ ?hy806 Hb.out rfl rfl zc1 ?_))
 (try (case hx806=>rfl))
 (try (case hy806=>rfl))
 intro w9 ho hbt hst
 have HZ:=qq ho
 have HX9:=qq (HWW.out.stored (i:=0) (vs:=[.int .i64 x.h.pw,.int .i64 x.h.np,.slice p n c,.slice (some ⟨g9,0,none⟩) m cc,.int .i64 x.h.space,.int .i64 x.h.bump,.slice ps ns cs,.slice pk nk ck]) Hb.out (zf3 _ _ _ _ _ _ _ _ _ _ _ _ _ _ _ _) (by simp) (by rw [<-zb7];exact hst.out.symm) hbt (fun hne ad e=>by injection e with e;subst e;simp only;omega))
 have HT9:=qq (HT.out.oth hbt (by omega))
 have HB9:=qq (HB.out.store hbt (by omega))
 clear ho hbt hst
 go_wp2
 refine bodyPost_ret (zc9 rfl rfl HZ.out zc1) rfl ?_
 exact ⟨⟨_,_,rfl,MStep.none x,HX9.out.wd⟩,⟨j+1,by omega,by omega,HT9.out⟩,HB9.out⟩
end Go.Proofs.YtipjdbhocjpmdaaGreat
