import Derived.Test.YtipjdbhocjpmdaaGreatQ01
import Derived.Test.YtipjdbhocjpmdaaGreatQ13
import Derived.Test.YtipjdbhocjpmdaaGreatQ31
import Derived.Test.YtipjdbhocjpmdaaGreatQ46
import Derived.Test.YtipjdbhocjpmdaaGreatQ50
import Derived.Deep.DeepCutAuto
import Derived.Maps.RangeWalk
set_option linter.unusedSimpArgs false
set_option linter.unusedVariables false
set_option maxRecDepth 100000
set_option maxHeartbeats 12800000
namespace Go.Proofs.YtipjdbhocjpmdaaGreat
open Go.RowKit
theorem own_butA {w w':World} {b B e s n:Nat} {v:Value} {xs:List Value} (h:w.ownsRow B e s v n xs) (hb:But b w w') (hne:∀ g,v.ownBlock=some g->g≠b):w'.ownsRow B e s v n xs:=by
 rcases h.2 with h1 | ⟨g,cap,cur,rfl,h2⟩
 · exact ⟨h.1,.inl h1⟩
 · exact zq7 h hb (hne g rfl)
theorem But.comp {tb B:Nat} {a b c:World} (h:But tb a b) (k:Below B b c) (hB:a.heap.size<=B):But tb a c :=
 ⟨k.os.trans h.os,k.tape.trans h.tape,k.output.trans h.output,Nat.le_trans h.size k.size,fun i hi hn=>(k.block i (Nat.lt_of_lt_of_le hi hB)).trans (h.block i hi hn)⟩
theorem Tp.keepB {w w':World} {tb B:Nat} {lp:Option Addr} {ln lc:Nat} {xs:List Int} {j:Nat} (h:Tp w tb lp ln lc xs j) (hb:Below B w w') (hB:tb < B):Tp w' tb lp ln lc xs j:=by
 refine ⟨⟨fun i v hv=>by rw [World.cell?_of_block (w:=w) (hb.block tb hB)];exact h.own.cell i v hv,fun i=>by rw [World.frozen?_of_block (w:=w) (hb.block tb hB)];exact h.own.free i⟩,by obtain ⟨T,f,e⟩:=h.blk;exact ⟨T,f,by rw [hb.block tb hB];exact e⟩,⟨h.row.len,h.row.le,h.row.max,fun i x hx=>?_⟩,h.ap⟩
 obtain ⟨b',off,hp,hc⟩:=h.row.row i x hx
 have h1:=h.ap (fun e=>by rw [e] at hx;cases hx) _ hp
 simp only at h1
 refine ⟨b',off,hp,?_⟩
 rw [World.cell?_of_block (w:=w) (hb.block b' (by omega))]
 exact hc
theorem rangeAt_pre {w:World} {b o:Nat} {xs ys:List Value} (h:w.rangeAt b o (xs ++ ys)):w.rangeAt b o xs:=fun i v hv=>h i v (by rw [List.getElem?_append_left (List.getElem?_eq_some_iff.1 hv).1];exact hv)
theorem isS_conf9:IsS Tryz.prog 23 2:=⟨by kernel_rfl,by kernel_rfl⟩
theorem WdV.stored {w w':World} {v:Value} {x:Wd} {b:Nat} {T:TypeId} {f:Nat × Nat} {vs:List Value} (h:WdV w v x) (hk:w.heap[b]?=some (.cells ([.int .i64 0,.int .i64 0,.slice none 0 0,.slice none 0 0,.int .i64 0,.int .i64 0,.slice none 0 0,.slice none 0 0]:List Value).toArray T f)) (ho:OwnL w b [.int .i64 0,.int .i64 0,.slice none 0 0,.slice none 0 0,.int .i64 0,.int .i64 0,.slice none 0 0,.slice none 0 0]) (hl:vs.length=8) (e:w.setCells b 0 vs=w') (hbt:But b w w'):WdV w' v x:=by
 obtain ⟨p,n,c,q,m,d,ps,ns,cs,pk,nk,ck,rfl,h1,h2,h3,h4,h5⟩:=h
 have hw:WW w x p q ps pk n c m d ns cs nk ck:=⟨h1,h2,h3,h4,h5⟩
 have h9:=hw.stored (i:=0) (vs:=vs) ho (zf3 _ _ _ _ _ _ _ _ _ _ _ _ _ _ _ _) (by simp [hl]) (by rw [<-zb7];exact e) hbt (fun hne ad e2=>zm6 hk h2 ad e2 hne)
 exact ⟨p,n,c,q,m,d,ps,ns,cs,pk,nk,ck,rfl,h9.words,h9.pages,h9.wb,h9.st,h9.wk⟩
theorem step_any (tb:Nat) (lp:Option Addr) (ln lc:Nat) (xs:List Int) (j:Nat) (x:Wd) (p q ps pk:Option Addr) (n c m d ns cs nk ck:Nat) (w:World) (ht:Tp w tb lp ln lc xs j) (hj:j<=70000) (hx:WW w x p q ps pk n c m d ns cs nk ck) (hsb:WB x.st) (hkb:WB x.wk) (hns:ns<=10000) (hnk:nk<=10000) (hcf:zb8 x.h.pw x.h.np=true) (hpl:(x.h.pages.length:Int)=x.h.np) (hpb:∀ g∈x.h.pages,0<=g.pins/\g.pins<=1000000) :
 Calls Tryz.prog 44 #[(.agg #[.int .i64 x.h.pw,.int .i64 x.h.np,.slice p n c,.slice q m d,.int .i64 x.h.space,.int .i64 x.h.bump,.slice ps ns cs,.slice pk nk ck]),.pointer (some ⟨tb,0,none⟩)] w fun e w'=>(∃ v y,e = .returned v/\MStep x y/\WdV w' v y)/\(∃ j',j+1<=j'/\j'<=j+10/\Tp w' tb lp ln lc xs j')/\But tb w w':=by
 have htb:=ht.lt
 obtain ⟨w1,hw1,hbx⟩:=boxes2x w 31 [.int .i64 x.h.pw,.int .i64 x.h.np,.slice p n c,.slice q m d,.int .i64 x.h.space,.int .i64 x.h.bump,.slice ps ns cs,.slice pk nk ck] [.int .i64 0,.int .i64 0,.slice none 0 0,.slice none 0 0,.int .i64 0,.int .i64 0,.slice none 0 0,.slice none 0 0]
 have hk0:w1.heap[w.heap.size]?=some (.cells ([.int .i64 x.h.pw,.int .i64 x.h.np,.slice p n c,.slice q m d,.int .i64 x.h.space,.int .i64 x.h.bump,.slice ps ns cs,.slice pk nk ck]:List Value).toArray 31 (0,0)):=by rw [<-hw1.out];exact zv5 w _ _
 have hk1:w1.heap[w.heap.size+1]?=some (.cells ([.int .i64 0,.int .i64 0,.slice none 0 0,.slice none 0 0,.int .i64 0,.int .i64 0,.slice none 0 0,.slice none 0 0]:List Value).toArray 31 (0,0)):=by rw [<-hw1.out];exact zt9 w _ _
 have Ha:=qq hbx.1
 have Hb:=qq hbx.2.1
 have HX:=qq (hx.keep hbx.2.2)
 have HT:=qq (ht.keep hbx.2.2)
 have HB:=qq (But.of tb hbx.2.2)
 have HQ:=qq (show x.h.pages≠[]->∀ ad,q=some ad->ad.block≠w.heap.size/\ad.block≠w.heap.size+1 from fun hne ad e=>⟨zm6 hk0 HX.out.pages ad e hne,zm6 hk1 HX.out.pages ad e hne⟩)
 have h1a:w.heap.size+1 < w1.heap.size:=Hb.out.lt rfl
 have HK1:=qq hk1
 have HK0:=qq hk0
 have HCF:=qq hcf
 have HPL:=qq hpl
 have HPB:=qq hpb
 clear hbx hx ht hk0 hk1 hpl hpb
 go_enter Tryz.func44,Tryz.ntmps44
 go_upto_region 1 with fail
 rw [hw1.out]
 clear hw1
 have c6:=Ha.out.cell 6 _ rfl
 clear c6
 go_wp2_with fail
 refine (ze2 tb lp ln lc xs j _ w1 HT.out (by omega) (by omega)).mono ?_
 rintro e w2 ⟨v,rfl,v0,-,v1,⟨jn,-,-,hjn,hT⟩,hbt⟩
 obtain rfl:=hjn (by omega)
 replace v1:=v1 (by omega)
 clear hjn
 replace HK1:=qq ((hbt.block (w.heap.size+1) (by omega) (by omega)).trans HK1.out)
 replace HK0:=qq ((hbt.block w.heap.size (by omega) (by omega)).trans HK0.out)
 replace Ha:=qq (Ha.out.but hbt (by omega) (by omega))
 replace Hb:=qq (Hb.out.but hbt (by omega) (by omega))
 replace HX:=qq (HX.out.tape HT.out hbt)
 replace HB:=qq (HB.out.trans hbt)
 replace HT:=qq hT
 have hszw2:=hbt.size
 clear hT hbt
 have hv12:(v=0\/v=1\/v=2\/v=3)\/(v=4\/v=5\/v=6)\/v=7\/(v=8\/v=9)\/v=10\/v=11:=by omega
 clear v0 v1
 rcases hv12 with hv | hv | hv | hv | hv | hv
 · rcases hv with rfl | rfl | rfl | rfl
   all_goals
    go_upto_region 6 with fail
    obtain ⟨hud,hui⟩:=zc1
    obtain ⟨dd,hdd,hdr⟩:=Option.map_eq_some_iff.1 hud
    obtain ⟨hudC,huiC⟩:=isS_conf9
    obtain ⟨ddC,hddC,hdrC⟩:=Option.map_eq_some_iff.1 hudC
    refine wp_region_held_drew (S:=fun W=>W.rangeAt w.heap.size 0 [.int .i64 x.h.pw,.int .i64 x.h.np,.slice p n c,.slice q m d,.int .i64 x.h.space,.int .i64 x.h.bump,.slice ps ns cs,.slice pk nk ck]) (by kernel_rfl) ((Ha.out.keep (Below.drew (Below.refl _ _)) (Ha.out.lt rfl)).range) (fun hHeld=>?_)
    refine wpAnyH_take (i:=0) (oi:=⟨some 12,.load 31 (.tmp 2),_,_,_,_⟩) (v:=_) rfl (by kernel_rfl) (by kernel_rfl) (by kernel_rfl) (fun _ _ _ h=>h) (yieldsIf_load_mid (by rfl) _ _ rfl w.heap.size 0 rfl [.int .i64 x.h.pw,.int .i64 x.h.np,.slice p n c,.slice q m d,.int .i64 x.h.space,.int .i64 x.h.bump,.slice ps ns cs,.slice pk nk ck] dd (fun W h=>h) hdd hdr hui) hHeld ?_
    go_frame
    refine draw_t 1 13 hHeld ?_
    refine draw_t 2 14 hHeld ?_
    refine draw_t 3 15 hHeld ?_
    refine wpAnyH_take (i:=4) (oi:=⟨some 16,.load 23 (.tmp 15),_,_,_,_⟩) (v:=_) rfl (by kernel_rfl) (by kernel_rfl) (by kernel_rfl) (fun _ _ _ h=>h) (yieldsIf_load_mid (by rfl) _ _ rfl w.heap.size 0 rfl [.int .i64 x.h.pw,.int .i64 x.h.np] ddC (fun W h=>rangeAt_pre (xs:=[.int .i64 x.h.pw,.int .i64 x.h.np]) (ys:=[.slice p n c,.slice q m d,.int .i64 x.h.space,.int .i64 x.h.bump,.slice ps ns cs,.slice pk nk ck]) h) hddC hdrC huiC) hHeld ?_
    go_frame
    have hbd:Below w2.heap.size w2 w2.drew:=Below.drew (Below.refl _ _)
    refine rdy1 5 (fun K hK=>?_)
    go_simp
    go_at_call 84
    refine (header_any tb lp ln lc xs (j+1) x.h.pw x.h.np w2.drew (HT.out.keep hbd) (by omega) hcf).mono ?_
    rintro e w3 ⟨K9,N9,M9,rfl,k1,k2,n1,n2',m1,m2',⟨j3,hj3,hj4,hT⟩,hbt0⟩
    have hbt:But tb w2 w3:=(But.of tb hbd).trans hbt0
    clear hbt0 hbd
    replace HK1:=qq ((hbt.block (w.heap.size+1) (by omega) (by omega)).trans HK1.out)
    replace Ha:=qq (Ha.out.but hbt (by omega) (by omega))
    replace Hb:=qq (Hb.out.but hbt (by omega) (by omega))
    replace HX:=qq (HX.out.tape HT.out hbt)
    replace HB:=qq (HB.out.trans hbt)
    replace HT:=qq hT
    have hszw3:=hbt.size
    clear hT hbt
    go_wp2_with fail
    refine hK.out _ _ Ha.out.range (fun hHeld=>?_)
    clear hK K
    try go_frame
    refine rdy1 6 (fun K hK=>?_)
    go_simp
    go_at_call 83
    refine (put_any x K9 N9 M9 p q ps pk n c m d ns cs nk ck w3 HX.out k1 k2 n1 n2' m1 m2' hns).mono ?_
    rintro e w4 ⟨⟨v,y,rfl,hms,hv⟩,hb4⟩
    have HMS:=qq hms
    have HV:=qq hv
    clear hms hv
    replace HK1:=qq ((hb4.block (w.heap.size+1) (by omega)).trans HK1.out)
    replace Ha:=qq (Ha.out.keep hb4 (by omega))
    replace Hb:=qq (Hb.out.keep hb4 (by omega))
    replace HX:=qq (HX.out.keep hb4)
    replace HB:=qq (HB.out.then hb4)
    replace HT:=qq (HT.out.keep hb4)
    have hszw4:=hb4.size
    clear hb4
    go_wp2_with fail
    refine hK.out _ _ Ha.out.range (fun hHeld=>?_)
    clear hK K
    try go_frame
    obtain ⟨p2,n2,c2,q2,m2,d2,ps2,ns2,cs2,pk2,nk2,ck2,hvv,-⟩:=HV.out
    subst hvv
    refine wpAnyH_ready (rs:=[7]) (by kernel_rfl) (by simp) ?_
    refine AllReadyH.cons (o:=⟨none,.store 31 _ _,_,_,_,_⟩) rfl (fun K hK=>?_) AllReadyH.nil
    rw [if_pos (by rfl)]
    refine wp_store_mid 31 _ _ rfl (w.heap.size+1) 0 ([.int .i64 y.h.pw,.int .i64 y.h.np,.slice p2 n2 c2,.slice q2 m2 d2,.int .i64 y.h.space,.int .i64 y.h.bump,.slice ps2 ns2 cs2,.slice pk2 nk2 ck2]:List Value).toArray rfl rfl (Hb.out.isThere (by simp)) hui (by have h1:([.int .i64 y.h.pw,.int .i64 y.h.np,.slice p2 n2 c2,.slice q2 m2 d2,.int .i64 y.h.space,.int .i64 y.h.bump,.slice ps2 ns2 cs2,.slice pk2 nk2 ck2]:List Value).all (·.oneCell')=true:=rfl;simpa using h1) ?_
    obtain ⟨w9,hst⟩:∃ W,Hid (World.setCells w4 (w.heap.size+1) 0 [.int .i64 y.h.pw,.int .i64 y.h.np,.slice p2 n2 c2,.slice q2 m2 d2,.int .i64 y.h.space,.int .i64 y.h.bump,.slice ps2 ns2 cs2,.slice pk2 nk2 ck2]=W):=⟨_,rfl⟩
    have ho:=Hb.out.setCells (vs:=[.int .i64 y.h.pw,.int .i64 y.h.np,.slice p2 n2 c2,.slice q2 m2 d2,.int .i64 y.h.space,.int .i64 y.h.bump,.slice ps2 ns2 cs2,.slice pk2 nk2 ck2]) (by simp)
    have hbt:=But.setCells (b:=w.heap.size+1) (w:=w4) [.int .i64 y.h.pw,.int .i64 y.h.np,.slice p2 n2 c2,.slice q2 m2 d2,.int .i64 y.h.space,.int .i64 y.h.bump,.slice ps2 ns2 cs2,.slice pk2 nk2 ck2] 0
    rw [hst.out] at ho hbt
    rw [show World.setCells w4 (w.heap.size+1) 0 (List.toArray [.int .i64 y.h.pw,.int .i64 y.h.np,.slice p2 n2 c2,.slice q2 m2 d2,.int .i64 y.h.space,.int .i64 y.h.bump,.slice ps2 ns2 cs2,.slice pk2 nk2 ck2]).toList=w9 from hst.out]
    have HZ:=qq ho
    have HX9:=qq (HV.out.stored HK1.out Hb.out rfl hst.out hbt)
    have HT9:=qq (HT.out.oth hbt (by omega))
    have HB9:=qq (HB.out.store hbt (by omega))
    refine hK.out _ _ ((Ha.out.but hbt (by omega) (by omega)).range) (fun hHeld=>?_)
    clear hK K ho hbt hst
    try go_frame
    refine wpAnyH_done (by kernel_rfl) ?_ _
    clear hHeld
    go_wp2
    refine bodyPost_ret (zc9 rfl rfl HZ.out zc1) rfl ?_
    exact ⟨⟨_,y,rfl,HMS.out,HX9.out⟩,⟨_,by omega,by omega,HT9.out⟩,HB9.out⟩
 · rcases hv with rfl | rfl | rfl
   all_goals
    go_wp2_with (first | ((with_reducible show wpList _ _ _ _ _ _);refine za7 (op:=⟨some 23,.load 31 _,_,_,_,_⟩) rfl _ _ rfl _ rfl _ Ha.out zc1 ?_))
    refine (link_any tb lp ln lc xs (j+1) x p q ps pk n c m d ns cs nk ck w2 HT.out (by omega) HX.out hsb hkb hns hnk).mono ?_
    rintro e w3 ⟨⟨v,y,rfl,hms,hv⟩,⟨j3,hj3,hj4,hT⟩,hbt⟩
    have HMS:=qq hms
    have HV:=qq hv
    clear hms hv
    replace HK1:=qq ((hbt.block (w.heap.size+1) (by omega) (by omega)).trans HK1.out)
    replace Ha:=qq (Ha.out.but hbt (by omega) (by omega))
    replace Hb:=qq (Hb.out.but hbt (by omega) (by omega))
    replace HX:=qq (HX.out.tape HT.out hbt)
    replace HB:=qq (HB.out.trans hbt)
    replace HT:=qq hT
    have hszw3:=hbt.size
    clear hT hbt
    obtain ⟨p2,n2,c2,q2,m2,d2,ps2,ns2,cs2,pk2,nk2,ck2,hvv,-⟩:=HV.out
    subst hvv
    go_wp2_with (first | ((with_reducible show wpList _ _ _ _ _ _);refine za6 (op:=⟨none,.store 31 _ _,_,_,_,_⟩) rfl _ _ _ rfl _ ?hx801 [.int .i64 y.h.pw,.int .i64 y.h.np,.slice p2 n2 c2,.slice q2 m2 d2,.int .i64 y.h.space,.int .i64 y.h.bump,.slice ps2 ns2 cs2,.slice pk2 nk2 ck2] _ ?hy801 Hb.out rfl rfl zc1 ?_))
    (try (case hx801=>rfl))
    (try (case hy801=>rfl))
    intro w9 ho hbt hst
    have HZ:=qq ho
    have HX9:=qq (HV.out.stored HK1.out Hb.out rfl hst.out.symm hbt)
    have HT9:=qq (HT.out.oth hbt (by omega))
    have HB9:=qq (HB.out.store hbt (by omega))
    clear ho hbt hst
    go_wp2
    refine bodyPost_ret (zc9 rfl rfl HZ.out zc1) rfl ?_
    exact ⟨⟨_,y,rfl,HMS.out,HX9.out⟩,⟨_,by omega,by omega,HT9.out⟩,HB9.out⟩
 · subst hv
   go_wp2_with (first | ((with_reducible show wpList _ _ _ _ _ _);refine za7 (op:=⟨some 28,.load 31 _,_,_,_,_⟩) rfl _ _ rfl _ rfl _ Ha.out zc1 ?_))
   refine (pin_any tb lp ln lc xs (j+1) x p q ps pk n c m d ns cs nk ck w2 HT.out (by omega) HX.out hsb hkb hns hnk HPL.out HPB.out).mono ?_
   rintro e w3 ⟨⟨v,y,rfl,hms,hv⟩,⟨j3,hj3,hj4,hT⟩,hbt⟩
   have HMS:=qq hms
   have HV:=qq hv
   clear hms hv
   replace HK1:=qq ((hbt.block (w.heap.size+1) (by omega) (by omega)).trans HK1.out)
   replace Ha:=qq (Ha.out.but hbt (by omega) (by omega))
   replace Hb:=qq (Hb.out.but hbt (by omega) (by omega))
   replace HX:=qq (HX.out.tape HT.out hbt)
   replace HB:=qq (HB.out.trans hbt)
   replace HT:=qq hT
   have hszw3:=hbt.size
   clear hT hbt
   obtain ⟨p2,n2,c2,q2,m2,d2,ps2,ns2,cs2,pk2,nk2,ck2,hvv,-⟩:=HV.out
   subst hvv
   go_wp2_with (first | ((with_reducible show wpList _ _ _ _ _ _);refine za6 (op:=⟨none,.store 31 _ _,_,_,_,_⟩) rfl _ _ _ rfl _ ?hx802 [.int .i64 y.h.pw,.int .i64 y.h.np,.slice p2 n2 c2,.slice q2 m2 d2,.int .i64 y.h.space,.int .i64 y.h.bump,.slice ps2 ns2 cs2,.slice pk2 nk2 ck2] _ ?hy802 Hb.out rfl rfl zc1 ?_))
   (try (case hx802=>rfl))
   (try (case hy802=>rfl))
   intro w9 ho hbt hst
   have HZ:=qq ho
   have HX9:=qq (HV.out.stored HK1.out Hb.out rfl hst.out.symm hbt)
   have HT9:=qq (HT.out.oth hbt (by omega))
   have HB9:=qq (HB.out.store hbt (by omega))
   clear ho hbt hst
   go_wp2
   refine bodyPost_ret (zc9 rfl rfl HZ.out zc1) rfl ?_
   exact ⟨⟨_,y,rfl,HMS.out,HX9.out⟩,⟨_,by omega,by omega,HT9.out⟩,HB9.out⟩
 · rcases hv with rfl | rfl
   all_goals
    go_wp2_with (first | ((with_reducible show wpList _ _ _ _ _ _);refine za7 (op:=⟨some 34,.load 31 _,_,_,_,_⟩) rfl _ _ rfl _ rfl _ Ha.out zc1 ?_))
    refine (drop_any tb lp ln lc xs (j+1) x p q ps pk n c m d ns cs nk ck w2 HT.out (by omega) HX.out hns hnk).mono ?_
    rintro e w3 ⟨⟨v,y,rfl,hms,hv⟩,⟨j3,hj3,hj4,hT⟩,hbt⟩
    have HMS:=qq hms
    have HV:=qq hv
    clear hms hv
    replace HK1:=qq ((hbt.block (w.heap.size+1) (by omega) (by omega)).trans HK1.out)
    replace Ha:=qq (Ha.out.but hbt (by omega) (by omega))
    replace Hb:=qq (Hb.out.but hbt (by omega) (by omega))
    replace HX:=qq (HX.out.tape HT.out hbt)
    replace HB:=qq (HB.out.trans hbt)
    replace HT:=qq hT
    have hszw3:=hbt.size
    clear hT hbt
    obtain ⟨p2,n2,c2,q2,m2,d2,ps2,ns2,cs2,pk2,nk2,ck2,hvv,-⟩:=HV.out
    subst hvv
    go_wp2_with (first | ((with_reducible show wpList _ _ _ _ _ _);refine za6 (op:=⟨none,.store 31 _ _,_,_,_,_⟩) rfl _ _ _ rfl _ ?hx803 [.int .i64 y.h.pw,.int .i64 y.h.np,.slice p2 n2 c2,.slice q2 m2 d2,.int .i64 y.h.space,.int .i64 y.h.bump,.slice ps2 ns2 cs2,.slice pk2 nk2 ck2] _ ?hy803 Hb.out rfl rfl zc1 ?_))
    (try (case hx803=>rfl))
    (try (case hy803=>rfl))
    intro w9 ho hbt hst
    have HZ:=qq ho
    have HX9:=qq (HV.out.stored HK1.out Hb.out rfl hst.out.symm hbt)
    have HT9:=qq (HT.out.oth hbt (by omega))
    have HB9:=qq (HB.out.store hbt (by omega))
    clear ho hbt hst
    go_wp2
    refine bodyPost_ret (zc9 rfl rfl HZ.out zc1) rfl ?_
    exact ⟨⟨_,y,rfl,HMS.out,HX9.out⟩,⟨_,by omega,by omega,HT9.out⟩,HB9.out⟩
 · subst hv
   go_wp2_with (first | ((with_reducible show wpList _ _ _ _ _ _);refine za7 (op:=⟨some 39,.load 31 _,_,_,_,_⟩) rfl _ _ rfl _ rfl _ Ha.out zc1 ?_))
   refine (mcollect_any x p q ps pk n c m d ns cs nk ck w2 HX.out.words HX.out.pages HX.out.wb HX.out.st HX.out.wk hsb hkb hns hnk).mono ?_
   rintro e w3 ⟨⟨v,y,rfl,hms,hv⟩,hb3⟩
   have HMS:=qq hms
   have HV:=qq hv
   clear hms hv
   replace HK1:=qq ((hb3.block (w.heap.size+1) (by omega)).trans HK1.out)
   replace Ha:=qq (Ha.out.keep hb3 (by omega))
   replace Hb:=qq (Hb.out.keep hb3 (by omega))
   replace HX:=qq (HX.out.keep hb3)
   replace HB:=qq (HB.out.then hb3)
   replace HT:=qq (HT.out.keep hb3)
   have hszw3:=hb3.size
   clear hb3
   obtain ⟨p2,n2,c2,q2,m2,d2,ps2,ns2,cs2,pk2,nk2,ck2,hvv,-⟩:=HV.out
   subst hvv
   go_wp2_with (first | ((with_reducible show wpList _ _ _ _ _ _);refine za6 (op:=⟨none,.store 31 _ _,_,_,_,_⟩) rfl _ _ _ rfl _ ?hx804 [.int .i64 y.h.pw,.int .i64 y.h.np,.slice p2 n2 c2,.slice q2 m2 d2,.int .i64 y.h.space,.int .i64 y.h.bump,.slice ps2 ns2 cs2,.slice pk2 nk2 ck2] _ ?hy804 Hb.out rfl rfl zc1 ?_))
   (try (case hx804=>rfl))
   (try (case hy804=>rfl))
   intro w9 ho hbt hst
   have HZ:=qq ho
   have HX9:=qq (HV.out.stored HK1.out Hb.out rfl hst.out.symm hbt)
   have HT9:=qq (HT.out.oth hbt (by omega))
   have HB9:=qq (HB.out.store hbt (by omega))
   clear ho hbt hst
   go_wp2
   refine bodyPost_ret (zc9 rfl rfl HZ.out zc1) rfl ?_
   exact ⟨⟨_,y,rfl,HMS.out,HX9.out⟩,⟨_,by omega,by omega,HT9.out⟩,HB9.out⟩
 · subst hv
   go_upto_region 18 with fail
   obtain ⟨i0,hin,hz0,hz1,hz2⟩:=info_parts zf2
   obtain ⟨hud,hui⟩:=zc1
   obtain ⟨dd,hdd,hdr⟩:=Option.map_eq_some_iff.1 hud
   have h2a:w.heap.size < w2.heap.size:=by omega
   have h2b:w.heap.size+1 < w2.heap.size:=by omega
   have hSof:=qq (fun W (hB:But tb w2 W)=>(⟨(Ha.out.but hB (by omega) (by omega)).cell 6 _ rfl,(Ha.out.but hB (by omega) (by omega)).range⟩:(fun W=>W.cell? ⟨w.heap.size,6,none⟩=some (.slice ps ns cs)/\W.rangeAt w.heap.size 0 [.int .i64 x.h.pw,.int .i64 x.h.np,.slice p n c,.slice q m d,.int .i64 x.h.space,.int .i64 x.h.bump,.slice ps ns cs,.slice pk nk ck]) W))
   have hdb:But tb w2 w2.drew:=But.of tb (Below.drew (Below.refl _ _))
   refine AnyB.begin_ (k:=10) (S:=fun W=>W.cell? ⟨w.heap.size,6,none⟩=some (.slice ps ns cs)/\W.rangeAt w.heap.size 0 [.int .i64 x.h.pw,.int .i64 x.h.np,.slice p n c,.slice q m d,.int .i64 x.h.space,.int .i64 x.h.bump,.slice ps ns cs,.slice pk nk ck]) (by kernel_rfl) ?_
   refine AnyB.draw 1 42 (v:=?_) rfl rfl (by kernel_rfl) (by decide) (by kernel_rfl) (by kernel_rfl) (by kernel_rfl) (fun _ _ _ h=>h) (by kernel_rfl) ?hy (hSof.out _ hdb) (by kernel_rfl) ?_
   case hy=>(intro w hSw;(try dsimp only at hSw);go_simp;(try with_reducible rfl))
   go_frame
   refine AnyB.draw 2 43 (v:=?_) rfl rfl (by kernel_rfl) (by decide) (by kernel_rfl) (by kernel_rfl) (by kernel_rfl) (fun _ _ _ h=>h) (by kernel_rfl) ?hy (hSof.out _ hdb) (by kernel_rfl) ?_
   case hy=>(intro w hSw;(try dsimp only at hSw);go_simp;(try with_reducible rfl))
   go_frame
   refine AnyB.take (i:=4) (oi:=⟨some 45,.load 31 (.tmp 2),_,_,_,_⟩) (v:=_) rfl (by kernel_rfl) (by decide) (by kernel_rfl) (by kernel_rfl) (by kernel_rfl) (fun _ _ _ h=>h) (yieldsIf_load_mid (by rfl) _ _ rfl w.heap.size 0 rfl [.int .i64 x.h.pw,.int .i64 x.h.np,.slice p n c,.slice q m d,.int .i64 x.h.space,.int .i64 x.h.bump,.slice ps ns cs,.slice pk nk ck] dd (fun W h=>h.2) hdd hdr hui) (hSof.out _ hdb) (by kernel_rfl) ?_
   go_frame
   refine AnyB.draw 5 46 (v:=?_) rfl rfl (by kernel_rfl) (by decide) (by kernel_rfl) (by kernel_rfl) (by kernel_rfl) (fun _ _ _ h=>h) (by kernel_rfl) ?hy (hSof.out _ hdb) (by kernel_rfl) ?_
   case hy=>(intro w hSw;(try dsimp only at hSw);go_simp;(try with_reducible rfl))
   go_frame
   clear hdb
   refine AnyB.ready (rs:=[0]) (by kernel_rfl) (by simp) ?_
   refine AllB.cons rfl (fun K hK=>?_) AllB.nil
   go_simp
   obtain ⟨u1,hW⟩:∃ W,Hid ((World.alloc w2 (.cells #[] 48)).drew=W):=⟨_,rfl⟩
   rw [hW.out]
   have hb1:Below w2.heap.size w2 u1:=by rw [<-hW.out];exact ((Below.refl _ _).alloc (Nat.le_refl _) _).drew
   have hz1':w2.heap.size < u1.heap.size:=by rw [<-hW.out];simp
   have HO1:=qq (show u1.ownsRow w2.heap.size 48 1 (.slice (some ⟨w2.heap.size,0,none⟩) 0 0) 0 [] from by rw [<-hW.out];exact zg6 (zb5 (zf9 w2 48 1) (Below.drew (Below.refl _ _))) (by omega))
   clear hW
   refine hK.out _ _ (fun _=>hSof.out _ (But.of tb hb1)) ?_
   clear hK K
   try go_frame
   refine AnyB.ready (rs:=[3]) (by kernel_rfl) (by simp) ?_
   refine AllB.cons rfl (fun K hK=>?_) AllB.nil
   rw [if_pos (by rfl)]
   refine ze0 _ _ 24 rfl w2.heap.size 48 i0 (.int .u64 0) 8 Tryz.underlying24 hin hz0 hz1 hz2 rfl (.slice (some ⟨w2.heap.size,0,none⟩) 0 0) 0 [] rfl HO1.out ps ns cs .u64 _ rfl (HX.out.st.keep hb1) (by unfold maxLen;omega) (by omega) (by have:=hb1.size;omega) ?_
   intro v2 u2 ho hg
   have hb2:Below w2.heap.size w2 u2:=hb1.grown hg hb1.size (fun b hb=>(HO1.out.lt b hb).1)
   have HO2:=qq ho
   clear ho hg
   refine hK.out _ _ (fun _=>hSof.out _ (But.of tb hb2)) ?_
   clear hK K
   try go_frame
   refine AnyB.ready (rs:=[6]) (by kernel_rfl) (by simp) ?_
   refine AllB.cons rfl (fun K hK=>?_) AllB.nil
   go_simp
   go_at_call 89
   refine (pick_any tb lp ln lc xs (j+1) x p q ps pk n c m d ns cs nk ck u2 (HT.out.keep hb2) (by omega) (HX.out.st.keep hb2) (HX.out.wk.keep hb2) hns hnk).mono ?_
   rintro e u3 ⟨⟨A9,rfl,hA⟩,hT,hbt⟩
   have HAm:=qq hA
   clear hA
   have hbu:But tb w2 u3:=(But.of tb hb2).trans hbt
   have HO3:=qq (own_butA HO2.out hbt (fun g hg=>by have:=(HO2.out.lt g hg).1;omega))
   have HT3:=qq hT
   have hs3:=hbu.size
   clear hT hbt
   go_wp2_with fail
   refine hK.out _ _ (fun _=>hSof.out _ hbu) ?_
   clear hK K
   try go_frame
   refine AnyB.ready (rs:=[7]) (by kernel_rfl) (by simp) ?_
   refine AllB.cons rfl (fun K hK=>?_) AllB.nil
   go_simp
   obtain ⟨u4,hW⟩:∃ W,Hid (World.alloc u3 (.cells #[.int .u64 A9] 48)=W):=⟨_,rfl⟩
   rw [hW.out]
   have hb4:Below u3.heap.size u3 u4:=by rw [<-hW.out];exact za1
   have HC4:=qq (show SRow u4 .u64 (some ⟨u3.heap.size,0,none⟩) 1 1 [A9] from by rw [<-hW.out];exact zl7 u3 48 A9)
   have HO4:=qq (zb5 HO3.out hb4)
   clear hW
   have hbu4:But tb w2 u4:=hbu.then hb4
   refine hK.out _ _ (fun _=>hSof.out _ hbu4) ?_
   clear hK K
   try go_frame
   refine AnyB.ready (rs:=[8]) (by kernel_rfl) (by simp) ?_
   refine AllB.cons rfl (fun K hK=>?_) AllB.nil
   rw [if_pos (by rfl)]
   refine ze0 _ _ 24 rfl w2.heap.size 48 i0 (.int .u64 0) 8 Tryz.underlying24 hin hz0 hz1 hz2 rfl v2 (0+ns) ([] ++ zb2 .u64 x.st) rfl HO4.out (some ⟨u3.heap.size,0,none⟩) 1 1 .u64 [A9] rfl HC4.out (by unfold maxLen;omega) (by omega) (by have:=hb4.size;omega) ?_
   intro v5 u5 ho hg
   have hb5:Below w2.heap.size u3 u5:=(hb4.mono hs3).grown hg (by have:=hb4.size;omega) (fun b hb=>(HO4.out.lt b hb).1)
   have hbu5:But tb w2 u5:=hbu.comp hb5 (Nat.le_refl _)
   rw [List.nil_append,ze4] at ho
   obtain ⟨p9,c9,e9,hrow⟩:=SRow.of_own ho
   obtain ⟨N9,hN9⟩:∃ N,Hid (0+ns+1=N):=⟨_,qq rfl⟩
   rw [hN9.out] at e9 hrow
   subst e9
   have HRW:=qq hrow
   clear ho hg hrow
   refine hK.out _ _ (fun _=>hSof.out _ hbu5) ?_
   clear hK K
   try go_frame
   refine AnyB.draw 9 50 (v:=?_) rfl rfl (by kernel_rfl) (by decide) (by kernel_rfl) (by kernel_rfl) (by kernel_rfl) (fun _ _ _ h=>h) (by kernel_rfl) ?hy (hSof.out _ hbu5) (by kernel_rfl) ?_
   case hy=>(intro w hSw;(try dsimp only at hSw);go_simp;(try with_reducible rfl))
   go_frame
   clear hSof HO1 HO2 HO3 HO4 HC4
   replace Ha:=qq (Ha.out.but hbu5 (by omega) (by omega))
   replace Hb:=qq (Hb.out.but hbu5 (by omega) (by omega))
   replace HX:=qq (HX.out.tape HT.out hbu5)
   replace HB:=qq (HB.out.trans hbu5)
   replace HT:=qq (HT3.out.keepB hb5 (by omega))
   replace HK1:=qq ((hbu5.block (w.heap.size+1) (by omega) (by omega)).trans HK1.out)
   replace HK0:=qq ((hbu5.block w.heap.size (by omega) (by omega)).trans HK0.out)
   have hs5:=hbu5.size
   have HWW:=qq (show WW u5 ⟨x.h,x.st ++ [A9],x.wk⟩ p q p9 pk n c m d N9 c9 nk ck from ⟨HX.out.words,HX.out.pages,HX.out.wb,HRW.out,HX.out.wk⟩)
   refine AnyB.ready (rs:=[10]) (by kernel_rfl) (by simp) ?_
   refine AllB.cons rfl (fun K hK=>?_) AllB.nil
   have c6:=Ha.out.cell 6 _ rfl
   have f6:=Ha.out.free 6
   go_simp
   clear c6 f6
   refine hK.out _ _ (fun h=>by cases (show true=false from h)) ?_
   clear hK K
   try go_frame
   refine AnyB.done (by kernel_rfl) ?_ _
   have hbt:But w.heap.size u5 (u5.setCell ⟨w.heap.size,6,none⟩ (.slice p9 N9 c9)):=(But.refl _ _).set 6 _
   obtain ⟨wE,hE⟩:∃ W,Hid (u5.setCell ⟨w.heap.size,6,none⟩ (.slice p9 N9 c9)=W):=⟨_,rfl⟩
   have hoE:OwnL wE w.heap.size [.int .i64 x.h.pw,.int .i64 x.h.np,.slice p n c,.slice q m d,.int .i64 x.h.space,.int .i64 x.h.bump,.slice p9 N9 c9,.slice pk nk ck]:=by rw [<-hE.out];exact Ha.out.set 6 _ (by simp)
   rw [hE.out] at hbt ⊢
   have hwE:=HWW.out.stored (i:=6) (vs:=[.slice p9 N9 c9]) Ha.out (zf3 _ _ _ _ _ _ _ _ _ _ _ _ _ _ _ _) (by simp) hE.out hbt (fun hne ad e=>zm6 HK0.out HX.out.pages ad e hne)
   replace Hb:=qq (Hb.out.but hbt (by omega) (by omega))
   replace HB:=qq (HB.out.store hbt (Nat.le_refl _))
   replace HT:=qq (HT.out.oth hbt (by omega))
   replace HK1:=qq ((hbt.block (w.heap.size+1) (by omega) (by omega)).trans HK1.out)
   have hsE:=hbt.size
   clear Ha HX HWW hbt hE HK0
   have Ha:=qq hoE
   have HX:=qq hwE
   clear hoE hwE
   go_wp2_with (first | ((with_reducible show wpList _ _ _ _ _ _);refine za7 (op:=⟨some 51,.load 31 _,_,_,_,_⟩) rfl _ _ rfl _ rfl _ Ha.out zc1 ?_) | ((with_reducible show wpList _ _ _ _ _ _);refine za6 (op:=⟨none,.store 31 _ _,_,_,_,_⟩) rfl _ _ _ rfl _ ?hx805 [.int .i64 x.h.pw,.int .i64 x.h.np,.slice p n c,.slice q m d,.int .i64 x.h.space,.int .i64 x.h.bump,.slice p9 N9 c9,.slice pk nk ck] _ ?hy805 Hb.out rfl rfl zc1 ?_))
   (try (case hx805=>rfl))
   (try (case hy805=>rfl))
   intro w9 ho hbt hst
   have HZ:=qq ho
   have HX9:=qq (HX.out.wd.stored HK1.out Hb.out rfl hst.out.symm hbt)
   have HT9:=qq (HT.out.oth hbt (by omega))
   have HB9:=qq (HB.out.store hbt (by omega))
   clear ho hbt hst
   go_wp2
   refine bodyPost_ret (zc9 rfl rfl HZ.out zc1) rfl ?_
   exact ⟨⟨_,rfl,⟨x.h,x.st ++ [A9],x.wk⟩,MStep.dup x A9 HAm.out,HX9.out⟩,⟨_,by omega,by omega,HT9.out⟩,HB9.out⟩
end Go.Proofs.YtipjdbhocjpmdaaGreat
