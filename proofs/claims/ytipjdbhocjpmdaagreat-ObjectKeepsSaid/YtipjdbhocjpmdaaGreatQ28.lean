import Derived.Test.YtipjdbhocjpmdaaGreatQ01
import Derived.Test.YtipjdbhocjpmdaaGreatQ27
set_option linter.unusedSimpArgs false
set_option linter.unusedVariables false
set_option maxRecDepth 100000
set_option maxHeartbeats 12800000
namespace Go.Proofs.YtipjdbhocjpmdaaGreat
open Go.RowKit
theorem zl5 {xs:List Int} (h:WB xs) (a:Int):∃ k:Nat,ze1 xs a=k/\k < 18446744073709551616:=by
 have hx:0<=ze1 xs a/\ze1 xs a < 18446744073709551616:=by
  unfold ze1
  split
  · rw [List.getD_eq_getElem?_getD]
    cases hg:xs[(a - 4096).toNat]? with
    | none=>simp
    | some v=>simpa using h v (List.mem_of_getElem? hg)
  · simp
 exact ⟨(ze1 xs a).toNat,by omega,by omega⟩
theorem fwd_notold (S:Nat->Prop) (x:Wk) (p q po pt pq:Option Addr) (n c m d no co nt ct nq cq:Nat) (a:Int) (w:World) (hr:WR w S x p q po pt pq n c m d no co nt ct nq cq) (hS:∀ b,S b->b < w.heap.size) (hn:n<=100000) (ha:a≠0) (hp0:0<=a) (hp1:a < 18446744073709551616) (hq:¬a∈x.queue) (ho:¬a∈x.old) :
 Calls Tryz.prog 138 #[(.agg #[.int .i64 x.h.pw,.int .i64 x.h.np,.slice p n c,.slice q m d,.int .i64 x.h.space,.int .i64 x.h.bump,.slice po no co,.slice pt nt ct,.slice pq nq cq,.int .i64 x.sc,.int .i64 x.r0,.int .i64 x.r1,.int .i64 x.r2,.int .i64 x.r3,.int .i64 x.r4,.int .i64 x.r5]),.int .u64 a] w fun e w'=>RetF S Wk.zero 0 19 e w'/\Below w.heap.size w w':=by
 have HP1:=qq hp1
 clear hp1
 have Hr:=qq (fun w' (hb:Below w.heap.size w w')=>hr.keep hb)
 obtain ⟨S2,hs2,hsa,hsb,hsl,hr2⟩:=hr.box hS
 obtain ⟨w1,hw1,hbx⟩:=boxes2x w 146 [.int .i64 x.h.pw,.int .i64 x.h.np,.slice p n c,.slice q m d,.int .i64 x.h.space,.int .i64 x.h.bump,.slice po no co,.slice pt nt ct,.slice pq nq cq,.int .i64 x.sc,.int .i64 x.r0,.int .i64 x.r1,.int .i64 x.r2,.int .i64 x.r3,.int .i64 x.r4,.int .i64 x.r5] [.int .i64 0,.int .i64 0,.slice none 0 0,.slice none 0 0,.int .i64 0,.int .i64 0,.slice none 0 0,.slice none 0 0,.slice none 0 0,.int .i64 0,.int .i64 0,.int .i64 0,.int .i64 0,.int .i64 0,.int .i64 0,.int .i64 0]
 have Ha:=qq hbx.1
 have Hb:=qq hbx.2.1
 have HB:=qq hbx.2.2
 have HR:=qq (hr2.keep hbx.2.2)
 clear hbx hr2
 have hwa:w.heap.size < w1.heap.size:=Ha.out.lt rfl
 have hwb:w.heap.size+1 < w1.heap.size:=Hb.out.lt rfl
 have hH:=qq (fun w' (hb:Below w1.heap.size w1 w')=>zf1 (b:=false) (decide_eq_false hq) w' (HR.out.keep hb).queue)
 have ha0:(a == 0)=false:=beq_eq_false_iff_ne.2 ha
 clear ha
 clear hr
 have c8:=Ha.out.cell 8 _ rfl
 go_enter Tryz.func138,Tryz.ntmps138
 go_upto_region 1 with fail
 rw [hw1.out]
 clear hw1
 go_wp2_with fail
 refine (hH.out _ (Below.refl _ _)).mono ?_
 rintro e w2 ⟨rfl,hb2⟩
 replace Ha:=qq (Ha.out.keep hb2 hwa)
 replace Hb:=qq (Hb.out.keep hb2 hwb)
 replace HB:=qq (za3 HB.out hb2)
 replace HR:=qq (HR.out.keep hb2)
 replace hwa:w.heap.size < w2.heap.size:=Ha.out.lt rfl
 replace hwb:w.heap.size+1 < w2.heap.size:=Hb.out.lt rfl
 clear hb2
 clear c8
 have c6:=Ha.out.cell 6 _ rfl
 go_wp2_with fail
 refine (zf1 (b:=false) (decide_eq_false ho) w2 HR.out.old).mono ?_
 rintro e w3 ⟨rfl,hb3⟩
 replace Ha:=qq (Ha.out.keep hb3 hwa)
 replace Hb:=qq (Hb.out.keep hb3 hwb)
 replace HB:=qq (za3 HB.out hb3)
 replace HR:=qq (HR.out.keep hb3)
 replace hwa:w.heap.size < w3.heap.size:=Ha.out.lt rfl
 replace hwb:w.heap.size+1 < w3.heap.size:=Hb.out.lt rfl
 clear hb3
 clear c6 ho
 go_wp2_with (first | ((with_reducible show wpList _ _ _ _ _ _);refine za6 (op:=⟨none,.store 146 _ _,_,_,_,_⟩) rfl _ _ _ rfl _ ?hx [.int .i64 0,.int .i64 0,.slice none 0 0,.slice none 0 0,.int .i64 0,.int .i64 0,.slice none 0 0,.slice none 0 0,.slice none 0 0,.int .i64 0,.int .i64 0,.int .i64 0,.int .i64 0,.int .i64 0,.int .i64 0,.int .i64 0] _ ?hy Hb.out rfl rfl za8 ?_))
 case hx=>rfl
 case hy=>rfl
 intro w9 ho hbt hst
 have HZ:=qq ho
 have HXB:=qq (HB.out.trans (hbt.low (by omega) (by omega)))
 clear ho hbt
 go_wp2
 refine bodyPost_ret (ze5 rfl rfl HZ.out za8) rfl ?_
 exact ⟨⟨_,rfl,WV.zero _ _⟩,HXB.out⟩
theorem fwd_target (S:Nat->Prop) (x:Wk) (p q po pt pq:Option Addr) (n c m d no co nt ct nq cq:Nat) (a:Int) (w:World) (hr:WR w S x p q po pt pq n c m d no co nt ct nq cq) (hS:∀ b,S b->b < w.heap.size) (hn:n<=100000) (ha:a≠0) (hp0:0<=a) (hp1:a < 18446744073709551616) (hq:¬a∈x.queue) (ho:a∈x.old) (ht:okT (evWd x a).toNat=true) :
 Calls Tryz.prog 138 #[(.agg #[.int .i64 x.h.pw,.int .i64 x.h.np,.slice p n c,.slice q m d,.int .i64 x.h.space,.int .i64 x.h.bump,.slice po no co,.slice pt nt ct,.slice pq nq cq,.int .i64 x.sc,.int .i64 x.r0,.int .i64 x.r1,.int .i64 x.r2,.int .i64 x.r3,.int .i64 x.r4,.int .i64 x.r5]),.int .u64 a] w fun e w'=>RetF S x (tgtV (evWd x a).toNat) 0 e w'/\Below w.heap.size w w':=by
 have HP1:=qq hp1
 clear hp1
 have Hr:=qq (fun w' (hb:Below w.heap.size w w')=>hr.keep hb)
 obtain ⟨S2,hs2,hsa,hsb,hsl,hr2⟩:=hr.box hS
 obtain ⟨w1,hw1,hbx⟩:=boxes2x w 146 [.int .i64 x.h.pw,.int .i64 x.h.np,.slice p n c,.slice q m d,.int .i64 x.h.space,.int .i64 x.h.bump,.slice po no co,.slice pt nt ct,.slice pq nq cq,.int .i64 x.sc,.int .i64 x.r0,.int .i64 x.r1,.int .i64 x.r2,.int .i64 x.r3,.int .i64 x.r4,.int .i64 x.r5] [.int .i64 0,.int .i64 0,.slice none 0 0,.slice none 0 0,.int .i64 0,.int .i64 0,.slice none 0 0,.slice none 0 0,.slice none 0 0,.int .i64 0,.int .i64 0,.int .i64 0,.int .i64 0,.int .i64 0,.int .i64 0,.int .i64 0]
 have Ha:=qq hbx.1
 have Hb:=qq hbx.2.1
 have HB:=qq hbx.2.2
 have HR:=qq (hr2.keep hbx.2.2)
 clear hbx hr2
 have hwa:w.heap.size < w1.heap.size:=Ha.out.lt rfl
 have hwb:w.heap.size+1 < w1.heap.size:=Hb.out.lt rfl
 have hH:=qq (fun w' (hb:Below w1.heap.size w1 w')=>zf1 (b:=false) (decide_eq_false hq) w' (HR.out.keep hb).queue)
 have ha0:(a == 0)=false:=beq_eq_false_iff_ne.2 ha
 clear ha
 clear hr
 have c8:=Ha.out.cell 8 _ rfl
 go_enter Tryz.func138,Tryz.ntmps138
 go_upto_region 1 with fail
 rw [hw1.out]
 clear hw1
 go_wp2_with fail
 refine (hH.out _ (Below.refl _ _)).mono ?_
 rintro e w2 ⟨rfl,hb2⟩
 replace Ha:=qq (Ha.out.keep hb2 hwa)
 replace Hb:=qq (Hb.out.keep hb2 hwb)
 replace HB:=qq (za3 HB.out hb2)
 replace HR:=qq (HR.out.keep hb2)
 replace hwa:w.heap.size < w2.heap.size:=Ha.out.lt rfl
 replace hwb:w.heap.size+1 < w2.heap.size:=Hb.out.lt rfl
 clear hb2
 clear c8
 have c6:=Ha.out.cell 6 _ rfl
 go_wp2_with fail
 refine (zf1 (b:=true) (decide_eq_true ho) w2 HR.out.old).mono ?_
 rintro e w3 ⟨rfl,hb3⟩
 replace Ha:=qq (Ha.out.keep hb3 hwa)
 replace Hb:=qq (Hb.out.keep hb3 hwb)
 replace HB:=qq (za3 HB.out hb3)
 replace HR:=qq (HR.out.keep hb3)
 replace hwa:w.heap.size < w3.heap.size:=Ha.out.lt rfl
 replace hwb:w.heap.size+1 < w3.heap.size:=Hb.out.lt rfl
 clear hb3
 clear c6 ho
 have c2:=Ha.out.cell 2 _ rfl
 obtain ⟨W0,hW,hWl⟩:=zl5 HR.out.wb a
 have HW:=qq hW
 have HWl:=qq hWl
 clear hW hWl
 go_wp2_with fail
 refine (zd9 p n c x.h.words a w3 HR.out.words (by omega) hp0 HP1.out).mono ?_
 rintro e w4 ⟨rfl,rfl⟩
 rw [HW.out]
 clear c2
 have hT:=zk8 W0 w3 HWl.out
 rw [show okT W0=true from by rw [<-ht];unfold evWd;rw [HW.out];rfl] at hT
 go_wp2_with fail
 refine hT.mono ?_
 rintro e w4 ⟨rfl,rfl⟩
 clear hT
 have HTG:=qq (show tgtV (evWd x a).toNat=tgtV W0 from by unfold evWd;rw [HW.out];rfl)
 obtain ⟨tg,htg⟩:∃ tg,tgtV W0=tg:=⟨_,rfl⟩
 rw [htg] at HTG ⊢
 clear htg
 go_wp2_with (first | ((with_reducible show wpList _ _ _ _ _ _);refine za7 (op:=⟨some 53,.load 146 _,_,_,_,_⟩) rfl _ _ rfl _ rfl _ Ha.out za8 ?_) | ((with_reducible show wpList _ _ _ _ _ _);refine za6 (op:=⟨none,.store 146 _ _,_,_,_,_⟩) rfl _ _ _ rfl _ ?hx [.int .i64 x.h.pw,.int .i64 x.h.np,.slice p n c,.slice q m d,.int .i64 x.h.space,.int .i64 x.h.bump,.slice po no co,.slice pt nt ct,.slice pq nq cq,.int .i64 x.sc,.int .i64 x.r0,.int .i64 x.r1,.int .i64 x.r2,.int .i64 x.r3,.int .i64 x.r4,.int .i64 x.r5] _ ?hy Hb.out rfl rfl za8 ?_))
 case hx=>rfl
 case hy=>rfl
 intro w9 ho hbt hst
 have HZ:=qq ho
 have HXB:=qq (HB.out.trans (hbt.low (by omega) (by omega)))
 clear ho hbt
 go_wp2
 refine bodyPost_ret (ze5 rfl rfl HZ.out za8) rfl ?_
 rw [HTG.out]
 exact ⟨⟨_,rfl,p,q,po,pt,pq,n,c,m,d,no,co,nt,ct,nq,cq,rfl,Hr.out _ HXB.out⟩,HXB.out⟩
theorem fwd_noof (S:Nat->Prop) (x:Wk) (p q po pt pq:Option Addr) (n c m d no co nt ct nq cq:Nat) (a:Int) (w:World) (hr:WR w S x p q po pt pq n c m d no co nt ct nq cq) (hS:∀ b,S b->b < w.heap.size) (hn:n<=100000) (ha:a≠0) (hp0:0<=a) (hp1:a < 18446744073709551616) (hq:¬a∈x.queue) (ho:a∈x.old) (ht:okT (evWd x a).toNat=false) (he:¬ofE x.h.pw x.h.np a=0) :
 Calls Tryz.prog 138 #[(.agg #[.int .i64 x.h.pw,.int .i64 x.h.np,.slice p n c,.slice q m d,.int .i64 x.h.space,.int .i64 x.h.bump,.slice po no co,.slice pt nt ct,.slice pq nq cq,.int .i64 x.sc,.int .i64 x.r0,.int .i64 x.r1,.int .i64 x.r2,.int .i64 x.r3,.int .i64 x.r4,.int .i64 x.r5]),.int .u64 a] w fun e w'=>RetF S Wk.zero 0 19 e w'/\Below w.heap.size w w':=by
 have HP1:=qq hp1
 clear hp1
 have Hr:=qq (fun w' (hb:Below w.heap.size w w')=>hr.keep hb)
 obtain ⟨S2,hs2,hsa,hsb,hsl,hr2⟩:=hr.box hS
 obtain ⟨w1,hw1,hbx⟩:=boxes2x w 146 [.int .i64 x.h.pw,.int .i64 x.h.np,.slice p n c,.slice q m d,.int .i64 x.h.space,.int .i64 x.h.bump,.slice po no co,.slice pt nt ct,.slice pq nq cq,.int .i64 x.sc,.int .i64 x.r0,.int .i64 x.r1,.int .i64 x.r2,.int .i64 x.r3,.int .i64 x.r4,.int .i64 x.r5] [.int .i64 0,.int .i64 0,.slice none 0 0,.slice none 0 0,.int .i64 0,.int .i64 0,.slice none 0 0,.slice none 0 0,.slice none 0 0,.int .i64 0,.int .i64 0,.int .i64 0,.int .i64 0,.int .i64 0,.int .i64 0,.int .i64 0]
 have Ha:=qq hbx.1
 have Hb:=qq hbx.2.1
 have HB:=qq hbx.2.2
 have HR:=qq (hr2.keep hbx.2.2)
 clear hbx hr2
 have hwa:w.heap.size < w1.heap.size:=Ha.out.lt rfl
 have hwb:w.heap.size+1 < w1.heap.size:=Hb.out.lt rfl
 have hH:=qq (fun w' (hb:Below w1.heap.size w1 w')=>zf1 (b:=false) (decide_eq_false hq) w' (HR.out.keep hb).queue)
 have ha0:(a == 0)=false:=beq_eq_false_iff_ne.2 ha
 clear ha
 clear hr
 have c8:=Ha.out.cell 8 _ rfl
 go_enter Tryz.func138,Tryz.ntmps138
 go_upto_region 1 with fail
 rw [hw1.out]
 clear hw1
 go_wp2_with fail
 refine (hH.out _ (Below.refl _ _)).mono ?_
 rintro e w2 ⟨rfl,hb2⟩
 replace Ha:=qq (Ha.out.keep hb2 hwa)
 replace Hb:=qq (Hb.out.keep hb2 hwb)
 replace HB:=qq (za3 HB.out hb2)
 replace HR:=qq (HR.out.keep hb2)
 replace hwa:w.heap.size < w2.heap.size:=Ha.out.lt rfl
 replace hwb:w.heap.size+1 < w2.heap.size:=Hb.out.lt rfl
 clear hb2
 clear c8
 have c6:=Ha.out.cell 6 _ rfl
 go_wp2_with fail
 refine (zf1 (b:=true) (decide_eq_true ho) w2 HR.out.old).mono ?_
 rintro e w3 ⟨rfl,hb3⟩
 replace Ha:=qq (Ha.out.keep hb3 hwa)
 replace Hb:=qq (Hb.out.keep hb3 hwb)
 replace HB:=qq (za3 HB.out hb3)
 replace HR:=qq (HR.out.keep hb3)
 replace hwa:w.heap.size < w3.heap.size:=Ha.out.lt rfl
 replace hwb:w.heap.size+1 < w3.heap.size:=Hb.out.lt rfl
 clear hb3
 clear c6 ho
 have c2:=Ha.out.cell 2 _ rfl
 obtain ⟨W0,hW,hWl⟩:=zl5 HR.out.wb a
 have HW:=qq hW
 have HWl:=qq hWl
 clear hW hWl
 go_wp2_with fail
 refine (zd9 p n c x.h.words a w3 HR.out.words (by omega) hp0 HP1.out).mono ?_
 rintro e w4 ⟨rfl,rfl⟩
 rw [HW.out]
 clear c2
 have hT:=zk8 W0 w3 HWl.out
 rw [show okT W0=false from by rw [<-ht];unfold evWd;rw [HW.out];rfl] at hT
 go_wp2_with fail
 refine hT.mono ?_
 rintro e w4 ⟨rfl,rfl⟩
 clear hT
 have c0:=Ha.out.cell 0 _ rfl
 have c1:=Ha.out.cell 1 _ rfl
 have c3:=Ha.out.cell 3 _ rfl
 obtain ⟨tg,htg⟩:∃ tg,tgtV W0=tg:=⟨_,rfl⟩
 rw [htg]
 clear htg
 have hOf:=zk6 x.h.pw x.h.np a w3 hp0 HP1.out
 obtain ⟨I,hI⟩:∃ I,Hid (evI x a=I):=⟨_,rfl⟩
 obtain ⟨K,hK⟩:∃ K,ofK x.h.pw x.h.np a=K:=⟨_,rfl⟩
 rw [show ofI x.h.pw x.h.np a=I from hI.out,hK] at hOf
 clear hK
 obtain ⟨E,hE⟩:∃ E,ofE x.h.pw x.h.np a=E:=⟨_,rfl⟩
 rw [hE] at hOf he
 have he2:(E != 0)=true:=bne_iff_ne.2 he
 clear hE he
 go_wp2_with fail
 refine hOf.mono ?_
 rintro e w4 ⟨rfl,hb4⟩
 replace Ha:=qq (Ha.out.keep hb4 hwa)
 replace Hb:=qq (Hb.out.keep hb4 hwb)
 replace HB:=qq (za3 HB.out hb4)
 replace HR:=qq (HR.out.keep hb4)
 replace hwa:w.heap.size < w4.heap.size:=Ha.out.lt rfl
 replace hwb:w.heap.size+1 < w4.heap.size:=Hb.out.lt rfl
 clear hb4
 clear hOf c0 c1 c3
 go_wp2_with (first | ((with_reducible show wpList _ _ _ _ _ _);refine za6 (op:=⟨none,.store 146 _ _,_,_,_,_⟩) rfl _ _ _ rfl _ ?hx [.int .i64 0,.int .i64 0,.slice none 0 0,.slice none 0 0,.int .i64 0,.int .i64 0,.slice none 0 0,.slice none 0 0,.slice none 0 0,.int .i64 0,.int .i64 0,.int .i64 0,.int .i64 0,.int .i64 0,.int .i64 0,.int .i64 0] _ ?hy Hb.out rfl rfl za8 ?_))
 case hx=>rfl
 case hy=>rfl
 intro w9 ho hbt hst
 have HZ:=qq ho
 have HXB:=qq (HB.out.trans (hbt.low (by omega) (by omega)))
 clear ho hbt
 go_wp2
 refine bodyPost_ret (ze5 rfl rfl HZ.out za8) rfl ?_
 exact ⟨⟨_,rfl,WV.zero _ _⟩,HXB.out⟩
theorem fwd_nopage (S:Nat->Prop) (x:Wk) (p q po pt pq:Option Addr) (n c m d no co nt ct nq cq:Nat) (a:Int) (w:World) (hr:WR w S x p q po pt pq n c m d no co nt ct nq cq) (hS:∀ b,S b->b < w.heap.size) (hn:n<=100000) (ha:a≠0) (hp0:0<=a) (hp1:a < 18446744073709551616) (hq:¬a∈x.queue) (ho:a∈x.old) (ht:okT (evWd x a).toNat=false) (he:ofE x.h.pw x.h.np a=0) (hi:(m:Int)<=evI x a) :
 Calls Tryz.prog 138 #[(.agg #[.int .i64 x.h.pw,.int .i64 x.h.np,.slice p n c,.slice q m d,.int .i64 x.h.space,.int .i64 x.h.bump,.slice po no co,.slice pt nt ct,.slice pq nq cq,.int .i64 x.sc,.int .i64 x.r0,.int .i64 x.r1,.int .i64 x.r2,.int .i64 x.r3,.int .i64 x.r4,.int .i64 x.r5]),.int .u64 a] w fun e w'=>RetF S Wk.zero 0 19 e w'/\Below w.heap.size w w':=by
 have HP1:=qq hp1
 clear hp1
 have Hr:=qq (fun w' (hb:Below w.heap.size w w')=>hr.keep hb)
 obtain ⟨S2,hs2,hsa,hsb,hsl,hr2⟩:=hr.box hS
 obtain ⟨w1,hw1,hbx⟩:=boxes2x w 146 [.int .i64 x.h.pw,.int .i64 x.h.np,.slice p n c,.slice q m d,.int .i64 x.h.space,.int .i64 x.h.bump,.slice po no co,.slice pt nt ct,.slice pq nq cq,.int .i64 x.sc,.int .i64 x.r0,.int .i64 x.r1,.int .i64 x.r2,.int .i64 x.r3,.int .i64 x.r4,.int .i64 x.r5] [.int .i64 0,.int .i64 0,.slice none 0 0,.slice none 0 0,.int .i64 0,.int .i64 0,.slice none 0 0,.slice none 0 0,.slice none 0 0,.int .i64 0,.int .i64 0,.int .i64 0,.int .i64 0,.int .i64 0,.int .i64 0,.int .i64 0]
 have Ha:=qq hbx.1
 have Hb:=qq hbx.2.1
 have HB:=qq hbx.2.2
 have HR:=qq (hr2.keep hbx.2.2)
 clear hbx hr2
 have hwa:w.heap.size < w1.heap.size:=Ha.out.lt rfl
 have hwb:w.heap.size+1 < w1.heap.size:=Hb.out.lt rfl
 have hH:=qq (fun w' (hb:Below w1.heap.size w1 w')=>zf1 (b:=false) (decide_eq_false hq) w' (HR.out.keep hb).queue)
 have ha0:(a == 0)=false:=beq_eq_false_iff_ne.2 ha
 clear ha
 clear hr
 have c8:=Ha.out.cell 8 _ rfl
 go_enter Tryz.func138,Tryz.ntmps138
 go_upto_region 1 with fail
 rw [hw1.out]
 clear hw1
 go_wp2_with fail
 refine (hH.out _ (Below.refl _ _)).mono ?_
 rintro e w2 ⟨rfl,hb2⟩
 replace Ha:=qq (Ha.out.keep hb2 hwa)
 replace Hb:=qq (Hb.out.keep hb2 hwb)
 replace HB:=qq (za3 HB.out hb2)
 replace HR:=qq (HR.out.keep hb2)
 replace hwa:w.heap.size < w2.heap.size:=Ha.out.lt rfl
 replace hwb:w.heap.size+1 < w2.heap.size:=Hb.out.lt rfl
 clear hb2
 clear c8
 have c6:=Ha.out.cell 6 _ rfl
 go_wp2_with fail
 refine (zf1 (b:=true) (decide_eq_true ho) w2 HR.out.old).mono ?_
 rintro e w3 ⟨rfl,hb3⟩
 replace Ha:=qq (Ha.out.keep hb3 hwa)
 replace Hb:=qq (Hb.out.keep hb3 hwb)
 replace HB:=qq (za3 HB.out hb3)
 replace HR:=qq (HR.out.keep hb3)
 replace hwa:w.heap.size < w3.heap.size:=Ha.out.lt rfl
 replace hwb:w.heap.size+1 < w3.heap.size:=Hb.out.lt rfl
 clear hb3
 clear c6 ho
 have c2:=Ha.out.cell 2 _ rfl
 obtain ⟨W0,hW,hWl⟩:=zl5 HR.out.wb a
 have HW:=qq hW
 have HWl:=qq hWl
 clear hW hWl
 go_wp2_with fail
 refine (zd9 p n c x.h.words a w3 HR.out.words (by omega) hp0 HP1.out).mono ?_
 rintro e w4 ⟨rfl,rfl⟩
 rw [HW.out]
 clear c2
 have hT:=zk8 W0 w3 HWl.out
 rw [show okT W0=false from by rw [<-ht];unfold evWd;rw [HW.out];rfl] at hT
 go_wp2_with fail
 refine hT.mono ?_
 rintro e w4 ⟨rfl,rfl⟩
 clear hT
 have c0:=Ha.out.cell 0 _ rfl
 have c1:=Ha.out.cell 1 _ rfl
 have c3:=Ha.out.cell 3 _ rfl
 obtain ⟨tg,htg⟩:∃ tg,tgtV W0=tg:=⟨_,rfl⟩
 rw [htg]
 clear htg
 have hOf:=zk6 x.h.pw x.h.np a w3 hp0 HP1.out
 obtain ⟨I,hI⟩:∃ I,Hid (evI x a=I):=⟨_,rfl⟩
 obtain ⟨K,hK⟩:∃ K,ofK x.h.pw x.h.np a=K:=⟨_,rfl⟩
 rw [show ofI x.h.pw x.h.np a=I from hI.out,hK,he] at hOf
 clear hK
 go_wp2_with fail
 refine hOf.mono ?_
 rintro e w4 ⟨rfl,hb4⟩
 replace Ha:=qq (Ha.out.keep hb4 hwa)
 replace Hb:=qq (Hb.out.keep hb4 hwb)
 replace HB:=qq (za3 HB.out hb4)
 replace HR:=qq (HR.out.keep hb4)
 replace hwa:w.heap.size < w4.heap.size:=Ha.out.lt rfl
 replace hwb:w.heap.size+1 < w4.heap.size:=Hb.out.lt rfl
 clear hb4
 clear hOf c0 c1 c3
 have c3:=Ha.out.cell 3 _ rfl
 rw [hI.out] at hi
 go_wp2_with (first | ((with_reducible show wpList _ _ _ _ _ _);refine za6 (op:=⟨none,.store 146 _ _,_,_,_,_⟩) rfl _ _ _ rfl _ ?hx [.int .i64 0,.int .i64 0,.slice none 0 0,.slice none 0 0,.int .i64 0,.int .i64 0,.slice none 0 0,.slice none 0 0,.slice none 0 0,.int .i64 0,.int .i64 0,.int .i64 0,.int .i64 0,.int .i64 0,.int .i64 0,.int .i64 0] _ ?hy Hb.out rfl rfl za8 ?_))
 case hx=>rfl
 case hy=>rfl
 intro w9 ho hbt hst
 have HZ:=qq ho
 have HXB:=qq (HB.out.trans (hbt.low (by omega) (by omega)))
 clear ho hbt
 go_wp2
 refine bodyPost_ret (ze5 rfl rfl HZ.out za8) rfl ?_
 exact ⟨⟨_,rfl,WV.zero _ _⟩,HXB.out⟩
theorem fwd_prom (S:Nat->Prop) (x:Wk) (p q po pt pq:Option Addr) (n c m d no co nt ct nq cq:Nat) (a:Int) (w:World) (hr:WR w S x p q po pt pq n c m d no co nt ct nq cq) (hS:∀ b,S b->b < w.heap.size) (hn:n<=100000) (ha:a≠0) (hp0:0<=a) (hp1:a < 18446744073709551616) (hq:¬a∈x.queue) (ho:a∈x.old) (ht:okT (evWd x a).toNat=false) (he:ofE x.h.pw x.h.np a=0) (hi:evI x a < m) (hq5:nq<=1000000) (hpr:zi2 x (evI x a)=true) :
 Calls Tryz.prog 138 #[(.agg #[.int .i64 x.h.pw,.int .i64 x.h.np,.slice p n c,.slice q m d,.int .i64 x.h.space,.int .i64 x.h.bump,.slice po no co,.slice pt nt ct,.slice pq nq cq,.int .i64 x.sc,.int .i64 x.r0,.int .i64 x.r1,.int .i64 x.r2,.int .i64 x.r3,.int .i64 x.r4,.int .i64 x.r5]),.int .u64 a] w fun e w'=>RetF S (zq2 x a) a 0 e w'/\Below w.heap.size w w':=by
 have HP1:=qq hp1
 clear hp1
 have Hr:=qq (fun w' (hb:Below w.heap.size w w')=>hr.keep hb)
 obtain ⟨S2,hs2,hsa,hsb,hsl,hr2⟩:=hr.box hS
 obtain ⟨w1,hw1,hbx⟩:=boxes2x w 146 [.int .i64 x.h.pw,.int .i64 x.h.np,.slice p n c,.slice q m d,.int .i64 x.h.space,.int .i64 x.h.bump,.slice po no co,.slice pt nt ct,.slice pq nq cq,.int .i64 x.sc,.int .i64 x.r0,.int .i64 x.r1,.int .i64 x.r2,.int .i64 x.r3,.int .i64 x.r4,.int .i64 x.r5] [.int .i64 0,.int .i64 0,.slice none 0 0,.slice none 0 0,.int .i64 0,.int .i64 0,.slice none 0 0,.slice none 0 0,.slice none 0 0,.int .i64 0,.int .i64 0,.int .i64 0,.int .i64 0,.int .i64 0,.int .i64 0,.int .i64 0]
 have Ha:=qq hbx.1
 have Hb:=qq hbx.2.1
 have HB:=qq hbx.2.2
 have HR:=qq (hr2.keep hbx.2.2)
 clear hbx hr2
 have hwa:w.heap.size < w1.heap.size:=Ha.out.lt rfl
 have hwb:w.heap.size+1 < w1.heap.size:=Hb.out.lt rfl
 have hH:=qq (fun w' (hb:Below w1.heap.size w1 w')=>zf1 (b:=false) (decide_eq_false hq) w' (HR.out.keep hb).queue)
 have ha0:(a == 0)=false:=beq_eq_false_iff_ne.2 ha
 clear ha
 clear hr
 have c8:=Ha.out.cell 8 _ rfl
 go_enter Tryz.func138,Tryz.ntmps138
 go_upto_region 1 with fail
 rw [hw1.out]
 clear hw1
 go_wp2_with fail
 refine (hH.out _ (Below.refl _ _)).mono ?_
 rintro e w2 ⟨rfl,hb2⟩
 replace Ha:=qq (Ha.out.keep hb2 hwa)
 replace Hb:=qq (Hb.out.keep hb2 hwb)
 replace HB:=qq (za3 HB.out hb2)
 replace HR:=qq (HR.out.keep hb2)
 replace hwa:w.heap.size < w2.heap.size:=Ha.out.lt rfl
 replace hwb:w.heap.size+1 < w2.heap.size:=Hb.out.lt rfl
 clear hb2
 clear c8
 have c6:=Ha.out.cell 6 _ rfl
 go_wp2_with fail
 refine (zf1 (b:=true) (decide_eq_true ho) w2 HR.out.old).mono ?_
 rintro e w3 ⟨rfl,hb3⟩
 replace Ha:=qq (Ha.out.keep hb3 hwa)
 replace Hb:=qq (Hb.out.keep hb3 hwb)
 replace HB:=qq (za3 HB.out hb3)
 replace HR:=qq (HR.out.keep hb3)
 replace hwa:w.heap.size < w3.heap.size:=Ha.out.lt rfl
 replace hwb:w.heap.size+1 < w3.heap.size:=Hb.out.lt rfl
 clear hb3
 clear c6 ho
 have c2:=Ha.out.cell 2 _ rfl
 obtain ⟨W0,hW,hWl⟩:=zl5 HR.out.wb a
 have HW:=qq hW
 have HWl:=qq hWl
 clear hW hWl
 go_wp2_with fail
 refine (zd9 p n c x.h.words a w3 HR.out.words (by omega) hp0 HP1.out).mono ?_
 rintro e w4 ⟨rfl,rfl⟩
 rw [HW.out]
 clear c2
 have hT:=zk8 W0 w3 HWl.out
 rw [show okT W0=false from by rw [<-ht];unfold evWd;rw [HW.out];rfl] at hT
 go_wp2_with fail
 refine hT.mono ?_
 rintro e w4 ⟨rfl,rfl⟩
 clear hT
 have c0:=Ha.out.cell 0 _ rfl
 have c1:=Ha.out.cell 1 _ rfl
 have c3:=Ha.out.cell 3 _ rfl
 obtain ⟨tg,htg⟩:∃ tg,tgtV W0=tg:=⟨_,rfl⟩
 rw [htg]
 clear htg
 have hOf:=zk6 x.h.pw x.h.np a w3 hp0 HP1.out
 obtain ⟨I,hI⟩:∃ I,Hid (evI x a=I):=⟨_,rfl⟩
 obtain ⟨K,hK⟩:∃ K,ofK x.h.pw x.h.np a=K:=⟨_,rfl⟩
 rw [show ofI x.h.pw x.h.np a=I from hI.out,hK,he] at hOf
 clear hK
 go_wp2_with fail
 refine hOf.mono ?_
 rintro e w4 ⟨rfl,hb4⟩
 replace Ha:=qq (Ha.out.keep hb4 hwa)
 replace Hb:=qq (Hb.out.keep hb4 hwb)
 replace HB:=qq (za3 HB.out hb4)
 replace HR:=qq (HR.out.keep hb4)
 replace hwa:w.heap.size < w4.heap.size:=Ha.out.lt rfl
 replace hwb:w.heap.size+1 < w4.heap.size:=Hb.out.lt rfl
 clear hb4
 clear hOf c0 c1 c3
 have c3:=Ha.out.cell 3 _ rfl
 rw [hI.out] at hi
 have hlm:=HR.out.pages.i63.2
 have hPr:=zv3 x p q po pt pq n c m d no co nt ct nq cq I w4 HR.out.taken HR.out.pages
 rw [show zi2 x I=true from by rw [<-hpr,hI.out]] at hPr
 go_wp2_with (first | ((with_reducible show wpList _ _ _ _ _ _);refine za7 (op:=⟨some 75,.load 146 _,_,_,_,_⟩) rfl _ _ rfl _ rfl _ Ha.out za8 ?_))
 refine hPr.mono ?_
 rintro e w5 ⟨rfl,hb5⟩
 replace Ha:=qq (Ha.out.keep hb5 hwa)
 replace Hb:=qq (Hb.out.keep hb5 hwb)
 replace HB:=qq (za3 HB.out hb5)
 replace HR:=qq (HR.out.keep hb5)
 replace hwa:w.heap.size < w5.heap.size:=Ha.out.lt rfl
 replace hwb:w.heap.size+1 < w5.heap.size:=Hb.out.lt rfl
 clear hb5
 clear hPr c3
 have hKp:=yd7 S2 x p q po pt pq n c m d no co nt ct nq cq a w5 HR.out (fun b hb=>by have:=hsl b hb;omega) hq5
 go_wp2_with (first | ((with_reducible show wpList _ _ _ _ _ _);refine za7 (op:=⟨some 78,.load 146 _,_,_,_,_⟩) rfl _ _ rfl _ rfl _ Ha.out za8 ?_))
 refine hKp.mono ?_
 rintro e w6 ⟨⟨v,rfl,p2,q2,po2,pt2,pq2,n2,c2,m2,d2,no2,co2,nt2,ct2,nq2,cq2,rfl,hwr⟩,hb6⟩
 have HKR:=qq hwr
 clear hwr hKp
 replace Ha:=qq (Ha.out.keep hb6 hwa)
 replace Hb:=qq (Hb.out.keep hb6 hwb)
 replace HB:=qq (za3 HB.out hb6)
 replace HR:=qq (HR.out.keep hb6)
 replace hwa:w.heap.size < w6.heap.size:=Ha.out.lt rfl
 replace hwb:w.heap.size+1 < w6.heap.size:=Hb.out.lt rfl
 clear hb6
 have HO9:=qq Hb.out
 go_wp2_with (first | ((with_reducible show wpList _ _ _ _ _ _);refine za6 (op:=⟨none,.store 146 _ _,_,_,_,_⟩) rfl _ _ _ rfl _ ?hx [.int .i64 x.h.pw,.int .i64 x.h.np,.slice p2 n2 c2,.slice q2 m2 d2,.int .i64 x.h.space,.int .i64 x.h.bump,.slice po2 no2 co2,.slice pt2 nt2 ct2,.slice pq2 nq2 cq2,.int .i64 x.sc,.int .i64 x.r0,.int .i64 (zq2 x a).r1,.int .i64 x.r2,.int .i64 x.r3,.int .i64 x.r4,.int .i64 x.r5] _ ?hy Hb.out rfl rfl za8 ?_))
 case hx=>rfl
 case hy=>rfl
 intro w9 ho hbt hst
 have HZ:=qq ho
 have HXB:=qq (HB.out.trans (hbt.low (by omega) (by omega)))
 clear ho hbt
 go_wp2
 refine bodyPost_ret (ze5 rfl rfl HZ.out za8) rfl ?_
 exact ⟨⟨_,rfl,p2,q2,po2,pt2,pq2,n2,c2,m2,d2,no2,co2,nt2,ct2,nq2,cq2,rfl,(HKR.out.stored hsb HO9.out zm2 (by simp) hst).mono hs2⟩,HXB.out⟩
end Go.Proofs.YtipjdbhocjpmdaaGreat
