import Derived.Test.YtipjdbhocjpmdaaGreatQ01
import Derived.Test.YtipjdbhocjpmdaaGreatQ43
import Derived.Deep.DeepCutAuto
set_option linter.unusedSimpArgs false
set_option linter.unusedVariables false
set_option maxRecDepth 100000
set_option maxHeartbeats 12800000
namespace Go.Proofs.YtipjdbhocjpmdaaGreat
open Go.RowKit
theorem noU_wz:noU [.int .i64 0,.int .i64 0,.slice none 0 0,.slice none 0 0,.int .i64 0,.int .i64 0,.slice none 0 0,.slice none 0 0]:=by
 intro j y hy x
 rcases j with _ | _ | _ | _ | _ | _ | _ | _ | j <;> simp at hy
 all_goals (subst hy;intro e;cases e)
theorem mcollect_any (x:Wd) (p q ps pk:Option Addr) (n c m d ns cs nk ck:Nat) (w:World) (hs:SRow w .u64 p n c x.h.words) (hr:PRow w q m d x.h.pages) (hwb:WB x.h.words) (hst:SRow w .u64 ps ns cs x.st) (hwk:SRow w .u64 pk nk ck x.wk) (hsb:WB x.st) (hkb:WB x.wk) (hns:ns<=10000) (hnk:nk<=10000) :
 Calls Tryz.prog 88 #[(.agg #[.int .i64 x.h.pw,.int .i64 x.h.np,.slice p n c,.slice q m d,.int .i64 x.h.space,.int .i64 x.h.bump,.slice ps ns cs,.slice pk nk ck])] w fun e w'=>(∃ v y,e = .returned v/\MStep x y/\WdV w' v y)/\Below w.heap.size w w':=by
 have hCo:=qq (fun w' (hb:Below w.heap.size w w')=>collect_any x.h p q ps pk n c m d ns cs nk ck x.st x.wk w' (hs.keep hb) (PRow.keep hr hb) hwb (hst.keep hb) (hwk.keep hb) hsb hkb (by omega) (by omega))
 have HOLD:=qq (fun w' (hb:Below w.heap.size w w')=>(⟨p,n,c,q,m,d,ps,ns,cs,pk,nk,ck,rfl,hs.keep hb,PRow.keep hr hb,hwb,hst.keep hb,hwk.keep hb⟩:WdV w' (.agg #[.int .i64 x.h.pw,.int .i64 x.h.np,.slice p n c,.slice q m d,.int .i64 x.h.space,.int .i64 x.h.bump,.slice ps ns cs,.slice pk nk ck]) x))
 clear hs hr hst hwk
 obtain ⟨w1,hw1,hbx⟩:=boxes2y w 31 31 [.int .i64 x.h.pw,.int .i64 x.h.np,.slice p n c,.slice q m d,.int .i64 x.h.space,.int .i64 x.h.bump,.slice ps ns cs,.slice pk nk ck] [.int .i64 0,.int .i64 0,.slice none 0 0,.slice none 0 0,.int .i64 0,.int .i64 0,.slice none 0 0,.slice none 0 0]
 have HBK0:=qq (show w1.heap[w.heap.size+1]?=some (.cells ([.int .i64 0,.int .i64 0,.slice none 0 0,.slice none 0 0,.int .i64 0,.int .i64 0,.slice none 0 0,.slice none 0 0]:List Value).toArray 31 (0,0)) from by rw [<-hw1.out];have:=heap_new (w.alloc (.cells #[.int .i64 x.h.pw,.int .i64 x.h.np,.slice p n c,.slice q m d,.int .i64 x.h.space,.int .i64 x.h.bump,.slice ps ns cs,.slice pk nk ck] 31)) (.cells #[.int .i64 0,.int .i64 0,.slice none 0 0,.slice none 0 0,.int .i64 0,.int .i64 0,.slice none 0 0,.slice none 0 0] 31);simpa using this)
 have Ha:=qq hbx.1
 have Hb:=qq hbx.2.1
 have HB:=qq hbx.2.2
 clear hbx
 go_enter Tryz.func88,Tryz.ntmps88
 go_upto_region 1 with fail
 rw [hw1.out]
 clear hw1
 have c0:=Ha.out.cell 0 _ rfl
 have c1:=Ha.out.cell 1 _ rfl
 have c2:=Ha.out.cell 2 _ rfl
 have c3:=Ha.out.cell 3 _ rfl
 have c4:=Ha.out.cell 4 _ rfl
 have c5:=Ha.out.cell 5 _ rfl
 have c6:=Ha.out.cell 6 _ rfl
 have c7:=Ha.out.cell 7 _ rfl
 go_wp2_with fail
 refine (hCo.out w1 HB.out).mono ?_
 rintro e w2 ⟨hC,hb2⟩
 replace Ha:=qq (Ha.out.keep hb2 (Ha.out.lt rfl))
 replace Hb:=qq (Hb.out.keep hb2 (Hb.out.lt rfl))
 replace HB:=qq (za3 HB.out hb2)
 have HBK:=qq (fun (ps:List Pg) (q:Option Addr) (m d:Nat) (hr:PRow w2 q m d ps)=>prow8 ((hb2.block _ (HBK0.out |> fun h=>(Array.getElem?_eq_some_iff.1 h).1)).trans HBK0.out) hr)
 clear HBK0
 clear hb2 hCo c0 c1 c2 c3 c4 c5 c6 c7
 have hwa2:w.heap.size < w2.heap.size:=Ha.out.lt rfl
 have hwb2:w.heap.size+1 < w2.heap.size:=Hb.out.lt rfl
 rcases hC with ⟨er,her,-,v,sp,sn,sc,kp,kn,kc,r0,r1,r2,r3,r4,r5,rfl,hhz,-,-⟩ | ⟨hce,v,sp,sn,sc,kp,kn,kc,r0,r1,r2,r3,r4,r5,rfl,hhv,hsr,hkr⟩
 · obtain ⟨zp,zn,zc,zq,zm,zd,rfl,-,-,-⟩:=hhz
   have hen:(er == 0)=false:=beq_eq_false_iff_ne.2 her
   clear her
   have HN:=qq (show OwnL ((w2.alloc (.cells #[.int .i64 0,.int .i64 0,.slice none 0 0,.slice none 0 0,.int .i64 0,.int .i64 0] 27)).alloc (.cells #[.int .i64 0,.int .i64 0,.int .i64 0,.int .i64 0,.int .i64 0,.int .i64 0] 133)) (w2.heap.size+1) [.int .i64 0,.int .i64 0,.int .i64 0,.int .i64 0,.int .i64 0,.int .i64 0] from by have:=OwnL.new (w2.alloc (.cells #[.int .i64 0,.int .i64 0,.slice none 0 0,.slice none 0 0,.int .i64 0,.int .i64 0] 27)) [.int .i64 0,.int .i64 0,.int .i64 0,.int .i64 0,.int .i64 0,.int .i64 0] 133;simpa using this)
   have HM:=qq ((OwnL.new w2 [.int .i64 0,.int .i64 0,.slice none 0 0,.slice none 0 0,.int .i64 0,.int .i64 0] 27).keep (za1 (o:=.cells #[.int .i64 0,.int .i64 0,.int .i64 0,.int .i64 0,.int .i64 0,.int .i64 0] 133)) (by simp))
   go_wp2_with (first | ((with_reducible show wpList _ _ _ _ _ _);refine za6 (op:=⟨none,.store 27 _ _,_,_,_,_⟩) rfl _ _ _ rfl _ ?hx701 [.int .i64 Hp.zero.pw,.int .i64 Hp.zero.np,.slice zp zn zc,.slice zq zm zd,.int .i64 Hp.zero.space,.int .i64 Hp.zero.bump] _ ?hy701 HM.out rfl rfl zd3 ?_))
   (try (case hx701=>rfl))
   (try (case hy701=>rfl))
   intro w3 ho hbt hst
   have hsz3:=hbt.size
   simp only [World.size_alloc] at hsz3
   have hb3:Below w2.heap.size w2 w3:=(za3 za1 za1).trans (hbt.low (Nat.le_refl _) (by simp;omega))
   have HM2:=qq ho
   have HN2:=qq (HN.out.but hbt (by simp) (by simp))
   clear HM HN ho hbt hst
   go_wp2_with (first | ((with_reducible show wpList _ _ _ _ _ _);refine za6 (op:=⟨none,.store 133 _ _,_,_,_,_⟩) rfl _ _ _ rfl _ ?hx702 [.int .i64 r0,.int .i64 r1,.int .i64 r2,.int .i64 r3,.int .i64 r4,.int .i64 r5] _ ?hy702 HN2.out rfl rfl zk5 ?_))
   (try (case hx702=>rfl))
   (try (case hy702=>rfl))
   intro w4 ho hbt hst
   have hb4:Below w2.heap.size w2 w4:=hb3.trans (hbt.low (by simp) (by omega))
   replace HM2:=qq (HM2.out.but hbt (by omega) (by simp))
   clear HN2 ho hst
   clear HM2 hbt
   replace Ha:=qq (Ha.out.keep hb4 (Ha.out.lt rfl))
   replace Hb:=qq (Hb.out.keep hb4 (Hb.out.lt rfl))
   replace HB:=qq (za3 HB.out hb4)
   clear hb4 hb3
   go_wp2_with (first | ((with_reducible show wpList _ _ _ _ _ _);refine za7 (op:=⟨some 27,.load 31 _,_,_,_,_⟩) rfl _ _ rfl _ rfl _ Ha.out zc1 ?_) | ((with_reducible show wpList _ _ _ _ _ _);refine za6 (op:=⟨none,.store 31 _ _,_,_,_,_⟩) rfl _ _ _ rfl _ ?hx703 [.int .i64 x.h.pw,.int .i64 x.h.np,.slice p n c,.slice q m d,.int .i64 x.h.space,.int .i64 x.h.bump,.slice ps ns cs,.slice pk nk ck] _ ?hy703 Hb.out rfl rfl zc1 ?_))
   (try (case hx703=>rfl))
   (try (case hy703=>rfl))
   intro w5 ho hbt hst
   have HZ:=qq ho
   have HXB:=qq (HB.out.trans (hbt.low (by omega) (by have:=Hb.out.lt rfl;omega)))
   clear ho hbt hst
   go_wp2
   refine bodyPost_ret (zc9 rfl rfl HZ.out zc1) rfl ?_
   exact ⟨⟨_,x,rfl,MStep.none x,HOLD.out _ HXB.out⟩,HXB.out⟩
 · obtain ⟨Y,hY⟩:∃ Y,Hid ((⟨collH x.h x.st x.wk,collS x.h x.st,collK x.h x.st x.wk⟩:Wd)=Y):=⟨_,qq rfl⟩
   have hMS:MStep x Y:=by rw [<-hY.out];exact MStep.collect x hce
   rw [show collH x.h x.st x.wk=Y.h from by rw [<-hY.out]] at hhv
   rw [show collS x.h x.st=Y.st from by rw [<-hY.out]] at hsr
   rw [show collK x.h x.st x.wk=Y.wk from by rw [<-hY.out]] at hkr
   clear hce hY
   obtain ⟨hp,hn,hc,hq,hm,hd,rfl,hw1,hw2,hw3⟩:=hhv
   have HR1:=qq hw1
   have HR2:=qq hw2
   have HR3:=qq hw3
   have HR4:=qq hsr
   have HR5:=qq hkr
   have HMS:=qq hMS
   clear hw1 hw2 hw3 hsr hkr hMS HOLD Ha
   have HPF:=qq (show Y.h.pages≠[]->∀ ad,hq=some ad->ad.block≠w.heap.size+1 from fun hne ad e=>by have:=0;exact HBK.out Y.h.pages hq hm hd HR2.out ad e hne)
   have HN:=qq (show OwnL ((w2.alloc (.cells #[.int .i64 0,.int .i64 0,.slice none 0 0,.slice none 0 0,.int .i64 0,.int .i64 0] 27)).alloc (.cells #[.int .i64 0,.int .i64 0,.int .i64 0,.int .i64 0,.int .i64 0,.int .i64 0] 133)) (w2.heap.size+1) [.int .i64 0,.int .i64 0,.int .i64 0,.int .i64 0,.int .i64 0,.int .i64 0] from by have:=OwnL.new (w2.alloc (.cells #[.int .i64 0,.int .i64 0,.slice none 0 0,.slice none 0 0,.int .i64 0,.int .i64 0] 27)) [.int .i64 0,.int .i64 0,.int .i64 0,.int .i64 0,.int .i64 0,.int .i64 0] 133;simpa using this)
   have HM:=qq ((OwnL.new w2 [.int .i64 0,.int .i64 0,.slice none 0 0,.slice none 0 0,.int .i64 0,.int .i64 0] 27).keep (za1 (o:=.cells #[.int .i64 0,.int .i64 0,.int .i64 0,.int .i64 0,.int .i64 0,.int .i64 0] 133)) (by simp))
   go_wp2_with (first | ((with_reducible show wpList _ _ _ _ _ _);refine za6 (op:=⟨none,.store 27 _ _,_,_,_,_⟩) rfl _ _ _ rfl _ ?hx704 [.int .i64 Y.h.pw,.int .i64 Y.h.np,.slice hp hn hc,.slice hq hm hd,.int .i64 Y.h.space,.int .i64 Y.h.bump] _ ?hy704 HM.out rfl rfl zd3 ?_))
   (try (case hx704=>rfl))
   (try (case hy704=>rfl))
   intro w3 ho hbt hst
   have hsz3:=hbt.size
   simp only [World.size_alloc] at hsz3
   have hb3:Below w2.heap.size w2 w3:=(za3 za1 za1).trans (hbt.low (Nat.le_refl _) (by simp;omega))
   have HM2:=qq ho
   have HN2:=qq (HN.out.but hbt (by simp) (by simp))
   clear HM HN ho hbt hst
   go_wp2_with (first | ((with_reducible show wpList _ _ _ _ _ _);refine za6 (op:=⟨none,.store 133 _ _,_,_,_,_⟩) rfl _ _ _ rfl _ ?hx705 [.int .i64 r0,.int .i64 r1,.int .i64 r2,.int .i64 r3,.int .i64 r4,.int .i64 r5] _ ?hy705 HN2.out rfl rfl zk5 ?_))
   (try (case hx705=>rfl))
   (try (case hy705=>rfl))
   intro w4 ho hbt hst
   have hb4:Below w2.heap.size w2 w4:=hb3.trans (hbt.low (by simp) (by omega))
   replace HM2:=qq (HM2.out.but hbt (by omega) (by simp))
   clear HN2 ho hst
   clear hbt
   replace Hb:=qq (Hb.out.keep hb4 (Hb.out.lt rfl))
   replace HB:=qq (za3 HB.out hb4)
   replace HR1:=qq (HR1.out.keep hb4)
   replace HR2:=qq (PRow.keep HR2.out hb4)
   replace HR4:=qq (HR4.out.keep hb4)
   replace HR5:=qq (HR5.out.keep hb4)
   clear hb4 hb3
   go_wp2_with (first | ((with_reducible show wpList _ _ _ _ _ _);refine za7 (op:=⟨some 23,.load 27 _,_,_,_,_⟩) rfl _ _ rfl _ rfl _ HM2.out zd3 ?_) | ((with_reducible show wpList _ _ _ _ _ _);refine za6 (op:=⟨none,.store 31 _ _,_,_,_,_⟩) rfl _ _ _ rfl _ ?hx706 [.int .i64 Y.h.pw,.int .i64 Y.h.np,.slice hp hn hc,.slice hq hm hd,.int .i64 Y.h.space,.int .i64 Y.h.bump,.slice sp sn sc,.slice kp kn kc] _ ?hy706 Hb.out rfl rfl zc1 ?_))
   (try (case hx706=>rfl))
   (try (case hy706=>rfl))
   intro w5 ho hbt hst
   have HZ:=qq ho
   have hlb:=Hb.out.lt rfl
   have HXB:=qq (HB.out.trans (hbt.low (by omega) (by omega)))
   have hHR1:=zc3 (b:=w.heap.size+1) [.int .i64 Y.h.pw,.int .i64 Y.h.np,.slice hp hn hc,.slice hq hm hd,.int .i64 Y.h.space,.int .i64 Y.h.bump,.slice sp sn sc,.slice kp kn kc] 0 _ _ HR1.out Hb.out (fun j y _=>noU_wz j y) (by simp)
   rw [<-zb7,<-hst.out] at hHR1
   have hHR4:=zc3 (b:=w.heap.size+1) [.int .i64 Y.h.pw,.int .i64 Y.h.np,.slice hp hn hc,.slice hq hm hd,.int .i64 Y.h.space,.int .i64 Y.h.bump,.slice sp sn sc,.slice kp kn kc] 0 _ _ HR4.out Hb.out (fun j y _=>noU_wz j y) (by simp)
   rw [<-zb7,<-hst.out] at hHR4
   have hHR5:=zc3 (b:=w.heap.size+1) [.int .i64 Y.h.pw,.int .i64 Y.h.np,.slice hp hn hc,.slice hq hm hd,.int .i64 Y.h.space,.int .i64 Y.h.bump,.slice sp sn sc,.slice kp kn kc] 0 _ _ HR5.out Hb.out (fun j y _=>noU_wz j y) (by simp)
   rw [<-zb7,<-hst.out] at hHR5
   have hHR2:PRow w5 hq hm hd Y.h.pages:=VRow.butNe HR2.out hbt (fun hne ad e=>HPF.out (fun e0=>hne (by rw [e0];rfl)) ad e)
   have K1:=qq hHR1
   have K2:=qq hHR2
   have K4:=qq hHR4
   have K5:=qq hHR5
   clear ho hbt hst hHR1 hHR2 hHR4 hHR5 hlb
   go_wp2
   refine bodyPost_ret (zc9 rfl rfl HZ.out zc1) rfl ?_
   exact ⟨⟨_,Y,rfl,HMS.out,⟨hp,hn,hc,hq,hm,hd,sp,sn,sc,kp,kn,kc,rfl,K1.out,K2.out,HR3.out,K4.out,K5.out⟩⟩,HXB.out⟩
end Go.Proofs.YtipjdbhocjpmdaaGreat
