import Derived.Test.YtipjdbhocjpmdaaGreatQ01
import Derived.Test.YtipjdbhocjpmdaaGreatQ28
import Derived.Test.YtipjdbhocjpmdaaGreatQ29
set_option linter.unusedSimpArgs false
set_option linter.unusedVariables false
set_option maxRecDepth 100000
set_option maxHeartbeats 12800000
namespace Go.Proofs.YtipjdbhocjpmdaaGreat
open Go.RowKit
theorem decM_bd (x:Nat):0<=decM x/\decM x < 4294967296:=by
 unfold decM
 split
 · unfold dM;have:x / 65536 % 4294967296 < 4294967296:=Nat.mod_lt _ (by omega);omega
 · omega
theorem evN_bd (x:Wk) (a:Int):0<=evN x a/\evN x a<=1000:=by
 unfold evN zd8
 split
 · rename_i h
   unfold zb3 at h
   have:=of_decide_eq_true h
   omega
 · omega
theorem fwd_noroom (S:Nat->Prop) (x:Wk) (p q po pt pq:Option Addr) (n c m d no co nt ct nq cq:Nat) (a:Int) (w:World) (hr:WR w S x p q po pt pq n c m d no co nt ct nq cq) (hS:∀ b,S b->b < w.heap.size) (hn:n<=100000) (ha:a≠0) (hp0:0<=a) (hp1:a < 18446744073709551616) (hq:¬a∈x.queue) (ho:a∈x.old) (ht:okT (evWd x a).toNat=false) (he:ofE x.h.pw x.h.np a=0) (hi:evI x a < m) (hi0:0<=evI x a) (hq5:nq<=1000000) (hx:PlOK x) (hpr:zi2 x (evI x a)=false) (hbig:evBig x a=false) (hpl:plB x (evN x a)=false) :
 Calls Tryz.prog 138 #[(.agg #[.int .i64 x.h.pw,.int .i64 x.h.np,.slice p n c,.slice q m d,.int .i64 x.h.space,.int .i64 x.h.bump,.slice po no co,.slice pt nt ct,.slice pq nq cq,.int .i64 x.sc,.int .i64 x.r0,.int .i64 x.r1,.int .i64 x.r2,.int .i64 x.r3,.int .i64 x.r4,.int .i64 x.r5]),.int .u64 a] w fun e w'=>RetF S Wk.zero 0 3 e w'/\Below w.heap.size w w':=by
 have HP1:=qq hp1
 clear hp1
 have Hr:=qq (fun w' (hb:Below w.heap.size w w')=>hr.keep hb)
 obtain ⟨S2,hs2,hsa,hsb,hsl,hr2⟩:=hr.box hS
 obtain ⟨w1,hw1,hbx⟩:=boxes2x w 146 [.int .i64 x.h.pw,.int .i64 x.h.np,.slice p n c,.slice q m d,.int .i64 x.h.space,.int .i64 x.h.bump,.slice po no co,.slice pt nt ct,.slice pq nq cq,.int .i64 x.sc,.int .i64 x.r0,.int .i64 x.r1,.int .i64 x.r2,.int .i64 x.r3,.int .i64 x.r4,.int .i64 x.r5] [.int .i64 0,.int .i64 0,.slice none 0 0,.slice none 0 0,.int .i64 0,.int .i64 0,.slice none 0 0,.slice none 0 0,.slice none 0 0,.int .i64 0,.int .i64 0,.int .i64 0,.int .i64 0,.int .i64 0,.int .i64 0,.int .i64 0]
 have Ha:=qq hbx.1
 have Hb:=qq hbx.2.1
 have HB:=qq hbx.2.2
 have HR:=qq (hr2.keep hbx.2.2)
 clear hbx hr2
 have hwa:w.heap.size < w1.heap.size:=Ha.out.lt rfl
 have hwb:w.heap.size+1 < w1.heap.size:=Hb.out.lt rfl
 have hH:=qq (fun w' (hb:Below w1.heap.size w1 w')=>zf1 (b:=false) (decide_eq_false hq) w' (HR.out.keep hb).queue)
 have ha0:(a == 0)=false:=beq_eq_false_iff_ne.2 ha
 clear ha
 clear hr
 have c8:=Ha.out.cell 8 _ rfl
 go_enter Tryz.func138,Tryz.ntmps138
 go_upto_region 1 with fail
 rw [hw1.out]
 clear hw1
 go_wp2_with fail
 refine (hH.out _ (Below.refl _ _)).mono ?_
 rintro e w2 ⟨rfl,hb2⟩
 replace Ha:=qq (Ha.out.keep hb2 hwa)
 replace Hb:=qq (Hb.out.keep hb2 hwb)
 replace HB:=qq (za3 HB.out hb2)
 replace HR:=qq (HR.out.keep hb2)
 replace hwa:w.heap.size < w2.heap.size:=Ha.out.lt rfl
 replace hwb:w.heap.size+1 < w2.heap.size:=Hb.out.lt rfl
 clear hb2
 clear c8
 have c6:=Ha.out.cell 6 _ rfl
 go_wp2_with fail
 refine (zf1 (b:=true) (decide_eq_true ho) w2 HR.out.old).mono ?_
 rintro e w3 ⟨rfl,hb3⟩
 replace Ha:=qq (Ha.out.keep hb3 hwa)
 replace Hb:=qq (Hb.out.keep hb3 hwb)
 replace HB:=qq (za3 HB.out hb3)
 replace HR:=qq (HR.out.keep hb3)
 replace hwa:w.heap.size < w3.heap.size:=Ha.out.lt rfl
 replace hwb:w.heap.size+1 < w3.heap.size:=Hb.out.lt rfl
 clear hb3
 clear c6 ho
 have c2:=Ha.out.cell 2 _ rfl
 obtain ⟨W0,hW,hWl⟩:=zl5 HR.out.wb a
 have HW:=qq hW
 have HWl:=qq hWl
 clear hW hWl
 go_wp2_with fail
 refine (zd9 p n c x.h.words a w3 HR.out.words (by omega) hp0 HP1.out).mono ?_
 rintro e w4 ⟨rfl,rfl⟩
 rw [HW.out]
 clear c2
 have hT:=zk8 W0 w3 HWl.out
 rw [show okT W0=false from by rw [<-ht];unfold evWd;rw [HW.out];rfl] at hT
 go_wp2_with fail
 refine hT.mono ?_
 rintro e w4 ⟨rfl,rfl⟩
 clear hT
 have c0:=Ha.out.cell 0 _ rfl
 have c1:=Ha.out.cell 1 _ rfl
 have c3:=Ha.out.cell 3 _ rfl
 obtain ⟨tg,htg⟩:∃ tg,tgtV W0=tg:=⟨_,rfl⟩
 rw [htg]
 clear htg
 have hOf:=zk6 x.h.pw x.h.np a w3 hp0 HP1.out
 obtain ⟨I,hI⟩:∃ I,Hid (evI x a=I):=⟨_,rfl⟩
 obtain ⟨K,hK⟩:∃ K,ofK x.h.pw x.h.np a=K:=⟨_,rfl⟩
 rw [show ofI x.h.pw x.h.np a=I from hI.out,hK,he] at hOf
 clear hK
 go_wp2_with fail
 refine hOf.mono ?_
 rintro e w4 ⟨rfl,hb4⟩
 replace Ha:=qq (Ha.out.keep hb4 hwa)
 replace Hb:=qq (Hb.out.keep hb4 hwb)
 replace HB:=qq (za3 HB.out hb4)
 replace HR:=qq (HR.out.keep hb4)
 replace hwa:w.heap.size < w4.heap.size:=Ha.out.lt rfl
 replace hwb:w.heap.size+1 < w4.heap.size:=Hb.out.lt rfl
 clear hb4
 clear hOf c0 c1 c3
 have c3:=Ha.out.cell 3 _ rfl
 rw [hI.out] at hi
 have hlm:=HR.out.pages.i63.2
 have hPr:=zv3 x p q po pt pq n c m d no co nt ct nq cq I w4 HR.out.taken HR.out.pages
 rw [show zi2 x I=false from by rw [<-hpr,hI.out]] at hPr
 go_wp2_with (first | ((with_reducible show wpList _ _ _ _ _ _);refine za7 (op:=⟨some 75,.load 146 _,_,_,_,_⟩) rfl _ _ rfl _ rfl _ Ha.out za8 ?_))
 refine hPr.mono ?_
 rintro e w5 ⟨rfl,hb5⟩
 replace Ha:=qq (Ha.out.keep hb5 hwa)
 replace Hb:=qq (Hb.out.keep hb5 hwb)
 replace HB:=qq (za3 HB.out hb5)
 replace HR:=qq (HR.out.keep hb5)
 replace hwa:w.heap.size < w5.heap.size:=Ha.out.lt rfl
 replace hwb:w.heap.size+1 < w5.heap.size:=Hb.out.lt rfl
 clear hb5
 clear hPr c3
 rw [hI.out] at hi0
 obtain ⟨k,rfl⟩:∃ k:Nat,I=k:=⟨I.toNat,by omega⟩
 have hkm:k < m:=by omega
 obtain ⟨g,b5,off,hxg,hqq,y0,y1,y2,y3⟩:=HR.out.pages.at_ hkm
 subst hqq
 have hkd:(g.kind == 2)=false:=by have:=hbig;unfold evBig at this;rw [hI.out,Int.toNat_natCast,zc6 hxg] at this;simpa using this
 have HXG:=qq hxg
 clear hxg hbig
 have c3:=Ha.out.cell 3 _ rfl
 obtain ⟨NN,hNN⟩:∃ NN,Hid (evN x a=NN):=⟨_,rfl⟩
 obtain ⟨hm0,hm1⟩:=decM_bd W0
 obtain ⟨hn0,hn9⟩:=evN_bd x a
 rw [hNN.out] at hn0 hn9
 have hsz:=zn3 (decK W0) (decN W0) (decM W0)
 rw [show zd8 (decK W0) (decN W0) (decM W0)=NN from by rw [<-hNN.out];unfold evN evWd;rw [HW.out];rfl] at hsz
 have HSz:=qq (fun w=>hsz w hm0 hm1)
 clear hsz
 have hDc:=zs0 W0 w5 HWl.out
 obtain ⟨KD,hKD⟩:∃ KD,decK W0=KD:=⟨_,rfl⟩
 obtain ⟨ND,hND⟩:∃ ND,decN W0=ND:=⟨_,rfl⟩
 obtain ⟨MD,hMD⟩:∃ MD,decM W0=MD:=⟨_,rfl⟩
 obtain ⟨OD,hOD⟩:∃ OD,okD W0=OD:=⟨_,rfl⟩
 rw [hKD,hND,hMD] at HSz
 rw [hKD,hND,hMD,hOD] at hDc
 clear hKD hND hMD hOD hm0 hm1
 go_wp2_with fail
 refine hDc.mono ?_
 rintro e w6 ⟨rfl,hb6⟩
 replace Ha:=qq (Ha.out.keep hb6 hwa)
 replace Hb:=qq (Hb.out.keep hb6 hwb)
 replace HB:=qq (za3 HB.out hb6)
 replace HR:=qq (HR.out.keep hb6)
 replace hwa:w.heap.size < w6.heap.size:=Ha.out.lt rfl
 replace hwb:w.heap.size+1 < w6.heap.size:=Hb.out.lt rfl
 clear y0 y1 y2 y3 c3 hDc
 clear hb6
 go_wp2_with fail
 refine (HSz.out _).mono ?_
 rintro e w7 ⟨rfl,hb7⟩
 have hb8:Below w6.heap.size w6 w7:=za3 za1 hb7
 clear hb7 HSz
 replace Ha:=qq (Ha.out.keep hb8 hwa)
 replace Hb:=qq (Hb.out.keep hb8 hwb)
 replace HB:=qq (za3 HB.out hb8)
 replace HR:=qq (HR.out.keep hb8)
 replace hwa:w.heap.size < w7.heap.size:=Ha.out.lt rfl
 replace hwb:w.heap.size+1 < w7.heap.size:=Hb.out.lt rfl
 clear hb8
 have hPl:=refplace_any S2 x p (some ⟨b5,off,none⟩) po pt pq n c m d no co nt ct nq cq NN w7 HR.out (fun b hb=>by have:=hsl b hb;omega) hx hn0 hn9
 obtain ⟨AT,hAT⟩:∃ AT,Hid (plA x NN=AT):=⟨_,rfl⟩
 rw [show plB x NN=false from by rw [<-hpl,hNN.out],hAT.out] at hPl
 go_wp2_with (first | ((with_reducible show wpList _ _ _ _ _ _);refine za7 (op:=⟨some 149,.load 146 _,_,_,_,_⟩) rfl _ _ rfl _ rfl _ Ha.out za8 ?_))
 refine hPl.mono ?_
 rintro e w8 ⟨⟨v,rfl,p2,q2,po2,pt2,pq2,n2,c2,m2,d2,no2,co2,nt2,ct2,nq2,cq2,rfl,hwr⟩,hb9⟩
 have HP:=qq hwr
 clear hwr hPl
 replace Ha:=qq (Ha.out.keep hb9 hwa)
 replace Hb:=qq (Hb.out.keep hb9 hwb)
 replace HB:=qq (za3 HB.out hb9)
 replace HR:=qq (HR.out.keep hb9)
 replace hwa:w.heap.size < w8.heap.size:=Ha.out.lt rfl
 replace hwb:w.heap.size+1 < w8.heap.size:=Hb.out.lt rfl
 clear hb9
 have HN:=qq (OwnL.new w8 [.int .i64 0,.int .i64 0,.slice none 0 0,.slice none 0 0,.int .i64 0,.int .i64 0,.slice none 0 0,.slice none 0 0,.slice none 0 0,.int .i64 0,.int .i64 0,.int .i64 0,.int .i64 0,.int .i64 0,.int .i64 0,.int .i64 0] 146)
 go_wp2_with (first | ((with_reducible show wpList _ _ _ _ _ _);refine za6 (op:=⟨none,.store 146 _ _,_,_,_,_⟩) rfl _ _ _ rfl _ ?hx [.int .i64 0,.int .i64 0,.slice p2 n2 c2,.slice q2 m2 d2,.int .i64 0,.int .i64 0,.slice po2 no2 co2,.slice pt2 nt2 ct2,.slice pq2 nq2 cq2,.int .i64 0,.int .i64 0,.int .i64 0,.int .i64 0,.int .i64 0,.int .i64 0,.int .i64 0] _ ?hy HN.out rfl rfl za8 ?_))
 case hx=>rfl
 case hy=>rfl
 intro w10 ho2 hbt2 hst2
 have hb10:Below w8.heap.size w8 w10:=za1.trans (hbt2.low (Nat.le_refl _) (by simp))
 clear HN ho2 hbt2 hst2
 replace Ha:=qq (Ha.out.keep hb10 hwa)
 replace Hb:=qq (Hb.out.keep hb10 hwb)
 replace HB:=qq (za3 HB.out hb10)
 replace HR:=qq (HR.out.keep hb10)
 replace hwa:w.heap.size < w10.heap.size:=Ha.out.lt rfl
 replace hwb:w.heap.size+1 < w10.heap.size:=Hb.out.lt rfl
 clear hb10
 have hl9:=Hb.out.lt rfl
 go_wp2_with (first | ((with_reducible show wpList _ _ _ _ _ _);refine za6 (op:=⟨none,.store 146 _ _,_,_,_,_⟩) rfl _ _ _ rfl _ ?hx [.int .i64 0,.int .i64 0,.slice none 0 0,.slice none 0 0,.int .i64 0,.int .i64 0,.slice none 0 0,.slice none 0 0,.slice none 0 0,.int .i64 0,.int .i64 0,.int .i64 0,.int .i64 0,.int .i64 0,.int .i64 0,.int .i64 0] _ ?hy Hb.out rfl rfl za8 ?_))
 case hx=>rfl
 case hy=>rfl
 intro w9 ho hbt hst
 have HZ:=qq ho
 have HXB:=qq (HB.out.trans (hbt.low (by omega) (by omega)))
 clear ho hbt
 go_wp2
 refine bodyPost_ret (ze5 rfl rfl HZ.out za8) rfl ?_
 exact ⟨⟨_,rfl,WV.zero _ _⟩,HXB.out⟩
theorem plA_bd {x:Wk} {n:Int} (hx:PlOK x) (hb:plB x n=true):0<=plA x n/\plA x n < 18446744073709551616:=by
 obtain ⟨j,y,s1,s2,s3,s4,s5,s6,-⟩:=ya7 hx hb
 have k1:=hx.pw0
 have k2:=hx.pw1
 have k3:=hx.np1
 have hJ0:0<=(j:Int)*x.h.pw:=Int.mul_nonneg (by omega) (by omega)
 have hJ1:(j:Int)*x.h.pw<=64*64:=Int.mul_le_mul (by omega) k2 (by omega) (by omega)
 unfold plA
 rw [s1,Int.toNat_natCast,zc6 s4]
 omega
theorem moveV_le (xs:List Int) (t f n:Int):(zj0 xs t f n).length<=xs.length:=by
 unfold zj0
 split
 · simp
 · split
   · rename_i h0 h
     have h1:=of_decide_eq_true h.1
     rw [zo7 (by rw [List.length_take,List.length_drop];omega)]
     exact Nat.le_refl _
   · simp
theorem wb_move {xs:List Int} (h:WB xs) (t f n:Int):WB (zj0 xs t f n):=by
 unfold zj0
 split
 · exact WB.nil
 · split
   · exact wb_splice h (fun v hv=>h v (List.mem_of_mem_drop (List.mem_of_mem_take hv)))
   · exact WB.nil
theorem copyWB {x:Wk} {a:Int} (hx:PlOK x) (hb:plB x (evN x a)=true) (h:WB x.h.words):WB (zh5 x a).h.words:=by
 show WB (zc8 (zj0 x.h.words _ a _) a [fwdV _])
 refine zt1 (wb_move h _ _ _) (fun v hv=>?_)
 simp only [List.mem_singleton] at hv
 subst hv
 have:=plA_bd hx hb
 unfold fwdV
 split <;> omega
theorem fwd_copy (S:Nat->Prop) (x:Wk) (p q po pt pq:Option Addr) (n c m d no co nt ct nq cq:Nat) (a:Int) (w:World) (hr:WR w S x p q po pt pq n c m d no co nt ct nq cq) (hS:∀ b,S b->b < w.heap.size) (hn:n<=100000) (ha:a≠0) (hp0:0<=a) (hp1:a < 18446744073709551616) (hq:¬a∈x.queue) (ho:a∈x.old) (ht:okT (evWd x a).toNat=false) (he:ofE x.h.pw x.h.np a=0) (hi:evI x a < m) (hi0:0<=evI x a) (hq5:nq<=1000000) (hx:PlOK x) (hpr:zi2 x (evI x a)=false) (hbig:evBig x a=false) (hpl:plB x (evN x a)=true) :
 Calls Tryz.prog 138 #[(.agg #[.int .i64 x.h.pw,.int .i64 x.h.np,.slice p n c,.slice q m d,.int .i64 x.h.space,.int .i64 x.h.bump,.slice po no co,.slice pt nt ct,.slice pq nq cq,.int .i64 x.sc,.int .i64 x.r0,.int .i64 x.r1,.int .i64 x.r2,.int .i64 x.r3,.int .i64 x.r4,.int .i64 x.r5]),.int .u64 a] w fun e w'=>RetF S (zh5 x a) (plA x (evN x a)) 0 e w'/\Below w.heap.size w w':=by
 have HP1:=qq hp1
 clear hp1
 have Hr:=qq (fun w' (hb:Below w.heap.size w w')=>hr.keep hb)
 obtain ⟨S2,hs2,hsa,hsb,hsl,hr2⟩:=hr.box hS
 obtain ⟨w1,hw1,hbx⟩:=boxes2x w 146 [.int .i64 x.h.pw,.int .i64 x.h.np,.slice p n c,.slice q m d,.int .i64 x.h.space,.int .i64 x.h.bump,.slice po no co,.slice pt nt ct,.slice pq nq cq,.int .i64 x.sc,.int .i64 x.r0,.int .i64 x.r1,.int .i64 x.r2,.int .i64 x.r3,.int .i64 x.r4,.int .i64 x.r5] [.int .i64 0,.int .i64 0,.slice none 0 0,.slice none 0 0,.int .i64 0,.int .i64 0,.slice none 0 0,.slice none 0 0,.slice none 0 0,.int .i64 0,.int .i64 0,.int .i64 0,.int .i64 0,.int .i64 0,.int .i64 0,.int .i64 0]
 have Ha:=qq hbx.1
 have Hb:=qq hbx.2.1
 have HB:=qq hbx.2.2
 have HR:=qq (hr2.keep hbx.2.2)
 clear hbx hr2
 have hwa:w.heap.size < w1.heap.size:=Ha.out.lt rfl
 have hwb:w.heap.size+1 < w1.heap.size:=Hb.out.lt rfl
 have hH:=qq (fun w' (hb:Below w1.heap.size w1 w')=>zf1 (b:=false) (decide_eq_false hq) w' (HR.out.keep hb).queue)
 have ha0:(a == 0)=false:=beq_eq_false_iff_ne.2 ha
 clear ha
 clear hr
 have c8:=Ha.out.cell 8 _ rfl
 go_enter Tryz.func138,Tryz.ntmps138
 go_upto_region 1 with fail
 rw [hw1.out]
 clear hw1
 go_wp2_with fail
 refine (hH.out _ (Below.refl _ _)).mono ?_
 rintro e w2 ⟨rfl,hb2⟩
 replace Ha:=qq (Ha.out.keep hb2 hwa)
 replace Hb:=qq (Hb.out.keep hb2 hwb)
 replace HB:=qq (za3 HB.out hb2)
 replace HR:=qq (HR.out.keep hb2)
 replace hwa:w.heap.size < w2.heap.size:=Ha.out.lt rfl
 replace hwb:w.heap.size+1 < w2.heap.size:=Hb.out.lt rfl
 clear hb2
 clear c8
 have c6:=Ha.out.cell 6 _ rfl
 go_wp2_with fail
 refine (zf1 (b:=true) (decide_eq_true ho) w2 HR.out.old).mono ?_
 rintro e w3 ⟨rfl,hb3⟩
 replace Ha:=qq (Ha.out.keep hb3 hwa)
 replace Hb:=qq (Hb.out.keep hb3 hwb)
 replace HB:=qq (za3 HB.out hb3)
 replace HR:=qq (HR.out.keep hb3)
 replace hwa:w.heap.size < w3.heap.size:=Ha.out.lt rfl
 replace hwb:w.heap.size+1 < w3.heap.size:=Hb.out.lt rfl
 clear hb3
 clear c6 ho
 have c2:=Ha.out.cell 2 _ rfl
 obtain ⟨W0,hW,hWl⟩:=zl5 HR.out.wb a
 have HW:=qq hW
 have HWl:=qq hWl
 clear hW hWl
 go_wp2_with fail
 refine (zd9 p n c x.h.words a w3 HR.out.words (by omega) hp0 HP1.out).mono ?_
 rintro e w4 ⟨rfl,rfl⟩
 rw [HW.out]
 clear c2
 have hT:=zk8 W0 w3 HWl.out
 rw [show okT W0=false from by rw [<-ht];unfold evWd;rw [HW.out];rfl] at hT
 go_wp2_with fail
 refine hT.mono ?_
 rintro e w4 ⟨rfl,rfl⟩
 clear hT
 have c0:=Ha.out.cell 0 _ rfl
 have c1:=Ha.out.cell 1 _ rfl
 have c3:=Ha.out.cell 3 _ rfl
 obtain ⟨tg,htg⟩:∃ tg,tgtV W0=tg:=⟨_,rfl⟩
 rw [htg]
 clear htg
 have hOf:=zk6 x.h.pw x.h.np a w3 hp0 HP1.out
 obtain ⟨I,hI⟩:∃ I,Hid (evI x a=I):=⟨_,rfl⟩
 obtain ⟨K,hK⟩:∃ K,ofK x.h.pw x.h.np a=K:=⟨_,rfl⟩
 rw [show ofI x.h.pw x.h.np a=I from hI.out,hK,he] at hOf
 clear hK
 go_wp2_with fail
 refine hOf.mono ?_
 rintro e w4 ⟨rfl,hb4⟩
 replace Ha:=qq (Ha.out.keep hb4 hwa)
 replace Hb:=qq (Hb.out.keep hb4 hwb)
 replace HB:=qq (za3 HB.out hb4)
 replace HR:=qq (HR.out.keep hb4)
 replace hwa:w.heap.size < w4.heap.size:=Ha.out.lt rfl
 replace hwb:w.heap.size+1 < w4.heap.size:=Hb.out.lt rfl
 clear hb4
 clear hOf c0 c1 c3
 have c3:=Ha.out.cell 3 _ rfl
 rw [hI.out] at hi
 have hlm:=HR.out.pages.i63.2
 have hPr:=zv3 x p q po pt pq n c m d no co nt ct nq cq I w4 HR.out.taken HR.out.pages
 rw [show zi2 x I=false from by rw [<-hpr,hI.out]] at hPr
 go_wp2_with (first | ((with_reducible show wpList _ _ _ _ _ _);refine za7 (op:=⟨some 75,.load 146 _,_,_,_,_⟩) rfl _ _ rfl _ rfl _ Ha.out za8 ?_))
 refine hPr.mono ?_
 rintro e w5 ⟨rfl,hb5⟩
 replace Ha:=qq (Ha.out.keep hb5 hwa)
 replace Hb:=qq (Hb.out.keep hb5 hwb)
 replace HB:=qq (za3 HB.out hb5)
 replace HR:=qq (HR.out.keep hb5)
 replace hwa:w.heap.size < w5.heap.size:=Ha.out.lt rfl
 replace hwb:w.heap.size+1 < w5.heap.size:=Hb.out.lt rfl
 clear hb5
 clear hPr c3
 rw [hI.out] at hi0
 obtain ⟨k,rfl⟩:∃ k:Nat,I=k:=⟨I.toNat,by omega⟩
 have hkm:k < m:=by omega
 obtain ⟨g,b5,off,hxg,hqq,y0,y1,y2,y3⟩:=HR.out.pages.at_ hkm
 subst hqq
 have hkd:(g.kind == 2)=false:=by have:=hbig;unfold evBig at this;rw [hI.out,Int.toNat_natCast,zc6 hxg] at this;simpa using this
 have HXG:=qq hxg
 clear hxg hbig
 have c3:=Ha.out.cell 3 _ rfl
 obtain ⟨NN,hNN⟩:∃ NN,Hid (evN x a=NN):=⟨_,rfl⟩
 obtain ⟨hm0,hm1⟩:=decM_bd W0
 obtain ⟨hn0,hn9⟩:=evN_bd x a
 rw [hNN.out] at hn0 hn9
 have hsz:=zn3 (decK W0) (decN W0) (decM W0)
 rw [show zd8 (decK W0) (decN W0) (decM W0)=NN from by rw [<-hNN.out];unfold evN evWd;rw [HW.out];rfl] at hsz
 have HSz:=qq (fun w=>hsz w hm0 hm1)
 clear hsz
 have hDc:=zs0 W0 w5 HWl.out
 obtain ⟨KD,hKD⟩:∃ KD,decK W0=KD:=⟨_,rfl⟩
 obtain ⟨ND,hND⟩:∃ ND,decN W0=ND:=⟨_,rfl⟩
 obtain ⟨MD,hMD⟩:∃ MD,decM W0=MD:=⟨_,rfl⟩
 obtain ⟨OD,hOD⟩:∃ OD,okD W0=OD:=⟨_,rfl⟩
 rw [hKD,hND,hMD] at HSz
 rw [hKD,hND,hMD,hOD] at hDc
 clear hKD hND hMD hOD hm0 hm1
 go_wp2_with fail
 refine hDc.mono ?_
 rintro e w6 ⟨rfl,hb6⟩
 replace Ha:=qq (Ha.out.keep hb6 hwa)
 replace Hb:=qq (Hb.out.keep hb6 hwb)
 replace HB:=qq (za3 HB.out hb6)
 replace HR:=qq (HR.out.keep hb6)
 replace hwa:w.heap.size < w6.heap.size:=Ha.out.lt rfl
 replace hwb:w.heap.size+1 < w6.heap.size:=Hb.out.lt rfl
 clear y0 y1 y2 y3 c3 hDc
 clear hb6
 go_wp2_with fail
 refine (HSz.out _).mono ?_
 rintro e w7 ⟨rfl,hb7⟩
 have hb8:Below w6.heap.size w6 w7:=za3 za1 hb7
 clear hb7 HSz
 replace Ha:=qq (Ha.out.keep hb8 hwa)
 replace Hb:=qq (Hb.out.keep hb8 hwb)
 replace HB:=qq (za3 HB.out hb8)
 replace HR:=qq (HR.out.keep hb8)
 replace hwa:w.heap.size < w7.heap.size:=Ha.out.lt rfl
 replace hwb:w.heap.size+1 < w7.heap.size:=Hb.out.lt rfl
 clear hb8
 have hPl:=refplace_any S2 x p (some ⟨b5,off,none⟩) po pt pq n c m d no co nt ct nq cq NN w7 HR.out (fun b hb=>by have:=hsl b hb;omega) hx hn0 hn9
 obtain ⟨AT,hAT⟩:∃ AT,Hid (plA x NN=AT):=⟨_,rfl⟩
 rw [show plB x NN=true from by rw [<-hpl,hNN.out],hAT.out] at hPl
 go_wp2_with (first | ((with_reducible show wpList _ _ _ _ _ _);refine za7 (op:=⟨some 149,.load 146 _,_,_,_,_⟩) rfl _ _ rfl _ rfl _ Ha.out za8 ?_))
 refine hPl.mono ?_
 rintro e w8 ⟨⟨v,rfl,p2,q2,po2,pt2,pq2,n2,c2,m2,d2,no2,co2,nt2,ct2,nq2,cq2,rfl,hwr⟩,hb9⟩
 have HP:=qq hwr
 clear hwr hPl
 replace Ha:=qq (Ha.out.keep hb9 hwa)
 replace Hb:=qq (Hb.out.keep hb9 hwb)
 replace HB:=qq (za3 HB.out hb9)
 replace HR:=qq (HR.out.keep hb9)
 replace hwa:w.heap.size < w8.heap.size:=Ha.out.lt rfl
 replace hwb:w.heap.size+1 < w8.heap.size:=Hb.out.lt rfl
 clear hb9
 have HN:=qq (OwnL.new w8 [.int .i64 0,.int .i64 0,.slice none 0 0,.slice none 0 0,.int .i64 0,.int .i64 0,.slice none 0 0,.slice none 0 0,.slice none 0 0,.int .i64 0,.int .i64 0,.int .i64 0,.int .i64 0,.int .i64 0,.int .i64 0,.int .i64 0] 146)
 obtain ⟨hA0,hA1⟩:=plA_bd (n:=NN) hx (by rw [<-hNN.out];exact hpl)
 rw [hAT.out] at hA0 hA1
 have HA1:=qq hA1
 clear hA1
 have hwc0:w.heap.size+1 < w8.heap.size:=hwb
 have hnl:n<=100000:=hn
 have hwl:=HR.out.words.len
 go_wp2_with (first | ((with_reducible show wpList _ _ _ _ _ _);refine za6 (op:=⟨none,.store 146 _ _,_,_,_,_⟩) rfl _ _ _ rfl _ ?hx [.int .i64 x.h.pw,.int .i64 x.h.np,.slice p2 n2 c2,.slice q2 m2 d2,.int .i64 x.h.space,.int .i64 x.h.bump,.slice po2 no2 co2,.slice pt2 nt2 ct2,.slice pq2 nq2 cq2,.int .i64 x.sc,.int .i64 x.r0,.int .i64 x.r1,.int .i64 x.r2,.int .i64 x.r3,.int .i64 x.r4,.int .i64 x.r5] _ ?hy HN.out rfl rfl za8 ?_))
 case hx=>rfl
 case hy=>rfl
 intro w10 ho2 hbt2 hst2
 have hb10:Below w8.heap.size w8 w10:=za1.trans (hbt2.low (Nat.le_refl _) (by simp))
 have H3:=qq ho2
 clear HN ho2 hbt2 hst2
 obtain ⟨S3,hs3a,hs3,hq3⟩:∃ S3:Nat->Prop,(∀ b,S2 b->S3 b)/\S3 w8.heap.size/\WR w8 S3 (plW x NN) p2 q2 po2 pt2 pq2 n2 c2 m2 d2 no2 co2 nt2 ct2 nq2 cq2:=⟨fun b=>S2 b\/b=w8.heap.size,fun _ h=>Or.inl h,Or.inr rfl,HP.out.also (fun b=>b=w8.heap.size) (fun b hb=>by omega)⟩
 have HQ:=qq (hq3.keep hb10)
 clear hq3 HP
 replace Ha:=qq (Ha.out.keep hb10 hwa)
 replace Hb:=qq (Hb.out.keep hb10 hwb)
 replace HB:=qq (za3 HB.out hb10)
 replace HR:=qq (HR.out.keep hb10)
 replace hwa:w.heap.size < w10.heap.size:=Ha.out.lt rfl
 replace hwb:w.heap.size+1 < w10.heap.size:=Hb.out.lt rfl
 clear hb10
 clear HR
 have hwc:w8.heap.size < w10.heap.size:=H3.out.lt rfl
 have hn2:n2<=100000:=by have h1:x.h.words.length=n2:=HQ.out.words.len;omega
 have hnq2:nq2<=1000000:=by have h1:x.queue.length=nq2:=HQ.out.queue.len;have h2:=(Hr.out w (Below.refl _ _)).queue.len;omega
 obtain ⟨MV,hMV⟩:∃ MV,Hid (zj0 x.h.words AT a NN=MV):=⟨_,rfl⟩
 obtain ⟨ME,hME⟩:∃ ME,moveE x.h.words AT a NN=ME:=⟨_,rfl⟩
 have hMv:=refMove_any p2 n2 c2 x.h.words AT a NN w10 HQ.out.words hn2 hA0 HA1.out hp0 HP1.out (by omega)
 rw [hMV.out,hME] at hMv
 clear hME
 have e2:=H3.out.cell 2 _ rfl
 go_wp2_with fail
 refine hMv.mono ?_
 rintro e w11 ⟨⟨pw3,nw3,cw3,rfl,hw3⟩,hb11⟩
 have HM:=qq hw3
 clear hw3 hMv e2
 replace Ha:=qq (Ha.out.keep hb11 (Ha.out.lt rfl))
 replace Hb:=qq (Hb.out.keep hb11 (Hb.out.lt rfl))
 replace H3:=qq (H3.out.keep hb11 (H3.out.lt rfl))
 replace HB:=qq (za3 HB.out hb11)
 replace HQ:=qq (HQ.out.keep hb11)
 replace hwa:w.heap.size < w11.heap.size:=Ha.out.lt rfl
 replace hwb:w.heap.size+1 < w11.heap.size:=Hb.out.lt rfl
 replace hwc:w8.heap.size < w11.heap.size:=H3.out.lt rfl
 clear hb11
 have e2:=H3.out.cell 2 _ rfl
 have f2:=H3.out.free 2
 obtain ⟨FV,hFV⟩:∃ FV,Hid (fwdV AT=FV):=⟨_,rfl⟩
 obtain ⟨FE,hFE⟩:∃ FE,fwdE AT=FE:=⟨_,rfl⟩
 have hFw:=refForward_any AT
 rw [hFV.out,hFE] at hFw
 clear hFE
 go_wp2_with fail
 obtain ⟨w12,hset⟩:∃ W,Hid (w11.setCell ⟨w8.heap.size,2,none⟩ (.slice pw3 nw3 cw3)=W):=⟨_,rfl⟩
 rw [hset.out]
 have hnu:=(zd1 (plW x NN) p2 q2 po2 pt2 pq2 n2 c2 m2 d2 no2 co2 nt2 ct2 nq2 cq2)
 replace HM:=qq (show SRow w12 .u64 _ _ _ _ from by rw [<-hset.out];exact zc3 [.slice pw3 nw3 cw3] 2 _ _ HM.out H3.out (fun j y _=>hnu j y) (by simp))
 replace HQ:=qq (show WR w12 S3 _ _ _ _ _ _ _ _ _ _ _ _ _ _ _ _ from by rw [<-hset.out];exact zi6 HQ.out H3.out hnu hs3 [.slice pw3 nw3 cw3] 2 (by simp))
 replace H3:=qq (show OwnL w12 w8.heap.size [.int .i64 x.h.pw,.int .i64 x.h.np,.slice pw3 nw3 cw3,.slice q2 m2 d2,.int .i64 x.h.space,.int .i64 x.h.bump,.slice po2 no2 co2,.slice pt2 nt2 ct2,.slice pq2 nq2 cq2,.int .i64 x.sc,.int .i64 x.r0,.int .i64 x.r1,.int .i64 x.r2,.int .i64 x.r3,.int .i64 x.r4,.int .i64 x.r5] from by rw [<-hset.out];exact H3.out.set 2 (.slice pw3 nw3 cw3) (by simp))
 replace Ha:=qq (show OwnL w12 w.heap.size _ from by rw [<-hset.out];exact Ha.out.other ⟨w8.heap.size,2,none⟩ (.slice pw3 nw3 cw3) (by simp only;omega))
 replace Hb:=qq (show OwnL w12 (w.heap.size+1) _ from by rw [<-hset.out];exact Hb.out.other ⟨w8.heap.size,2,none⟩ (.slice pw3 nw3 cw3) (by simp only;omega))
 replace HB:=qq (show Below w.heap.size w w12 from by rw [<-hset.out];exact HB.out.setCell (p:=⟨w8.heap.size,2,none⟩) (by simp only;omega) (.slice pw3 nw3 cw3))
 replace hwa:w.heap.size < w12.heap.size:=Ha.out.lt rfl
 replace hwb:w.heap.size+1 < w12.heap.size:=Hb.out.lt rfl
 replace hwc:w8.heap.size < w12.heap.size:=H3.out.lt rfl
 clear hset hnu
 refine (hFw w12 hA0).mono ?_
 rintro e _ ⟨rfl,rfl⟩
 clear hFw e2 f2
 have hm3:nw3<=100000:=by have h1:=HM.out.len;have h2:=moveV_le x.h.words AT a NN;rw [hMV.out] at h2;omega
 obtain ⟨SV,hSV⟩:∃ SV,Hid (zc8 MV a [FV]=SV):=⟨_,rfl⟩
 obtain ⟨SE,hSE⟩:∃ SE,zh4 MV a [FV]=SE:=⟨_,rfl⟩
 have hSt:=refStore_f pw3 nw3 cw3 MV a FV w12 HM.out hm3 hp0 HP1.out
 rw [hSV.out,hSE] at hSt
 clear hSE
 have e2:=H3.out.cell 2 _ rfl
 go_wp2_with fail
 refine hSt.mono ?_
 rintro e w13 ⟨⟨pw4,nw4,cw4,rfl,hw4,hwf4⟩,hb13⟩
 have HFR:=qq (show SV≠[]->∀ ad,pw4=some ad->w.heap.size < ad.block from fun hne ad e=>by have h1:=hwf4 hne ad e;have h2:w.heap.size < w12.heap.size:=Ha.out.lt rfl;omega)
 clear hwf4
 clear HM
 have HM:=qq hw4
 clear hw4 hSt e2
 replace Ha:=qq (Ha.out.keep hb13 (Ha.out.lt rfl))
 replace Hb:=qq (Hb.out.keep hb13 (Hb.out.lt rfl))
 replace H3:=qq (H3.out.keep hb13 (H3.out.lt rfl))
 replace HB:=qq (za3 HB.out hb13)
 replace HQ:=qq (HQ.out.keep hb13)
 replace hwa:w.heap.size < w13.heap.size:=Ha.out.lt rfl
 replace hwb:w.heap.size+1 < w13.heap.size:=Hb.out.lt rfl
 replace hwc:w8.heap.size < w13.heap.size:=H3.out.lt rfl
 clear hb13
 have e2:=H3.out.cell 2 _ rfl
 have f2:=H3.out.free 2
 go_upto_region 30 with fail
 clear e2 f2
 obtain ⟨w14,hset⟩:∃ W,Hid (w13.setCell ⟨w8.heap.size,2,none⟩ (.slice pw4 nw4 cw4)=W):=⟨_,rfl⟩
 rw [hset.out]
 have hnu:=(zd1 (plW x NN) pw3 q2 po2 pt2 pq2 nw3 cw3 m2 d2 no2 co2 nt2 ct2 nq2 cq2)
 replace HM:=qq (show SRow w14 .u64 _ _ _ _ from by rw [<-hset.out];exact zc3 [.slice pw4 nw4 cw4] 2 _ _ HM.out H3.out (fun j y _=>hnu j y) (by simp))
 replace HQ:=qq (show WR w14 S3 _ _ _ _ _ _ _ _ _ _ _ _ _ _ _ _ from by rw [<-hset.out];exact zi6 HQ.out H3.out hnu hs3 [.slice pw4 nw4 cw4] 2 (by simp))
 replace H3:=qq (show OwnL w14 w8.heap.size [.int .i64 x.h.pw,.int .i64 x.h.np,.slice pw4 nw4 cw4,.slice q2 m2 d2,.int .i64 x.h.space,.int .i64 x.h.bump,.slice po2 no2 co2,.slice pt2 nt2 ct2,.slice pq2 nq2 cq2,.int .i64 x.sc,.int .i64 x.r0,.int .i64 x.r1,.int .i64 x.r2,.int .i64 x.r3,.int .i64 x.r4,.int .i64 x.r5] from by rw [<-hset.out];exact H3.out.set 2 (.slice pw4 nw4 cw4) (by simp))
 replace Ha:=qq (show OwnL w14 w.heap.size _ from by rw [<-hset.out];exact Ha.out.other ⟨w8.heap.size,2,none⟩ (.slice pw4 nw4 cw4) (by simp only;omega))
 replace Hb:=qq (show OwnL w14 (w.heap.size+1) _ from by rw [<-hset.out];exact Hb.out.other ⟨w8.heap.size,2,none⟩ (.slice pw4 nw4 cw4) (by simp only;omega))
 replace HB:=qq (show Below w.heap.size w w14 from by rw [<-hset.out];exact HB.out.setCell (p:=⟨w8.heap.size,2,none⟩) (by simp only;omega) (.slice pw4 nw4 cw4))
 replace hwa:w.heap.size < w14.heap.size:=Ha.out.lt rfl
 replace hwb:w.heap.size+1 < w14.heap.size:=Hb.out.lt rfl
 replace hwc:w8.heap.size < w14.heap.size:=H3.out.lt rfl
 clear hset hnu
 have h14:w.heap.size+1 < w14.heap.size:=hwb
 have h14c:w8.heap.size < w14.heap.size:=hwc
 obtain ⟨i0,hin,hz0,hz1,hz2⟩:=info_parts zf2
 have hown0:(w14.alloc (.cells #[] 48)).ownsRow w14.heap.size 48 1 (.slice (some ⟨w14.heap.size,0,none⟩) 0 0) 0 []:=by
  simpa using zf9 w14 48 1
 have Hq:=qq (show SRow (w14.alloc (.cells #[] 48)) .u64 pq2 nq2 cq2 x.queue from HQ.out.queue.keep za1)
 have e8:=H3.out.cell 8 _ rfl
 go_wp2_with (at_builtin;refine zd7 rfl _ _ 24 rfl w14.heap.size 48 i0 (.int .u64 0) 8 Tryz.underlying24 hin hz0 hz1 hz2 rfl (.slice (some ⟨w14.heap.size,0,none⟩) 0 0) 0 [] rfl hown0 pq2 nq2 cq2 .u64 x.queue rfl ?src ?c3 ?c4 ?c5 ?_)
 case src=>exact Hq.out
 case c3=>unfold maxLen;omega
 case c4=>omega
 case c5=>simp
 intro v' w15 hown hgrow
 have hb15:Below w14.heap.size w14 w15:=((Below.refl _ _).alloc (Nat.le_refl _) _).grown hgrow (by simp) (fun k h=>by simp [Value.ownBlock] at h;omega)
 have hsz:=hb15.size
 have Hown:=qq hown
 clear hgrow hown0 hown
 go_wp2_with (at_builtin;refine zd7 rfl _ _ 24 rfl w14.heap.size 48 i0 (.int .u64 0) 8 Tryz.underlying24 hin hz0 hz1 hz2 rfl v' _ _ rfl (Hown.out.alloc _) (some ⟨w15.heap.size,0,none⟩) 1 1 .u64 [AT] rfl (zl7 w15 48 AT) ?c3 ?c4 ?c5 ?_)
 case c3=>unfold maxLen;omega
 case c4=>omega
 case c5=>simp;omega
 intro v4 w16 hown4 hgrow4
 have hb16:Below w14.heap.size w14 w16:=(hb15.alloc hsz _).grown hgrow4 (by simp;omega) (fun j hj=>(Hown.out.lt j hj).1)
 rw [ze4] at hown4
 obtain ⟨g9,c9,rfl,hg9,hgl9⟩:=World.ownsRow.form hown4 (by omega)
 clear Hown
 have Hown:=qq hown4
 clear hb15 hsz hown4 hgrow4 Hq e8
 replace Ha:=qq (Ha.out.keep hb16 (Ha.out.lt rfl))
 replace Hb:=qq (Hb.out.keep hb16 (Hb.out.lt rfl))
 replace H3:=qq (H3.out.keep hb16 (H3.out.lt rfl))
 replace HB:=qq (za3 HB.out hb16)
 replace HQ:=qq (HQ.out.keep hb16)
 replace HM:=qq (HM.out.keep hb16)
 replace hwa:w.heap.size < w16.heap.size:=Ha.out.lt rfl
 replace hwb:w.heap.size+1 < w16.heap.size:=Hb.out.lt rfl
 replace hwc:w8.heap.size < w16.heap.size:=H3.out.lt rfl
 clear hb16
 have e8:=H3.out.cell 8 _ rfl
 have f8:=H3.out.free 8
 go_upto_region 31 with fail
 clear e8 f8
 obtain ⟨w17,hset⟩:∃ W,Hid (w16.setCell ⟨w8.heap.size,8,none⟩ (.slice (some ⟨g9,0,none⟩) (nq2+1) c9)=W):=⟨_,rfl⟩
 rw [hset.out]
 have hnu:=(zd1 (plW x NN) pw4 q2 po2 pt2 pq2 nw4 cw4 m2 d2 no2 co2 nt2 ct2 nq2 cq2)
 replace HM:=qq (show SRow w17 .u64 _ _ _ _ from by rw [<-hset.out];exact zc3 [.slice (some ⟨g9,0,none⟩) (nq2+1) c9] 8 _ _ HM.out H3.out (fun j y _=>hnu j y) (by simp))
 replace Hown:=qq (show World.ownsRow w17 _ _ _ _ _ _ from by rw [<-hset.out];exact zd0 Hown.out ⟨w8.heap.size,8,none⟩ (.slice (some ⟨g9,0,none⟩) (nq2+1) c9) (by simp only;omega))
 replace HQ:=qq (show WR w17 S3 _ _ _ _ _ _ _ _ _ _ _ _ _ _ _ _ from by rw [<-hset.out];exact zi6 HQ.out H3.out hnu hs3 [.slice (some ⟨g9,0,none⟩) (nq2+1) c9] 8 (by simp))
 replace H3:=qq (show OwnL w17 w8.heap.size [.int .i64 x.h.pw,.int .i64 x.h.np,.slice pw4 nw4 cw4,.slice q2 m2 d2,.int .i64 x.h.space,.int .i64 x.h.bump,.slice po2 no2 co2,.slice pt2 nt2 ct2,.slice (some ⟨g9,0,none⟩) (nq2+1) c9,.int .i64 x.sc,.int .i64 x.r0,.int .i64 x.r1,.int .i64 x.r2,.int .i64 x.r3,.int .i64 x.r4,.int .i64 x.r5] from by rw [<-hset.out];exact H3.out.set 8 (.slice (some ⟨g9,0,none⟩) (nq2+1) c9) (by simp))
 replace Ha:=qq (show OwnL w17 w.heap.size _ from by rw [<-hset.out];exact Ha.out.other ⟨w8.heap.size,8,none⟩ (.slice (some ⟨g9,0,none⟩) (nq2+1) c9) (by simp only;omega))
 replace Hb:=qq (show OwnL w17 (w.heap.size+1) _ from by rw [<-hset.out];exact Hb.out.other ⟨w8.heap.size,8,none⟩ (.slice (some ⟨g9,0,none⟩) (nq2+1) c9) (by simp only;omega))
 replace HB:=qq (show Below w.heap.size w w17 from by rw [<-hset.out];exact HB.out.setCell (p:=⟨w8.heap.size,8,none⟩) (by simp only;omega) (.slice (some ⟨g9,0,none⟩) (nq2+1) c9))
 replace hwa:w.heap.size < w17.heap.size:=Ha.out.lt rfl
 replace hwb:w.heap.size+1 < w17.heap.size:=Hb.out.lt rfl
 replace hwc:w8.heap.size < w17.heap.size:=H3.out.lt rfl
 clear hset hnu
 have e10:=H3.out.cell 10 _ rfl
 have f10:=H3.out.free 10
 go_upto_region 32 with fail
 clear e10 f10
 obtain ⟨w18,hset⟩:∃ W,Hid (w17.setCell ⟨w8.heap.size,10,none⟩ (.int .i64 (wrap64 (x.r0+1)))=W):=⟨_,rfl⟩
 rw [hset.out]
 have hnu:=(zd1 (plW x NN) pw4 q2 po2 pt2 (some ⟨g9,0,none⟩) nw4 cw4 m2 d2 no2 co2 nt2 ct2 (nq2+1) c9)
 replace HM:=qq (show SRow w18 .u64 _ _ _ _ from by rw [<-hset.out];exact zc3 [.int .i64 (wrap64 (x.r0+1))] 10 _ _ HM.out H3.out (fun j y _=>hnu j y) (by simp))
 replace Hown:=qq (show World.ownsRow w18 _ _ _ _ _ _ from by rw [<-hset.out];exact zd0 Hown.out ⟨w8.heap.size,10,none⟩ (.int .i64 (wrap64 (x.r0+1))) (by simp only;omega))
 replace HQ:=qq (show WR w18 S3 _ _ _ _ _ _ _ _ _ _ _ _ _ _ _ _ from by rw [<-hset.out];exact zi6 HQ.out H3.out hnu hs3 [.int .i64 (wrap64 (x.r0+1))] 10 (by simp))
 replace H3:=qq (show OwnL w18 w8.heap.size [.int .i64 x.h.pw,.int .i64 x.h.np,.slice pw4 nw4 cw4,.slice q2 m2 d2,.int .i64 x.h.space,.int .i64 x.h.bump,.slice po2 no2 co2,.slice pt2 nt2 ct2,.slice (some ⟨g9,0,none⟩) (nq2+1) c9,.int .i64 x.sc,.int .i64 (wrap64 (x.r0+1)),.int .i64 x.r1,.int .i64 x.r2,.int .i64 x.r3,.int .i64 x.r4,.int .i64 x.r5] from by rw [<-hset.out];exact H3.out.set 10 (.int .i64 (wrap64 (x.r0+1))) (by simp))
 replace Ha:=qq (show OwnL w18 w.heap.size _ from by rw [<-hset.out];exact Ha.out.other ⟨w8.heap.size,10,none⟩ (.int .i64 (wrap64 (x.r0+1))) (by simp only;omega))
 replace Hb:=qq (show OwnL w18 (w.heap.size+1) _ from by rw [<-hset.out];exact Hb.out.other ⟨w8.heap.size,10,none⟩ (.int .i64 (wrap64 (x.r0+1))) (by simp only;omega))
 replace HB:=qq (show Below w.heap.size w w18 from by rw [<-hset.out];exact HB.out.setCell (p:=⟨w8.heap.size,10,none⟩) (by simp only;omega) (.int .i64 (wrap64 (x.r0+1))))
 replace hwa:w.heap.size < w18.heap.size:=Ha.out.lt rfl
 replace hwb:w.heap.size+1 < w18.heap.size:=Hb.out.lt rfl
 replace hwc:w8.heap.size < w18.heap.size:=H3.out.lt rfl
 clear hset hnu
 have hl9:=Hb.out.lt rfl
 go_wp2_with (first | ((with_reducible show wpList _ _ _ _ _ _);refine za7 (op:=⟨some 200,.load 146 _,_,_,_,_⟩) rfl _ _ rfl _ rfl _ H3.out za8 ?_) | ((with_reducible show wpList _ _ _ _ _ _);refine za6 (op:=⟨none,.store 146 _ _,_,_,_,_⟩) rfl _ _ _ rfl _ ?hx [.int .i64 x.h.pw,.int .i64 x.h.np,.slice pw4 nw4 cw4,.slice q2 m2 d2,.int .i64 x.h.space,.int .i64 x.h.bump,.slice po2 no2 co2,.slice pt2 nt2 ct2,.slice (some ⟨g9,0,none⟩) (nq2+1) c9,.int .i64 x.sc,.int .i64 (wrap64 (x.r0+1)),.int .i64 x.r1,.int .i64 x.r2,.int .i64 x.r3,.int .i64 x.r4,.int .i64 x.r5] _ ?hy Hb.out rfl rfl za8 ?_))
 case hx=>rfl
 case hy=>rfl
 intro w9 ho hbt hst
 have HZ:=qq ho
 have HXB:=qq (HB.out.trans (hbt.low (by omega) (by omega)))
 clear ho
 have HXo:=qq (zq7 Hown.out hbt (by omega))
 have HXM:=qq (show SRow w9 .u64 _ _ _ _ from by rw [hst.out,zb7];exact zc3 [.int .i64 x.h.pw,.int .i64 x.h.np,.slice pw4 nw4 cw4,.slice q2 m2 d2,.int .i64 x.h.space,.int .i64 x.h.bump,.slice po2 no2 co2,.slice pt2 nt2 ct2,.slice (some ⟨g9,0,none⟩) (nq2+1) c9,.int .i64 x.sc,.int .i64 (wrap64 (x.r0+1)),.int .i64 x.r1,.int .i64 x.r2,.int .i64 x.r3,.int .i64 x.r4,.int .i64 x.r5] 0 _ _ HM.out Hb.out (fun j y _=>zm2 j y) (by simp))
 have HXQ:=qq ((HQ.out.stored (hs3a _ hsb) Hb.out zm2 (by simp) hst).mono (fun b hb=>hs3a b (hs2 b hb)))
 go_wp2
 refine bodyPost_ret (ze5 rfl rfl HZ.out za8) rfl ?_
 rw [show plA x (evN x a)=AT from by rw [hNN.out];exact hAT.out]
 refine ⟨?_,HXB.out⟩
 obtain ⟨p9,cc9,e9,h9⟩:=SRow.of_own HXo.out
 injection e9 with e91 e92 e93
 subst e91 e93
 have hcw:(zh5 x a).h.words=SV:=by rw [<-hSV.out,<-hMV.out,<-hFV.out,<-hAT.out,<-hNN.out];rfl
 have hcq:(zh5 x a).queue=x.queue ++ [AT]:=by rw [<-hAT.out,<-hNN.out];rfl
 have hcp:(zh5 x a).h.pages=(plW x NN).h.pages:=by rw [<-hNN.out];rfl
 have hct:(zh5 x a).taken=(plW x NN).taken:=by rw [<-hNN.out];rfl
 refine ⟨_,rfl,pw4,q2,po2,pt2,some ⟨g9,0,none⟩,nw4,cw4,m2,d2,no2,co2,nt2,ct2,nq2+1,c9,rfl,by rw [hcw];exact HXM.out,by rw [hcp];exact HXQ.out.pages,?_,HXQ.out.old,by rw [hct];exact HXQ.out.taken,by rw [hcq];exact h9,by rw [hcp];exact HXQ.out.ap,by rw [hct];exact HXQ.out.at_,fun hne ad e hs=>?_,HXQ.out.ao,fun _ ad e hs=>?_⟩
 rotate_left
 · rw [hcw] at hne;have h1:=HFR.out hne ad e;have h2:=hS _ hs;omega
 · cases e;have h2:=hS _ hs;simp only at h2;omega
 exact copyWB hx hpl HXQ.out.wb
end Go.Proofs.YtipjdbhocjpmdaaGreat
