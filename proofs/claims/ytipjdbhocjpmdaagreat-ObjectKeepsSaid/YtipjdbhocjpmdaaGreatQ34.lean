import Derived.Test.YtipjdbhocjpmdaaGreatQ01
import Derived.Test.YtipjdbhocjpmdaaGreatQ08
import Derived.Test.YtipjdbhocjpmdaaGreatQ31
import Derived.Test.YtipjdbhocjpmdaaGreatQ33
import Derived.Deep.DeepCutAuto
set_option linter.unusedSimpArgs false
set_option linter.unusedVariables false
set_option maxRecDepth 100000
set_option maxHeartbeats 12800000
namespace Go.Proofs.YtipjdbhocjpmdaaGreat
open Go.RowKit
theorem ofI_nonneg {pw np a:Int} (h:ofE pw np a=0):0<=ofI pw np a:=by
 cases hv:zb8 pw np with
 | false=>have:=(of_no (a:=a) hv).2.2;omega
 | true =>
  cases hi:inAr pw np a with
  | false=>have:=(of_out hv hi).2.2;omega
  | true =>
   obtain ⟨h1,-,-⟩:=of_ok hv hi
   have h2:=zb1 hv
   unfold inAr at hi
   have h3:=of_decide_eq_true hi
   rw [h1]
   exact Int.ediv_nonneg (by omega) (by omega)
theorem refFwd_any (S:Nat->Prop) (x:Wk) (p q po pt pq:Option Addr) (n c m d no co nt ct nq cq:Nat) (a:Int) (w:World) (hr:WR w S x p q po pt pq n c m d no co nt ct nq cq) (hS:∀ b,S b->b < w.heap.size) (hn:n<=100000) (hq5:nq<=1000000) (hx:PlOK x) (hp0:0<=a) (hp1:a < 18446744073709551616) :
 Calls Tryz.prog 138 #[(.agg #[.int .i64 x.h.pw,.int .i64 x.h.np,.slice p n c,.slice q m d,.int .i64 x.h.space,.int .i64 x.h.bump,.slice po no co,.slice pt nt ct,.slice pq nq cq,.int .i64 x.sc,.int .i64 x.r0,.int .i64 x.r1,.int .i64 x.r2,.int .i64 x.r3,.int .i64 x.r4,.int .i64 x.r5]),.int .u64 a] w fun e w'=>RetF S (evW x a) (evA x a) (evE x a) e w'/\Below w.heap.size w w':=by
 have hml:=hr.pages.len
 have hpl:x.h.pages.length=m:=PRow.len hr.pages
 by_cases h0:a=0
 · have hc:evC x a=0:=by unfold evC;rw [if_pos (Or.inl h0)]
   have h:=fwd_zero S x p q po pt pq n c m d no co nt ct nq cq a w hr hS h0
   unfold evW evA evE;rw [hc];exact h
 by_cases hq:a∈x.queue
 · have hc:evC x a=0:=by unfold evC;rw [if_pos (Or.inr hq)]
   have h:=fwd_in S x p q po pt pq n c m d no co nt ct nq cq a w hr hS h0 hq
   unfold evW evA evE;rw [hc];exact h
 have hn0:¬(a=0\/a∈x.queue):=fun h=>h.elim h0 hq
 by_cases ho:¬a∈x.old
 · have hc:evC x a=1:=by unfold evC;rw [if_neg hn0,if_pos ho]
   have h:=fwd_notold S x p q po pt pq n c m d no co nt ct nq cq a w hr hS hn h0 hp0 hp1 hq ho
   unfold evW evA evE;rw [hc];exact h
 replace ho:a∈x.old:=Classical.not_not.1 ho
 cases ht:okT (evWd x a).toNat with
 | true =>
  have hc:evC x a=2:=by unfold evC;rw [if_neg hn0,if_neg (by simpa using ho),if_pos ht]
  have h:=fwd_target S x p q po pt pq n c m d no co nt ct nq cq a w hr hS hn h0 hp0 hp1 hq ho ht
  unfold evW evA evE;rw [hc];exact h
 | false =>
  by_cases he:¬ofE x.h.pw x.h.np a=0
  · have hc:evC x a=3:=by unfold evC;rw [if_neg hn0,if_neg (by simpa using ho),if_neg (by simp [ht]),if_pos (Or.inl he)]
    have h:=fwd_noof S x p q po pt pq n c m d no co nt ct nq cq a w hr hS hn h0 hp0 hp1 hq ho ht he
    unfold evW evA evE;rw [hc];exact h
  replace he:ofE x.h.pw x.h.np a=0:=Classical.not_not.1 he
  by_cases hi:(m:Int)<=evI x a
  · have hc:evC x a=3:=by unfold evC;rw [if_neg hn0,if_neg (by simpa using ho),if_neg (by simp [ht]),if_pos (Or.inr (by omega))]
    have h:=fwd_nopage S x p q po pt pq n c m d no co nt ct nq cq a w hr hS hn h0 hp0 hp1 hq ho ht he hi
    unfold evW evA evE;rw [hc];exact h
  have hi2:evI x a < m:=by omega
  have hi0:0<=evI x a:=ofI_nonneg he
  have hn3:¬(¬ofE x.h.pw x.h.np a=0\/(x.h.pages.length:Int)<=evI x a):=by omega
  cases hpr:zi2 x (evI x a) with
  | true =>
   have hc:evC x a=4:=by unfold evC;rw [if_neg hn0,if_neg (by simpa using ho),if_neg (by simp [ht]),if_neg hn3,if_pos hpr]
   have h:=fwd_prom S x p q po pt pq n c m d no co nt ct nq cq a w hr hS hn h0 hp0 hp1 hq ho ht he hi2 hq5 hpr
   unfold evW evA evE;rw [hc];exact h
  | false =>
   cases hbig:evBig x a with
   | true =>
    have hc:evC x a=5:=by unfold evC;rw [if_neg hn0,if_neg (by simpa using ho),if_neg (by simp [ht]),if_neg hn3,if_neg (by simp [hpr]),if_pos hbig]
    have h:=fwd_large S x p q po pt pq n c m d no co nt ct nq cq a w hr hS hn h0 hp0 hp1 hq ho ht he hi2 hi0 hq5 hx hpr hbig
    unfold evW evA evE;rw [hc];exact h
   | false =>
    cases hpp:plB x (evN x a) with
    | true =>
     have hc:evC x a=7:=by unfold evC;rw [if_neg hn0,if_neg (by simpa using ho),if_neg (by simp [ht]),if_neg hn3,if_neg (by simp [hpr]),if_neg (by simp [hbig]),if_pos hpp]
     have h:=fwd_copy S x p q po pt pq n c m d no co nt ct nq cq a w hr hS hn h0 hp0 hp1 hq ho ht he hi2 hi0 hq5 hx hpr hbig hpp
     unfold evW evA evE;rw [hc];exact h
    | false =>
     have hc:evC x a=6:=by unfold evC;rw [if_neg hn0,if_neg (by simpa using ho),if_neg (by simp [ht]),if_neg hn3,if_neg (by simp [hpr]),if_neg (by simp [hbig]),if_neg (by simp [hpp])]
     have h:=fwd_noroom S x p q po pt pq n c m d no co nt ct nq cq a w hr hS hn h0 hp0 hp1 hq ho ht he hi2 hi0 hq5 hx hpr hbig hpp
     unfold evW evA evE;rw [hc];exact h
structure FwOK (x:Wk):Prop where
 pl:PlOK x
 wl:x.h.words.length<=100000
 ql:x.queue.length<=1000000
def zq8 (x:Wk) (A:Int):Wk:={ evW x (ze1 x.h.words A) with h:={ (evW x (ze1 x.h.words A)).h with words:=zc8 (evW x (ze1 x.h.words A)).h.words A [evA x (ze1 x.h.words A)] } }
def stGo:Wk->Int->List Int->Wk × Int
 | x,_,[]=>(x,0)
 | x,A,i :: r=>if evE x (ze1 x.h.words (A+1+i))=0 then stGo (zq8 x (A+1+i)) A r else (Wk.zero,evE x (ze1 x.h.words (A+1+i)))
def StOK:Wk->Int->List Int->Prop
 | _,_,[]=>True
 | x,A,i :: r=>FwOK x/\(evE x (ze1 x.h.words (A+1+i))=0->StOK (zq8 x (A+1+i)) A r)
def stL (x:Wk) (A:Int):List Int:=ptrsV (evH x A).k (evH x A).n (evH x A).m
def stW (x:Wk) (A:Int):Wk:={ (stGo x A (stL x A)).1 with sc:=wrap64 ((stGo x A (stL x A)).1.sc+1),r5:=wrap64 (wrap64 ((stGo x A (stL x A)).1.r5+1)+(stL x A).length) }
def stE (x:Wk) (A:Int):Int:=(stGo x A (stL x A)).2
def stB (x:Wk) (A:Int):Bool:=decide (stE x A=0)
def stX (x:Wk) (A:Int):Wk:=if stE x A=0 then stW x A else Wk.zero
def RetSt (S:Nat->Prop) (x:Wk) (b:Bool) (er:Int) (e:Ending) (w':World):Prop:=∃ v,e = .returned (.tuple #[v,.bool b,.int .i64 er])/\WV w' S v x
theorem stL_bd {x:Wk} {A i:Int} (h:i∈stL x A):0<=i/\i<=1000:=by
 unfold stL ptrsV at h
 split at h
 · rename_i hv
   unfold zj8 at h
   have h1:=(List.mem_filter.1 h).1
   obtain ⟨j,hj,rfl⟩:=List.mem_map.1 h1
   have h2:=List.mem_range.1 hj
   unfold zb3 at hv
   have h3:=of_decide_eq_true hv
   have h4:Int.ofNat j=(j:Int):=rfl
   omega
 · cases h
theorem evA_bd {x:Wk} {a:Int} (hx:PlOK x) (h0:0<=a) (h1:a < 18446744073709551616):0<=evA x a/\evA x a < 18446744073709551616:=by
 unfold evA
 split
 · exact ⟨h0,h1⟩
 · unfold tgtV
   split
   · rename_i h
     unfold okT at h
     rw [Bool.and_eq_true] at h
     have h2:=of_decide_eq_true h.2
     omega
   · omega
 · exact ⟨h0,h1⟩
 · exact ⟨h0,h1⟩
 · rename_i h
   refine plA_bd hx ?_
   unfold evC at h
   split at h
   · omega
   split at h
   · omega
   split at h
   · omega
   split at h
   · omega
   split at h
   · omega
   split at h
   · omega
   split at h
   · assumption
   · omega
 · omega
theorem wb_next {x:Wk} {A:Int} (hx:PlOK x) (hw:WB x.h.words) (hy:WB (evW x (ze1 x.h.words A)).h.words):WB (zq8 x A).h.words:=by
 obtain ⟨k,h1,h2⟩:=zl5 hw A
 refine zt1 hy (fun v hv=>?_)
 simp only [List.mem_singleton] at hv
 subst hv
 exact evA_bd hx (by omega) (by omega)
theorem drop_at {L:List Int} {k:Nat} {i:Int} (h:L[k]?=some i):L.drop k=i :: L.drop (k+1):=by
 obtain ⟨hk,rfl⟩:=List.getElem?_eq_some_iff.1 h
 exact List.drop_eq_getElem_cons hk
theorem evW_wl {x:Wk} {n:Nat} (h:x.h.words.length<=n) (a:Int):(evW x a).h.words.length<=n:=by
 unfold evW
 split
 · exact h
 · exact h
 · exact h
 · exact h
 · show (zc8 (zj0 x.h.words _ a _) a [_]).length<=n
   unfold zc8
   split
   · rename_i hk
     have h1:=of_decide_eq_true hk
     rw [zo7 (by omega)]
     exact Nat.le_trans (moveV_le _ _ _ _) h
   · simp
 · exact Nat.zero_le _
theorem step_done (S:Nat->Prop) (x:Wk) (p q po pt pq:Option Addr) (n c m d no co nt ct nq cq:Nat)  (w:World) (hr:WR w S x p q po pt pq n c m d no co nt ct nq cq) (hS:∀ b,S b->b < w.heap.size) (k:Nat) (hk:x.sc=k) (hkl:nq<=k) :
 Calls Tryz.prog 139 #[(.agg #[.int .i64 x.h.pw,.int .i64 x.h.np,.slice p n c,.slice q m d,.int .i64 x.h.space,.int .i64 x.h.bump,.slice po no co,.slice pt nt ct,.slice pq nq cq,.int .i64 x.sc,.int .i64 x.r0,.int .i64 x.r1,.int .i64 x.r2,.int .i64 x.r3,.int .i64 x.r4,.int .i64 x.r5])] w fun e w'=>RetSt S x false 0 e w'/\Below w.heap.size w w':=by
 have HK:=qq hk
 clear hk
 have Hr:=qq (fun w' (hb:Below w.heap.size w w')=>hr.keep hb)
 obtain ⟨S2,hs2,hsa,hsb,hsl,hr2⟩:=hr.box hS
 obtain ⟨w1,hw1,hbx⟩:=boxes2x w 146 [.int .i64 x.h.pw,.int .i64 x.h.np,.slice p n c,.slice q m d,.int .i64 x.h.space,.int .i64 x.h.bump,.slice po no co,.slice pt nt ct,.slice pq nq cq,.int .i64 x.sc,.int .i64 x.r0,.int .i64 x.r1,.int .i64 x.r2,.int .i64 x.r3,.int .i64 x.r4,.int .i64 x.r5] [.int .i64 0,.int .i64 0,.slice none 0 0,.slice none 0 0,.int .i64 0,.int .i64 0,.slice none 0 0,.slice none 0 0,.slice none 0 0,.int .i64 0,.int .i64 0,.int .i64 0,.int .i64 0,.int .i64 0,.int .i64 0,.int .i64 0]
 have Ha:=qq hbx.1
 have Hb:=qq hbx.2.1
 have HB:=qq hbx.2.2
 have HR:=qq (hr2.keep hbx.2.2)
 clear hbx hr2
 have hwa:w.heap.size < w1.heap.size:=Ha.out.lt rfl
 have hwb:w.heap.size+1 < w1.heap.size:=Hb.out.lt rfl
 clear hr
 go_enter Tryz.func139,Tryz.ntmps139
 go_upto_region 1 with fail
 rw [hw1.out]
 clear hw1
 have c9:=Ha.out.cell 9 _ rfl
 rw [HK.out] at c9
 have c8:=Ha.out.cell 8 _ rfl
 have hkl2:(nq:Int)<=k:=by omega
 have hnl:¬(k:Int) < nq:=by omega
 go_upto_region 2 with fail
 clear c8 c9
 have hl9:=Hb.out.lt rfl
 go_wp2_with (first | ((with_reducible show wpList _ _ _ _ _ _);refine za7 (op:=⟨some 20,.load 146 _,_,_,_,_⟩) rfl _ _ rfl _ rfl _ Ha.out za8 ?_) | ((with_reducible show wpList _ _ _ _ _ _);refine za6 (op:=⟨none,.store 146 _ _,_,_,_,_⟩) rfl _ _ _ rfl _ ?hx1 [.int .i64 x.h.pw,.int .i64 x.h.np,.slice p n c,.slice q m d,.int .i64 x.h.space,.int .i64 x.h.bump,.slice po no co,.slice pt nt ct,.slice pq nq cq,.int .i64 x.sc,.int .i64 x.r0,.int .i64 x.r1,.int .i64 x.r2,.int .i64 x.r3,.int .i64 x.r4,.int .i64 x.r5] _ ?hy1 Hb.out rfl rfl za8 ?_))
 (try (case hx1=>rfl))
 (try (case hy1=>rfl))
 intro w9 ho hbt hst
 have HZ:=qq ho
 have HXB:=qq (HB.out.trans (hbt.low (by omega) (by omega)))
 clear ho hbt
 go_wp2
 refine bodyPost_ret (ze5 rfl rfl HZ.out za8) rfl ?_
 exact ⟨⟨_,rfl,p,q,po,pt,pq,n,c,m,d,no,co,nt,ct,nq,cq,rfl,Hr.out _ HXB.out⟩,HXB.out⟩
theorem step_go (S:Nat->Prop) (x:Wk) (p q po pt pq:Option Addr) (n c m d no co nt ct nq cq:Nat)  (w:World) (hr:WR w S x p q po pt pq n c m d no co nt ct nq cq) (hS:∀ b,S b->b < w.heap.size) (k:Nat) (A:Int) (hk:x.sc=k) (hA:x.queue[k]?=some A) (hA0:0<=A) (hA9:A<=1000000) (hn:n<=100000) (hok:StOK x A (stL x A)) :
 Calls Tryz.prog 139 #[(.agg #[.int .i64 x.h.pw,.int .i64 x.h.np,.slice p n c,.slice q m d,.int .i64 x.h.space,.int .i64 x.h.bump,.slice po no co,.slice pt nt ct,.slice pq nq cq,.int .i64 x.sc,.int .i64 x.r0,.int .i64 x.r1,.int .i64 x.r2,.int .i64 x.r3,.int .i64 x.r4,.int .i64 x.r5])] w fun e w'=>RetSt S (stX x A) (stB x A) (stE x A) e w'/\Below w.heap.size w w':=by
 have HK:=qq hk
 clear hk
 have Hr:=qq (fun w' (hb:Below w.heap.size w w')=>hr.keep hb)
 obtain ⟨S2,hs2,hsa,hsb,hsl,hr2⟩:=hr.box hS
 obtain ⟨w1,hw1,hbx⟩:=boxes2x w 146 [.int .i64 x.h.pw,.int .i64 x.h.np,.slice p n c,.slice q m d,.int .i64 x.h.space,.int .i64 x.h.bump,.slice po no co,.slice pt nt ct,.slice pq nq cq,.int .i64 x.sc,.int .i64 x.r0,.int .i64 x.r1,.int .i64 x.r2,.int .i64 x.r3,.int .i64 x.r4,.int .i64 x.r5] [.int .i64 0,.int .i64 0,.slice none 0 0,.slice none 0 0,.int .i64 0,.int .i64 0,.slice none 0 0,.slice none 0 0,.slice none 0 0,.int .i64 0,.int .i64 0,.int .i64 0,.int .i64 0,.int .i64 0,.int .i64 0,.int .i64 0]
 have Ha:=qq hbx.1
 have Hb:=qq hbx.2.1
 have HB:=qq hbx.2.2
 have HR:=qq (hr2.keep hbx.2.2)
 clear hbx hr2
 have hwa:w.heap.size < w1.heap.size:=Ha.out.lt rfl
 have hwb:w.heap.size+1 < w1.heap.size:=Hb.out.lt rfl
 clear hr
 go_enter Tryz.func139,Tryz.ntmps139
 go_upto_region 1 with fail
 rw [hw1.out]
 clear hw1
 have c9:=Ha.out.cell 9 _ rfl
 rw [HK.out] at c9
 have c8:=Ha.out.cell 8 _ rfl
 have hkq:k < nq:=by have h1:=HR.out.queue.len;have:=(List.getElem?_eq_some_iff.1 hA).1;omega
 have hkq2:(k:Int) < nq:=by omega
 obtain ⟨A',bq,oq,hA',hpq,d0⟩:=HR.out.queue.at_ hkq
 obtain rfl:A=A':=by rw [hA] at hA';exact Option.some.inj hA'
 subst hpq
 have HOK:=qq hok
 obtain ⟨L,hL⟩:∃ L,Hid (stL x A=L):=⟨_,rfl⟩
 rw [hL.out] at HOK
 have HLb:=qq (fun i (hi:i∈L)=>stL_bd (x:=x) (A:=A) (by rw [hL.out];exact hi))
 clear hA hA' hok
 go_upto_region 4 with fail
 clear c8 c9 d0
 have hGt:=refGet10_any S2 x p q po pt (some ⟨bq,oq,none⟩) n c m d no co nt ct nq cq A w1 HR.out hn hA0 (by omega)
 obtain ⟨hm0,hm1⟩:=decM_bd (evWd x A).toNat
 have hPt:=fun w=>refPointersF_any (evH x A).k (evH x A).n (evH x A).m w hm0 hm1
 rw [show ptrsV (evH x A).k (evH x A).n (evH x A).m=L from hL.out] at hPt
 obtain ⟨KD,hKD⟩:∃ KD,(evH x A).k=KD:=⟨_,rfl⟩
 obtain ⟨ND,hND⟩:∃ ND,(evH x A).n=ND:=⟨_,rfl⟩
 obtain ⟨MD,hMD⟩:∃ MD,(evH x A).m=MD:=⟨_,rfl⟩
 rw [hKD,hND,hMD] at hGt hPt
 have HPt:=qq hPt
 clear hKD hND hMD hPt hm0 hm1
 go_wp2_with (first | ((with_reducible show wpList _ _ _ _ _ _);refine za7 (op:=⟨some 27,.load 146 _,_,_,_,_⟩) rfl _ _ rfl _ rfl _ Ha.out za8 ?_))
 refine hGt.mono ?_
 rintro e w2 ⟨rfl,hb2⟩
 replace Ha:=qq (Ha.out.keep hb2 (Ha.out.lt rfl))
 replace Hb:=qq (Hb.out.keep hb2 (Hb.out.lt rfl))
 replace HB:=qq (za3 HB.out hb2)
 replace HR:=qq (HR.out.keep hb2)
 replace hwa:w.heap.size < w2.heap.size:=Ha.out.lt rfl
 replace hwb:w.heap.size+1 < w2.heap.size:=Hb.out.lt rfl
 clear hGt
 clear hb2
 have h2b:w.heap.size+1 < w2.heap.size:=hwb
 go_wp2_with fail
 refine (HPt.out w2).mono ?_
 rintro e w3 ⟨⟨pl,nl,cl,rfl,hl,hlf⟩,hb3⟩
 have HL:=qq hl
 have HLF:=qq hlf
 clear hl hlf HPt
 replace Ha:=qq (Ha.out.keep hb3 (Ha.out.lt rfl))
 replace Hb:=qq (Hb.out.keep hb3 (Hb.out.lt rfl))
 replace HB:=qq (za3 HB.out hb3)
 replace HR:=qq (HR.out.keep hb3)
 replace hwa:w.heap.size < w3.heap.size:=Ha.out.lt rfl
 replace hwb:w.heap.size+1 < w3.heap.size:=Hb.out.lt rfl
 clear hb3
 have hll:=HL.out.i63.2
 go_wp2_with fail
 go_loopw [7] (fun u wr=>∃ kk:Nat,u = .int .i64 kk/\kk<=nl/\∃ y p2 q2 po2 pt2 pq2 n2 c2 m2 d2 no2 co2 nt2 ct2 nq2 cq2,OwnL wr w.heap.size [.int .i64 y.h.pw,.int .i64 y.h.np,.slice p2 n2 c2,.slice q2 m2 d2,.int .i64 y.h.space,.int .i64 y.h.bump,.slice po2 no2 co2,.slice pt2 nt2 ct2,.slice pq2 nq2 cq2,.int .i64 y.sc,.int .i64 y.r0,.int .i64 y.r1,.int .i64 y.r2,.int .i64 y.r3,.int .i64 y.r4,.int .i64 y.r5]/\OwnL wr (w.heap.size+1) [.int .i64 0,.int .i64 0,.slice none 0 0,.slice none 0 0,.int .i64 0,.int .i64 0,.slice none 0 0,.slice none 0 0,.slice none 0 0,.int .i64 0,.int .i64 0,.int .i64 0,.int .i64 0,.int .i64 0,.int .i64 0,.int .i64 0]/\Below w.heap.size w wr/\WR wr S2 y p2 q2 po2 pt2 pq2 n2 c2 m2 d2 no2 co2 nt2 ct2 nq2 cq2/\SRow wr .i64 pl nl cl L/\stGo y A (L.drop kk)=stGo x A L/\StOK y A (L.drop kk)) (fun u _=>nl - (intOf u).toNat)
 case atStart=>exact ⟨0,rfl,Nat.zero_le _,x,p,q,po,pt,some ⟨bq,oq,none⟩,n,c,m,d,no,co,nt,ct,nq,cq,Ha.out,Hb.out,HB.out,HR.out,HL.out,rfl,HOK.out⟩
 case round =>
  obtain ⟨kk,rfl,hk2,y,p2,q2,po2,pt2,pq2,n2,c2,m2,d2,no2,co2,nt2,ct2,nq2,cq2,ha,hb,hB,hR,hLr,hgo,hso⟩:=hrel
  clear Ha Hb HB HR HL HOK hwa hwb
  have Ha:=qq ha
  have Hb:=qq hb
  have HB:=qq hB
  have HR:=qq hR
  have HL:=qq hLr
  have HGo:=qq hgo
  have HSo:=qq hso
  clear ha hb hB hR hLr hgo hso
  have hwa:w.heap.size < wr.heap.size:=Ha.out.lt rfl
  have hwb:w.heap.size+1 < wr.heap.size:=Hb.out.lt rfl
  by_cases hlt:kk < nl
  · obtain ⟨I,bl,ol,hI,hpl,d0⟩:=HL.out.at_ hlt
    obtain ⟨hI0,hI9⟩:=HLb.out I (List.mem_of_getElem? hI)
    have hlt2:(kk:Int) < nl:=by omega
    have hdr:=drop_at hI
    have HGo2:=HGo.out
    have HSo2:=HSo.out
    rw [hdr] at HGo2 HSo2
    obtain ⟨hfw,hso3⟩:=HSo2
    clear HGo HSo
    have HFW:=qq hfw
    have hn2:n2<=100000:=by have:=HR.out.words.len;have:=hfw.wl;omega
    have hnq2:nq2<=1000000:=by have:=HR.out.queue.len;have:=hfw.ql;omega
    clear hfw
    obtain ⟨AT,hAT⟩:∃ AT,A+1+I=AT:=⟨_,rfl⟩
    have e1:IntKind.u64.wrap (A+1)=A+1:=IntWalk.u64_in _ (by omega)
    have e2:IntKind.u64.wrap I=I:=IntWalk.u64_in _ (by omega)
    have e3:IntKind.u64.wrap (A+1+I)=AT:=by rw [hAT];exact IntWalk.u64_in _ (by omega)
    have hT0:0<=AT:=by omega
    have hT9:AT<=1001001:=by omega
    rw [hAT] at hso3
    rw [stGo,hAT] at HGo2
    have HGo:=qq HGo2
    have HSo:=qq hso3
    have HI:=qq hI
    have HAT:=qq hAT
    clear HGo2 hso3 hI hdr hAT
    subst hpl
    go_upto_region 9 with fail
    clear e1 e2 e3 d0
    have e2c:=Ha.out.cell 2 _ rfl
    obtain ⟨REF,hRF,hRl⟩:=zl5 HR.out.wb AT
    have HRF:=qq hRF
    have HRl:=qq hRl
    clear hRF hRl
    go_wp2_with fail
    refine (zd9 p2 n2 c2 y.h.words AT wr HR.out.words (by omega) hT0 (by omega)).mono ?_
    rintro e w4 ⟨rfl,rfl⟩
    rw [HRF.out]
    rw [HRF.out] at HGo HSo
    clear e2c
    have hFw:=refFwd_any S2 y p2 q2 po2 pt2 pq2 n2 c2 m2 d2 no2 co2 nt2 ct2 nq2 cq2 REF wr HR.out (fun b hb=>by have:=hsl b hb;omega) hn2 hnq2 HFW.out.pl (by omega) (by have:=HRl.out;omega)
    obtain ⟨E,hE⟩:∃ E,Hid (evE y REF=E):=⟨_,rfl⟩
    obtain ⟨TO,hTO⟩:∃ TO,Hid (evA y REF=TO):=⟨_,rfl⟩
    obtain ⟨Z9,hZ9⟩:∃ Z9,Hid (evW y REF=Z9):=⟨_,rfl⟩
    rw [hE.out,hTO.out,hZ9.out] at hFw
    rw [hE.out] at HGo HSo
    go_wp2_with (first | ((with_reducible show wpList _ _ _ _ _ _);refine za7 (op:=⟨some 54,.load 146 _,_,_,_,_⟩) rfl _ _ rfl _ rfl _ Ha.out za8 ?_))
    refine hFw.mono ?_
    rintro e w4 ⟨⟨v,rfl,p3,q3,po3,pt3,pq3,n3,c3,m3,d3,no3,co3,nt3,ct3,nq3,cq3,rfl,hwr⟩,hb4⟩
    have HP:=qq hwr
    clear hwr hFw
    replace Ha:=qq (Ha.out.keep hb4 (Ha.out.lt rfl))
    replace Hb:=qq (Hb.out.keep hb4 (Hb.out.lt rfl))
    replace HB:=qq (za3 HB.out hb4)
    replace HR:=qq (HR.out.keep hb4)
    replace HL:=qq (HL.out.keep hb4)
    replace hwa:w.heap.size < w4.heap.size:=Ha.out.lt rfl
    replace hwb:w.heap.size+1 < w4.heap.size:=Hb.out.lt rfl
    clear hb4
    have HN:=qq (OwnL.new w4 [.int .i64 0,.int .i64 0,.slice none 0 0,.slice none 0 0,.int .i64 0,.int .i64 0,.slice none 0 0,.slice none 0 0,.slice none 0 0,.int .i64 0,.int .i64 0,.int .i64 0,.int .i64 0,.int .i64 0,.int .i64 0,.int .i64 0] 146)
    go_wp2_with (first | ((with_reducible show wpList _ _ _ _ _ _);refine za6 (op:=⟨none,.store 146 _ _,_,_,_,_⟩) rfl _ _ _ rfl _ ?hx2 [.int .i64 Z9.h.pw,.int .i64 Z9.h.np,.slice p3 n3 c3,.slice q3 m3 d3,.int .i64 Z9.h.space,.int .i64 Z9.h.bump,.slice po3 no3 co3,.slice pt3 nt3 ct3,.slice pq3 nq3 cq3,.int .i64 Z9.sc,.int .i64 Z9.r0,.int .i64 Z9.r1,.int .i64 Z9.r2,.int .i64 Z9.r3,.int .i64 Z9.r4,.int .i64 Z9.r5] _ ?hy2 HN.out rfl rfl za8 ?_))
    (try (case hx2=>rfl))
    (try (case hy2=>rfl))
    intro w5 ho2 hbt2 hst2
    have hb5:Below w4.heap.size w4 w5:=za1.trans (hbt2.low (Nat.le_refl _) (by simp))
    have H3:=qq ho2
    have h4b:w.heap.size+1 < w4.heap.size:=hwb
    clear HN ho2 hbt2 hst2
    replace HP:=qq (HP.out.keep hb5)
    replace Ha:=qq (Ha.out.keep hb5 (Ha.out.lt rfl))
    replace Hb:=qq (Hb.out.keep hb5 (Hb.out.lt rfl))
    replace HB:=qq (za3 HB.out hb5)
    replace HR:=qq (HR.out.keep hb5)
    replace HL:=qq (HL.out.keep hb5)
    replace hwa:w.heap.size < w5.heap.size:=Ha.out.lt rfl
    replace hwb:w.heap.size+1 < w5.heap.size:=Hb.out.lt rfl
    have hwc:w4.heap.size < w5.heap.size:=H3.out.lt rfl
    clear hb5
    by_cases hE0:E=0
    · subst hE0
      rw [if_pos rfl] at HGo
      have hso:=HSo.out rfl
      clear HSo
      have hSN:zq8 y AT={ Z9 with h:={ Z9.h with words:=zc8 Z9.h.words AT [TO] } }:=by unfold zq8;rw [HRF.out,hZ9.out,hTO.out]
      rw [hSN] at HGo hso
      have HSo:=qq hso
      have HNB:=qq (wb_next (A:=AT) HFW.out.pl HR.out.wb (by rw [HRF.out,hZ9.out];exact HP.out.wb))
      rw [hSN] at HNB
      clear hso hSN HR
      go_wp2_with (first | ((with_reducible show wpList _ _ _ _ _ _);refine za7 (op:=⟨some 64,.load 146 _,_,_,_,_⟩) rfl _ _ rfl _ rfl _ H3.out za8 ?_) | ((with_reducible show wpList _ _ _ _ _ _);refine za6 (op:=⟨none,.store 146 _ _,_,_,_,_⟩) rfl _ _ _ rfl _ ?hx3 [.int .i64 Z9.h.pw,.int .i64 Z9.h.np,.slice p3 n3 c3,.slice q3 m3 d3,.int .i64 Z9.h.space,.int .i64 Z9.h.bump,.slice po3 no3 co3,.slice pt3 nt3 ct3,.slice pq3 nq3 cq3,.int .i64 Z9.sc,.int .i64 Z9.r0,.int .i64 Z9.r1,.int .i64 Z9.r2,.int .i64 Z9.r3,.int .i64 Z9.r4,.int .i64 Z9.r5] _ ?hy3 Ha.out rfl rfl za8 ?_))
      (try (case hx3=>rfl))
      (try (case hy3=>rfl))
      intro w6 ho2 hbt2 hst2
      have HP6:=qq (HP.out.stored hsa Ha.out (zd1 y p2 q2 po2 pt2 pq2 n2 c2 m2 d2 no2 co2 nt2 ct2 nq2 cq2) (by simp) hst2)
      replace HL:=qq (HL.out.butNe hbt2 (fun hne ad e=>by have:=HLF.out hne ad e;omega))
      replace Hb:=qq (Hb.out.but hbt2 hwb (by omega))
      replace HB:=qq (HB.out.trans (hbt2.low (Nat.le_refl _) (by omega)))
      clear Ha HP H3
      have Ha:=qq ho2
      clear ho2 hbt2 hst2
      have hw6a:w.heap.size < w6.heap.size:=Ha.out.lt rfl
      have hw6b:w.heap.size+1 < w6.heap.size:=Hb.out.lt rfl
      have hn3:n3<=100000:=by have h1:=HP6.out.words.len;have h2:=evW_wl HFW.out.wl REF;rw [hZ9.out] at h2;omega
      obtain ⟨SV,hSV⟩:∃ SV,Hid (zc8 Z9.h.words AT [TO]=SV):=⟨_,rfl⟩
      obtain ⟨SE,hSE⟩:∃ SE,zh4 Z9.h.words AT [TO]=SE:=⟨_,rfl⟩
      have hSt:=refStore_f p3 n3 c3 Z9.h.words AT TO w6 HP6.out.words hn3 hT0 (by omega)
      rw [hSV.out,hSE] at hSt
      rw [hSV.out] at HGo HSo HNB
      clear hSE
      have e2c:=Ha.out.cell 2 _ rfl
      go_wp2_with fail
      refine hSt.mono ?_
      rintro e w7 ⟨⟨p4,n4,c4,rfl,hs4,hwf4⟩,hb7⟩
      have HFR:=qq (show SV≠[]->∀ ad,p4=some ad->¬S2 ad.block from fun hne ad e hs=>by have h1:=hwf4 hne ad e;have h2:=hsl _ hs;omega)
      clear hwf4
      have HM:=qq hs4
      clear hs4 hSt e2c
      replace Ha:=qq (Ha.out.keep hb7 hw6a)
      replace Hb:=qq (Hb.out.keep hb7 hw6b)
      replace HB:=qq (za3 HB.out hb7)
      replace HP6:=qq (HP6.out.keep hb7)
      replace HL:=qq (HL.out.keep hb7)
      clear hb7 hw6a hw6b
      have e2c:=Ha.out.cell 2 _ rfl
      have f2c:=Ha.out.free 2
      have e9:IntKind.i64.wrap ((kk:Int)+1)=((kk+1:Nat):Int):=by rw [IntWalk.i64_in _ (by omega)];rfl
      have hnu:=zd1 Z9 p3 q3 po3 pt3 pq3 n3 c3 m3 d3 no3 co3 nt3 ct3 nq3 cq3
      have HX1:=qq (show OwnL (w7.setCell ⟨w.heap.size,2,none⟩ (.slice p4 n4 c4)) w.heap.size [.int .i64 Z9.h.pw,.int .i64 Z9.h.np,.slice p4 n4 c4,.slice q3 m3 d3,.int .i64 Z9.h.space,.int .i64 Z9.h.bump,.slice po3 no3 co3,.slice pt3 nt3 ct3,.slice pq3 nq3 cq3,.int .i64 Z9.sc,.int .i64 Z9.r0,.int .i64 Z9.r1,.int .i64 Z9.r2,.int .i64 Z9.r3,.int .i64 Z9.r4,.int .i64 Z9.r5] from Ha.out.set 2 (.slice p4 n4 c4) (by simp))
      have HX2:=qq (Hb.out.other ⟨w.heap.size,2,none⟩ (.slice p4 n4 c4) (by simp only;omega))
      have HX3:=qq (HB.out.setCell (p:=⟨w.heap.size,2,none⟩) (Nat.le_refl _) (.slice p4 n4 c4))
      have HX4:=qq (show WR (w7.setCell ⟨w.heap.size,2,none⟩ (.slice p4 n4 c4)) S2 Z9 p3 q3 po3 pt3 pq3 n3 c3 m3 d3 no3 co3 nt3 ct3 nq3 cq3 from zi6 HP6.out Ha.out hnu hsa [.slice p4 n4 c4] 2 (by simp))
      have HX5:=qq (show SRow (w7.setCell ⟨w.heap.size,2,none⟩ (.slice p4 n4 c4)) .i64 _ _ _ _ from ya6 (b:=w.heap.size) (fun hne ad e=>by have:=HLF.out hne ad e;omega) [.slice p4 n4 c4] 2 _ HL.out)
      have HX6:=qq (show SRow (w7.setCell ⟨w.heap.size,2,none⟩ (.slice p4 n4 c4)) .u64 _ _ _ _ from zc3 [.slice p4 n4 c4] 2 _ _ HM.out Ha.out (fun j y _=>hnu j y) (by simp))
      clear hnu
      go_wp2
      go_roundw
      case rel =>
       exact ⟨kk+1,by go_num,by omega,{ Z9 with h:={ Z9.h with words:=SV } },p4,q3,po3,pt3,pq3,n4,c4,m3,d3,no3,co3,nt3,ct3,nq3,cq3,HX1.out,HX2.out,HX3.out,⟨HX6.out,HX4.out.pages,HNB.out,HX4.out.old,HX4.out.taken,HX4.out.queue,HX4.out.ap,HX4.out.at_,HFR.out,HX4.out.ao,HX4.out.aq⟩,HX5.out,HGo.out,HSo.out⟩
      case measure=>simp [intOf];omega
    · have hEn:(E != 0)=true:=bne_iff_ne.2 hE0
      rw [if_neg hE0] at HGo
      have hRes:=HGo.out
      have HE1:=qq (show stE x A=E from by unfold stE;rw [hL.out,<-hRes])
      have HE2:=qq (show stX x A=Wk.zero from by unfold stX;rw [HE1.out,if_neg hE0])
      have HE3:=qq (show stB x A=false from by unfold stB;rw [HE1.out];exact decide_eq_false hE0)
      clear H3 HP HSo HGo hRes hE0
      have hl9:=Hb.out.lt rfl
      go_wp2_with (first | ((with_reducible show wpList _ _ _ _ _ _);refine za6 (op:=⟨none,.store 146 _ _,_,_,_,_⟩) rfl _ _ _ rfl _ ?hx4 [.int .i64 0,.int .i64 0,.slice none 0 0,.slice none 0 0,.int .i64 0,.int .i64 0,.slice none 0 0,.slice none 0 0,.slice none 0 0,.int .i64 0,.int .i64 0,.int .i64 0,.int .i64 0,.int .i64 0,.int .i64 0,.int .i64 0] _ ?hy4 Hb.out rfl rfl za8 ?_))
      (try (case hx4=>rfl))
      (try (case hy4=>rfl))
      intro w9 ho hbt hst
      have HZ:=qq ho
      have HXB:=qq (HB.out.trans (hbt.low (by omega) (by omega)))
      clear ho hbt
      go_wp2
      refine bodyPost_ret (ze5 rfl rfl HZ.out za8) rfl ?_
      rw [HE1.out,HE2.out,HE3.out]
      exact ⟨⟨_,rfl,WV.zero _ _⟩,HXB.out⟩
  · obtain rfl:kk=nl:=by omega
    have hnl:¬(kk:Int) < kk:=by omega
    have hln:=HL.out.len
    have hdr:L.drop kk=[]:=List.drop_eq_nil_of_le (by omega)
    have hG:=HGo.out
    rw [hdr] at hG
    have HG:=qq (show (y,(0:Int))=stGo x A L from hG)
    clear HGo HSo hdr hG
    have e9c:=Ha.out.cell 9 _ rfl
    have f9c:=Ha.out.free 9
    have e15c:=Ha.out.cell 15 _ rfl
    have f15c:=Ha.out.free 15
    go_upto_region 17 with fail
    clear e9c f9c e15c f15c
    obtain ⟨w5,hset⟩:∃ W,Hid ((wr.setCell ⟨w.heap.size,9,none⟩ (.int .i64 (wrap64 (y.sc+1)))).setCell ⟨w.heap.size,15,none⟩ (.int .i64 (wrap64 (wrap64 (y.r5+1)+kk)))=W):=⟨_,rfl⟩
    rw [hset.out]
    have Ha0:=qq Ha.out
    replace Ha:=qq (show OwnL w5 w.heap.size [.int .i64 y.h.pw,.int .i64 y.h.np,.slice p2 n2 c2,.slice q2 m2 d2,.int .i64 y.h.space,.int .i64 y.h.bump,.slice po2 no2 co2,.slice pt2 nt2 ct2,.slice pq2 nq2 cq2,.int .i64 (wrap64 (y.sc+1)),.int .i64 y.r0,.int .i64 y.r1,.int .i64 y.r2,.int .i64 y.r3,.int .i64 y.r4,.int .i64 (wrap64 (wrap64 (y.r5+1)+kk))] from by rw [<-hset.out];exact (Ha.out.set 9 _ (by simp)).set 15 _ (by simp))
    replace Hb:=qq (show OwnL w5 (w.heap.size+1) [.int .i64 0,.int .i64 0,.slice none 0 0,.slice none 0 0,.int .i64 0,.int .i64 0,.slice none 0 0,.slice none 0 0,.slice none 0 0,.int .i64 0,.int .i64 0,.int .i64 0,.int .i64 0,.int .i64 0,.int .i64 0,.int .i64 0] from by rw [<-hset.out];exact (Hb.out.other _ _ (by simp only;omega)).other _ _ (by simp only;omega))
    replace HB:=qq (show Below w.heap.size w w5 from by rw [<-hset.out];exact (HB.out.setCell (Nat.le_refl _) _).setCell (Nat.le_refl _) _)
    have HE1:=qq (show stE x A=0 from by unfold stE;rw [hL.out,<-HG.out])
    have HE2:=qq (show stX x A={ y with sc:=wrap64 (y.sc+1),r5:=wrap64 (wrap64 (y.r5+1)+kk) } from by unfold stX stW;rw [HE1.out,if_pos rfl,hL.out,<-HG.out,hln])
    have HE3:=qq (show stB x A=true from by unfold stB;rw [HE1.out];rfl)
    have hbs:Below wr.heap.size wr wr:=Below.refl _ _
    have hnu:=zd1 y p2 q2 po2 pt2 pq2 n2 c2 m2 d2 no2 co2 nt2 ct2 nq2 cq2
    have HR5:=qq (show WR w5 S2 y p2 q2 po2 pt2 pq2 n2 c2 m2 d2 no2 co2 nt2 ct2 nq2 cq2 from by rw [<-hset.out];exact zi6 (zi6 HR.out Ha0.out hnu hsa [.int .i64 (wrap64 (y.sc+1))] 9 (by simp)) (Ha0.out.set 9 _ (by simp)) (zd1 { y with sc:=wrap64 (y.sc+1) } p2 q2 po2 pt2 pq2 n2 c2 m2 d2 no2 co2 nt2 ct2 nq2 cq2) hsa [.int .i64 (wrap64 (wrap64 (y.r5+1)+kk))] 15 (by simp))
    clear hnu hset HG hbs
    have hl5:=Hb.out.lt rfl
    have hl9:=Hb.out.lt rfl
    go_wp2_with (first | ((with_reducible show wpList _ _ _ _ _ _);refine za7 (op:=⟨some 89,.load 146 _,_,_,_,_⟩) rfl _ _ rfl _ rfl _ Ha.out za8 ?_) | ((with_reducible show wpList _ _ _ _ _ _);refine za6 (op:=⟨none,.store 146 _ _,_,_,_,_⟩) rfl _ _ _ rfl _ ?hx5 [.int .i64 y.h.pw,.int .i64 y.h.np,.slice p2 n2 c2,.slice q2 m2 d2,.int .i64 y.h.space,.int .i64 y.h.bump,.slice po2 no2 co2,.slice pt2 nt2 ct2,.slice pq2 nq2 cq2,.int .i64 (wrap64 (y.sc+1)),.int .i64 y.r0,.int .i64 y.r1,.int .i64 y.r2,.int .i64 y.r3,.int .i64 y.r4,.int .i64 (wrap64 (wrap64 (y.r5+1)+kk))] _ ?hy5 Hb.out rfl rfl za8 ?_))
    (try (case hx5=>rfl))
    (try (case hy5=>rfl))
    intro w9 ho hbt hst
    have HZ:=qq ho
    have HXB:=qq (HB.out.trans (hbt.low (by omega) (by omega)))
    clear ho hbt
    have HXR:=qq (show WR w9 S { y with sc:=wrap64 (y.sc+1),r5:=wrap64 (wrap64 (y.r5+1)+kk) } p2 q2 po2 pt2 pq2 n2 c2 m2 d2 no2 co2 nt2 ct2 nq2 cq2 from by have h:=(HR5.out.stored hsb Hb.out zm2 (by simp) hst).mono hs2;exact ⟨h.words,h.pages,h.wb,h.old,h.taken,h.queue,h.ap,h.at_,h.aw,h.ao,h.aq⟩)
    go_wp2
    refine bodyPost_ret (ze5 rfl rfl HZ.out za8) rfl ?_
    rw [HE1.out,HE2.out,HE3.out]
    exact ⟨⟨_,rfl,p2,q2,po2,pt2,pq2,n2,c2,m2,d2,no2,co2,nt2,ct2,nq2,cq2,rfl,HXR.out⟩,HXB.out⟩
end Go.Proofs.YtipjdbhocjpmdaaGreat
