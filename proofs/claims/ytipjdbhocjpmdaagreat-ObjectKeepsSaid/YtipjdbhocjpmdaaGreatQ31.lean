import Derived.Test.YtipjdbhocjpmdaaGreatQ01
import Derived.Test.YtipjdbhocjpmdaaGreatQ28
import Derived.Test.YtipjdbhocjpmdaaGreatQ29
import Derived.Test.YtipjdbhocjpmdaaGreatQ30
import Derived.Deep.DeepCutAuto
set_option linter.unusedSimpArgs false
set_option linter.unusedVariables false
set_option maxRecDepth 100000
set_option maxHeartbeats 12800000
namespace Go.Proofs.YtipjdbhocjpmdaaGreat
open Go.RowKit
theorem ye6 {α:Type} {p:α->Bool}:∀ (L:List α) (n:Nat),n<=L.length->(∀ j y,j < n->L[j]?=some y->p y=true)->(∀ y,L[n]?=some y->p y=false)->(L.takeWhile p).length=n
 | [],n,hn,_,_=>by simp at hn;subst hn;rfl
 | y :: r,0,_,_,h=>by rw [List.takeWhile_cons,h y rfl];rfl
 | y :: r,n+1,hn,ha,h=>by
  rw [List.takeWhile_cons,ha 0 y (by omega) rfl]
  simp only [if_true,List.length_cons]
  rw [ye6 r n (by simpa using hn) (fun j z hj hz=>ha (j+1) z (by omega) (by simpa using hz)) (fun z hz=>h z (by simpa using hz))]
theorem tailEnd_is {ps:List Pg} {i k:Nat} (h1:i+1<=k) (h2:k<=ps.length) (h3:∀ l y,i < l->l < k->ps[l]?=some y->y.kind=3) (h4:∀ y,ps[k]?=some y->¬y.kind=3):zu6 ps i=k:=by
 unfold zu6
 rw [ye6 (ps.drop (i+1)) (k - (i+1)) (by rw [List.length_drop];omega) (fun j y hj hy=>decide_eq_true (h3 (i+1+j) y (by omega) (by omega) (by rw [List.getElem?_drop] at hy;exact hy))) (fun y hy=>decide_eq_false (h4 y (by rw [List.getElem?_drop] at hy;rw [show i+1+(k - (i+1))=k by omega] at hy;exact hy)))]
 omega
theorem spc_len (ps:List Pg) (i k:Nat) (sp:Int):(spc ps i k sp).length=ps.length:=by unfold spc;simp
theorem spc_get {ps:List Pg} {i k j:Nat} {sp:Int} {y:Pg} (h:ps[j]?=some y):(spc ps i k sp)[j]?=some (if i<=j/\j < k then ⟨y.kind,sp,y.used,y.pins⟩ else y):=by
 unfold spc;rw [List.getElem?_mapIdx,h];rfl
theorem spc_none {ps:List Pg} {i k j:Nat} {sp:Int} (h:ps[j]?=none):(spc ps i k sp)[j]?=none:=by
 unfold spc;rw [List.getElem?_mapIdx,h];rfl
theorem spc_step {ps:List Pg} {i k:Nat} {sp:Int} {y:Pg} (hi:i<=k) (h:ps[k]?=some y):(spc ps i k sp).set k ⟨y.kind,sp,y.used,y.pins⟩=spc ps i (k+1) sp:=by
 apply List.ext_getElem?
 intro j
 rw [List.getElem?_set,spc_len]
 have hk:=(List.getElem?_eq_some_iff.1 h).1
 by_cases e:k=j
 · subst e;rw [if_pos rfl,if_pos hk,spc_get h,if_pos ⟨hi,by omega⟩]
 · rw [if_neg e]
   cases hj:ps[j]? with
   | none=>rw [spc_none hj,spc_none hj]
   | some z =>
    rw [spc_get hj,spc_get hj]
    by_cases c:i<=j/\j < k
    · rw [if_pos c,if_pos ⟨c.1,by omega⟩]
    · rw [if_neg c,if_neg (by omega)]
theorem spc_start {ps:List Pg} {i:Nat} {sp:Int}:spc ps i i sp=ps:=by
 apply List.ext_getElem?
 intro j
 cases hj:ps[j]? with
 | none=>rw [spc_none hj]
 | some z=>rw [spc_get hj,if_neg (by omega)]
theorem pvals_space (ps:List Pg) (j:Nat) (x:Pg) (u:Int) (hx:ps[j]?=some x):(zc4 ps).set (j*4+1) (.int .i64 u)=zc4 (ps.set j ⟨x.kind,u,x.used,x.pins⟩):=by
 rw [<-zy6 ps j ⟨x.kind,u,x.used,x.pins⟩]
 obtain ⟨h0,h1,h2,h3⟩:=zp4 ps j x hx
 apply List.ext_getElem?
 intro i
 simp only [List.getElem?_set,List.length_set]
 by_cases i3:j*4+3=i
 · subst i3;rw [if_neg (by omega),if_pos rfl,h3];have:=(List.getElem?_eq_some_iff.1 h3).1;rw [if_pos this]
 · rw [if_neg i3]
   by_cases i2:j*4+2=i
   · subst i2;rw [if_neg (by omega),if_pos rfl,h2];have:=(List.getElem?_eq_some_iff.1 h2).1;rw [if_pos this]
   · rw [if_neg i2]
     by_cases i1:j*4+1=i
     · rw [if_pos i1,if_pos i1]
     · rw [if_neg i1,if_neg i1]
       by_cases i0:j*4=i
       · subst i0;rw [if_pos rfl,h0];have:=(List.getElem?_eq_some_iff.1 h0).1;rw [if_pos this]
       · rw [if_neg i0]
theorem fwd_large (S:Nat->Prop) (x:Wk) (p q po pt pq:Option Addr) (n c m d no co nt ct nq cq:Nat) (a:Int) (w:World) (hr:WR w S x p q po pt pq n c m d no co nt ct nq cq) (hS:∀ b,S b->b < w.heap.size) (hn:n<=100000) (ha:a≠0) (hp0:0<=a) (hp1:a < 18446744073709551616) (hq:¬a∈x.queue) (ho:a∈x.old) (ht:okT (evWd x a).toNat=false) (he:ofE x.h.pw x.h.np a=0) (hi:evI x a < m) (hi0:0<=evI x a) (hq5:nq<=1000000) (hx:PlOK x) (hpr:zi2 x (evI x a)=false) (hbig:evBig x a=true) :
 Calls Tryz.prog 138 #[(.agg #[.int .i64 x.h.pw,.int .i64 x.h.np,.slice p n c,.slice q m d,.int .i64 x.h.space,.int .i64 x.h.bump,.slice po no co,.slice pt nt ct,.slice pq nq cq,.int .i64 x.sc,.int .i64 x.r0,.int .i64 x.r1,.int .i64 x.r2,.int .i64 x.r3,.int .i64 x.r4,.int .i64 x.r5]),.int .u64 a] w fun e w'=>RetF S (zq2 (zm5 x (evI x a).toNat) a) a 0 e w'/\Below w.heap.size w w':=by
 have HP1:=qq hp1
 clear hp1
 have Hr:=qq (fun w' (hb:Below w.heap.size w w')=>hr.keep hb)
 obtain ⟨S2,hs2,hsa,hsb,hsl,hr2⟩:=hr.box hS
 obtain ⟨w1,hw1,hbx⟩:=boxes2x w 146 [.int .i64 x.h.pw,.int .i64 x.h.np,.slice p n c,.slice q m d,.int .i64 x.h.space,.int .i64 x.h.bump,.slice po no co,.slice pt nt ct,.slice pq nq cq,.int .i64 x.sc,.int .i64 x.r0,.int .i64 x.r1,.int .i64 x.r2,.int .i64 x.r3,.int .i64 x.r4,.int .i64 x.r5] [.int .i64 0,.int .i64 0,.slice none 0 0,.slice none 0 0,.int .i64 0,.int .i64 0,.slice none 0 0,.slice none 0 0,.slice none 0 0,.int .i64 0,.int .i64 0,.int .i64 0,.int .i64 0,.int .i64 0,.int .i64 0,.int .i64 0]
 have Ha:=qq hbx.1
 have Hb:=qq hbx.2.1
 have HB:=qq hbx.2.2
 have HR:=qq (hr2.keep hbx.2.2)
 clear hbx hr2
 have hwa:w.heap.size < w1.heap.size:=Ha.out.lt rfl
 have hwb:w.heap.size+1 < w1.heap.size:=Hb.out.lt rfl
 have hH:=qq (fun w' (hb:Below w1.heap.size w1 w')=>zf1 (b:=false) (decide_eq_false hq) w' (HR.out.keep hb).queue)
 have ha0:(a == 0)=false:=beq_eq_false_iff_ne.2 ha
 clear ha
 clear hr
 have c8:=Ha.out.cell 8 _ rfl
 go_enter Tryz.func138,Tryz.ntmps138
 go_upto_region 1 with fail
 rw [hw1.out]
 clear hw1
 go_wp2_with fail
 refine (hH.out _ (Below.refl _ _)).mono ?_
 rintro e w2 ⟨rfl,hb2⟩
 replace Ha:=qq (Ha.out.keep hb2 hwa)
 replace Hb:=qq (Hb.out.keep hb2 hwb)
 replace HB:=qq (za3 HB.out hb2)
 replace HR:=qq (HR.out.keep hb2)
 replace hwa:w.heap.size < w2.heap.size:=Ha.out.lt rfl
 replace hwb:w.heap.size+1 < w2.heap.size:=Hb.out.lt rfl
 clear hb2
 clear c8
 have c6:=Ha.out.cell 6 _ rfl
 go_wp2_with fail
 refine (zf1 (b:=true) (decide_eq_true ho) w2 HR.out.old).mono ?_
 rintro e w3 ⟨rfl,hb3⟩
 replace Ha:=qq (Ha.out.keep hb3 hwa)
 replace Hb:=qq (Hb.out.keep hb3 hwb)
 replace HB:=qq (za3 HB.out hb3)
 replace HR:=qq (HR.out.keep hb3)
 replace hwa:w.heap.size < w3.heap.size:=Ha.out.lt rfl
 replace hwb:w.heap.size+1 < w3.heap.size:=Hb.out.lt rfl
 clear hb3
 clear c6 ho
 have c2:=Ha.out.cell 2 _ rfl
 obtain ⟨W0,hW,hWl⟩:=zl5 HR.out.wb a
 have HW:=qq hW
 have HWl:=qq hWl
 clear hW hWl
 go_wp2_with fail
 refine (zd9 p n c x.h.words a w3 HR.out.words (by omega) hp0 HP1.out).mono ?_
 rintro e w4 ⟨rfl,rfl⟩
 rw [HW.out]
 clear c2
 have hT:=zk8 W0 w3 HWl.out
 rw [show okT W0=false from by rw [<-ht];unfold evWd;rw [HW.out];rfl] at hT
 go_wp2_with fail
 refine hT.mono ?_
 rintro e w4 ⟨rfl,rfl⟩
 clear hT
 have c0:=Ha.out.cell 0 _ rfl
 have c1:=Ha.out.cell 1 _ rfl
 have c3:=Ha.out.cell 3 _ rfl
 obtain ⟨tg,htg⟩:∃ tg,tgtV W0=tg:=⟨_,rfl⟩
 rw [htg]
 clear htg
 have hOf:=zk6 x.h.pw x.h.np a w3 hp0 HP1.out
 obtain ⟨I,hI⟩:∃ I,Hid (evI x a=I):=⟨_,rfl⟩
 obtain ⟨K,hK⟩:∃ K,ofK x.h.pw x.h.np a=K:=⟨_,rfl⟩
 rw [show ofI x.h.pw x.h.np a=I from hI.out,hK,he] at hOf
 clear hK
 go_wp2_with fail
 refine hOf.mono ?_
 rintro e w4 ⟨rfl,hb4⟩
 replace Ha:=qq (Ha.out.keep hb4 hwa)
 replace Hb:=qq (Hb.out.keep hb4 hwb)
 replace HB:=qq (za3 HB.out hb4)
 replace HR:=qq (HR.out.keep hb4)
 replace hwa:w.heap.size < w4.heap.size:=Ha.out.lt rfl
 replace hwb:w.heap.size+1 < w4.heap.size:=Hb.out.lt rfl
 clear hb4
 clear hOf c0 c1 c3
 have c3:=Ha.out.cell 3 _ rfl
 rw [hI.out] at hi
 have hlm:=HR.out.pages.i63.2
 have hPr:=zv3 x p q po pt pq n c m d no co nt ct nq cq I w4 HR.out.taken HR.out.pages
 rw [show zi2 x I=false from by rw [<-hpr,hI.out]] at hPr
 go_wp2_with (first | ((with_reducible show wpList _ _ _ _ _ _);refine za7 (op:=⟨some 75,.load 146 _,_,_,_,_⟩) rfl _ _ rfl _ rfl _ Ha.out za8 ?_))
 refine hPr.mono ?_
 rintro e w5 ⟨rfl,hb5⟩
 replace Ha:=qq (Ha.out.keep hb5 hwa)
 replace Hb:=qq (Hb.out.keep hb5 hwb)
 replace HB:=qq (za3 HB.out hb5)
 replace HR:=qq (HR.out.keep hb5)
 replace hwa:w.heap.size < w5.heap.size:=Ha.out.lt rfl
 replace hwb:w.heap.size+1 < w5.heap.size:=Hb.out.lt rfl
 clear hb5
 clear hPr c3
 rw [hI.out] at hi0
 obtain ⟨k,rfl⟩:∃ k:Nat,I=k:=⟨I.toNat,by omega⟩
 have hkm:k < m:=by omega
 obtain ⟨g,b5,off,hxg,hqq,y0,y1,y2,y3⟩:=HR.out.pages.at_ hkm
 subst hqq
 have hkd:(g.kind == 2)=true:=by have:=hbig;unfold evBig at this;rw [hI.out,Int.toNat_natCast,zc6 hxg] at this;simpa using this
 have HXG:=qq hxg
 clear hxg hbig
 have c3:=Ha.out.cell 3 _ rfl
 obtain ⟨i0,hin,hz0,hz1,hz2⟩:=info_parts zr6
 have hml:=HR.out.pages.len
 have hm64:m<=64:=by have:=hx.np1;have h1:x.h.pages.length=m:=PRow.len HR.out.pages;omega
 have hown0:(w5.alloc (.cells #[] 77)).ownsRow w5.heap.size 77 4 (.slice (some ⟨w5.heap.size,0,none⟩) 0 0) 0 []:=by
  simpa using zf9 w5 77 4
 have Hq:=qq (show PRow (w5.alloc (.cells #[] 77)) (some ⟨b5,off,none⟩) m d x.h.pages from HR.out.pages.keep za1)
 have h5a:w.heap.size+1 < w5.heap.size:=hwb
 go_wp2_with (at_builtin;refine zg3 rfl _ _ 25 rfl w5.heap.size 77 i0 _ 4 32 Tryz.underlying25 hin hz0 hz1 hz2 rfl (by decide) (.slice (some ⟨w5.heap.size,0,none⟩) 0 0) 0 [] rfl hown0 (some ⟨b5,off,none⟩) m d (zc4 x.h.pages) rfl ?src (zr1 x.h.pages) ?c3 ?c4 ?c5 ?_)
 case src=>exact Hq.out
 case c3=>unfold maxLen;omega
 case c4=>omega
 case c5=>simp
 intro v' w6 hown hgrow
 have hb6:Below w5.heap.size w5 w6:=((Below.refl _ _).alloc (Nat.le_refl _) _).grown hgrow (by simp) (fun k h=>by simp [Value.ownBlock] at h;omega)
 obtain ⟨g9,cc,rfl,hg,hgl⟩:=World.ownsRow.form hown (by omega)
 have Hown:=qq hown
 clear hgrow hown0 hown Hq y0 y1 y2 y3 c3
 replace Ha:=qq (Ha.out.keep hb6 hwa)
 replace Hb:=qq (Hb.out.keep hb6 hwb)
 replace HB:=qq (za3 HB.out hb6)
 replace HR:=qq (HR.out.keep hb6)
 replace hwa:w.heap.size < w6.heap.size:=Ha.out.lt rfl
 replace hwb:w.heap.size+1 < w6.heap.size:=Hb.out.lt rfl
 clear hb6
 have HAT:=qq HR.out.at_
 have HAW:=qq HR.out.aw
 have HAO:=qq HR.out.ao
 have HAQ:=qq HR.out.aq
 have c3:=Ha.out.cell 3 _ rfl
 have f3:=Ha.out.free 3
 go_upto_region 16 with fail
 clear c3 f3
 obtain ⟨w7,hset⟩:∃ W,Hid (w6.setCell ⟨w.heap.size,3,none⟩ (.slice (some ⟨g9,0,none⟩) m cc)=W):=⟨_,rfl⟩
 rw [hset.out]
 replace Ha:=qq (show OwnL w7 w.heap.size [.int .i64 x.h.pw,.int .i64 x.h.np,.slice p n c,.slice (some ⟨g9,0,none⟩) m cc,.int .i64 x.h.space,.int .i64 x.h.bump,.slice po no co,.slice pt nt ct,.slice pq nq cq,.int .i64 x.sc,.int .i64 x.r0,.int .i64 x.r1,.int .i64 x.r2,.int .i64 x.r3,.int .i64 x.r4,.int .i64 x.r5] from by rw [<-hset.out];exact Ha.out.set 3 (.slice (some ⟨g9,0,none⟩) m cc) (by simp))
 replace Hb:=qq (show OwnL w7 (w.heap.size+1) [.int .i64 0,.int .i64 0,.slice none 0 0,.slice none 0 0,.int .i64 0,.int .i64 0,.slice none 0 0,.slice none 0 0,.slice none 0 0,.int .i64 0,.int .i64 0,.int .i64 0,.int .i64 0,.int .i64 0,.int .i64 0,.int .i64 0] from by rw [<-hset.out];exact Hb.out.other ⟨w.heap.size,3,none⟩ (.slice (some ⟨g9,0,none⟩) m cc) (by simp only;omega))
 replace Hown:=qq (show w7.ownsRow w5.heap.size 77 4 (.slice (some ⟨g9,0,none⟩) m cc) m (zc4 x.h.pages) from by rw [<-hset.out];exact zd0 Hown.out ⟨w.heap.size,3,none⟩ (.slice (some ⟨g9,0,none⟩) m cc) (by simp only;omega))
 replace HB:=qq (show Below w.heap.size w w7 from by rw [<-hset.out];exact HB.out.setCell (p:=⟨w.heap.size,3,none⟩) (Nat.le_refl _) (.slice (some ⟨g9,0,none⟩) m cc))
 clear hset HR hwa hwb
 have hsp0:=hx.sp0
 have hsp1:=hx.sp1
 have e1:IntKind.i64.wrap (1 - x.h.space)=1 - x.h.space:=IntWalk.i64_in _ (by omega)
 have c3:=Ha.out.cell 3 _ rfl
 have c4:=Ha.out.cell 4 _ rfl
 have q1:=Hown.out.cellAt (k*4+1) (by omega)
 rw [(zp4 _ _ _ HXG.out).2.1] at q1
 have fq:=Hown.out.frozenAt (k*4+1)
 go_upto_region 17 with fail
 clear c3 c4 q1 fq
 have hst1:=(Hown.out.stored (k*4+1) (.int .i64 (1 - x.h.space))).1
 rw [pvals_space _ _ _ _ HXG.out,<-spc_start (ps:=x.h.pages) (i:=k) (sp:=1 - x.h.space),spc_step (Nat.le_refl k) HXG.out] at hst1
 obtain ⟨w8,hset⟩:∃ W,Hid (w7.setCell ⟨g9,k*4+1,none⟩ (.int .i64 (1 - x.h.space))=W):=⟨_,rfl⟩
 rw [hset.out]
 rw [hset.out] at hst1
 clear Hown
 have Hown:=qq hst1
 clear hst1
 replace Ha:=qq (show OwnL w8 w.heap.size [.int .i64 x.h.pw,.int .i64 x.h.np,.slice p n c,.slice (some ⟨g9,0,none⟩) m cc,.int .i64 x.h.space,.int .i64 x.h.bump,.slice po no co,.slice pt nt ct,.slice pq nq cq,.int .i64 x.sc,.int .i64 x.r0,.int .i64 x.r1,.int .i64 x.r2,.int .i64 x.r3,.int .i64 x.r4,.int .i64 x.r5] from by rw [<-hset.out];exact Ha.out.other ⟨g9,k*4+1,none⟩ (.int .i64 (1 - x.h.space)) (by simp only;omega))
 replace Hb:=qq (show OwnL w8 (w.heap.size+1) [.int .i64 0,.int .i64 0,.slice none 0 0,.slice none 0 0,.int .i64 0,.int .i64 0,.slice none 0 0,.slice none 0 0,.slice none 0 0,.int .i64 0,.int .i64 0,.int .i64 0,.int .i64 0,.int .i64 0,.int .i64 0,.int .i64 0] from by rw [<-hset.out];exact Hb.out.other ⟨g9,k*4+1,none⟩ (.int .i64 (1 - x.h.space)) (by simp only;omega))
 replace HB:=qq (show Below w.heap.size w w8 from by rw [<-hset.out];exact HB.out.setCell (p:=⟨g9,k*4+1,none⟩) (by simp only;omega) (.int .i64 (1 - x.h.space)))
 clear hset
 have e2:IntKind.i64.wrap ((k:Int)+1)=((k+1:Nat):Int):=by rw [IntWalk.i64_in _ (by omega)];rfl
 go_wp2_with fail
 go_loopw [14] (fun u wr=>∃ kk:Nat,u = .int .i64 kk/\k+1<=kk/\kk<=m/\(∀ l y,k < l->l < kk->x.h.pages[l]?=some y->y.kind=3)/\OwnL wr w.heap.size [.int .i64 x.h.pw,.int .i64 x.h.np,.slice p n c,.slice (some ⟨g9,0,none⟩) m cc,.int .i64 x.h.space,.int .i64 x.h.bump,.slice po no co,.slice pt nt ct,.slice pq nq cq,.int .i64 x.sc,.int .i64 x.r0,.int .i64 x.r1,.int .i64 x.r2,.int .i64 x.r3,.int .i64 x.r4,.int .i64 x.r5]/\OwnL wr (w.heap.size+1) [.int .i64 0,.int .i64 0,.slice none 0 0,.slice none 0 0,.int .i64 0,.int .i64 0,.slice none 0 0,.slice none 0 0,.slice none 0 0,.int .i64 0,.int .i64 0,.int .i64 0,.int .i64 0,.int .i64 0,.int .i64 0,.int .i64 0]/\Below w.heap.size w wr/\wr.ownsRow w5.heap.size 77 4 (.slice (some ⟨g9,0,none⟩) m cc) m (zc4 (spc x.h.pages k kk (1 - x.h.space)))) (fun u _=>m - (intOf u).toNat)
 case atStart=>exact ⟨k+1,rfl,Nat.le_refl _,by omega,fun l y h1 h2=>by omega,Ha.out,Hb.out,HB.out,Hown.out⟩
 case round =>
  obtain ⟨kk,rfl,hk1,hk2,hk3,ha,hb,hB,hown⟩:=hrel
  clear Ha Hb HB Hown e2
  have HK:=qq hk3
  have Ha:=qq ha
  have Hb:=qq hb
  have HB:=qq hB
  have Hown:=qq hown
  clear hk3 ha hb hB hown
  have hwa:w.heap.size < wr.heap.size:=Ha.out.lt rfl
  have hwb:w.heap.size+1 < wr.heap.size:=Hb.out.lt rfl
  have c3:=Ha.out.cell 3 _ rfl
  have c4:=Ha.out.cell 4 _ rfl
  have hpl:x.h.pages.length=m:=PRow.len (Hr.out w (Below.refl _ _)).pages
  by_cases hlt:kk < m
  · obtain ⟨y,hy⟩:∃ y,x.h.pages[kk]?=some y:=⟨_,List.getElem?_eq_getElem (by omega)⟩
    have hsy:=spc_get (i:=k) (k:=kk) (sp:=1 - x.h.space) hy
    rw [if_neg (by omega)] at hsy
    have hlt2:(kk:Int) < m:=by omega
    obtain ⟨p0,p1,-,-⟩:=zp4 _ _ _ hsy
    have q0:=Hown.out.cellAt (kk*4) (by omega)
    rw [p0] at q0
    clear p0
    have HY:=qq hy
    have HSY:=qq hsy
    clear hy hsy
    by_cases h3:y.kind=3
    · have h3b:(y.kind == 3)=true:=beq_iff_eq.2 h3
      have q1:=Hown.out.cellAt (kk*4+1) (by omega)
      rw [p1] at q1
      clear p1
      have fq:=Hown.out.frozenAt (kk*4+1)
      have e3:IntKind.i64.wrap ((kk:Int)+1)=((kk+1:Nat):Int):=by rw [IntWalk.i64_in _ (by omega)];rfl
      have hst1:=(Hown.out.stored (kk*4+1) (.int .i64 (1 - x.h.space))).1
      rw [pvals_space _ _ _ _ HSY.out,spc_step (by omega) HY.out] at hst1
      have Hst1:=qq hst1
      have H3:=qq h3
      clear hst1 h3
      go_wp2
      go_roundw
      case rel =>
       refine ⟨kk+1,by go_num,by omega,by omega,fun l z h1 h2 hz=>?_,Ha.out.other ⟨g9,kk*4+1,none⟩ (.int .i64 (1 - x.h.space)) (by simp only;omega),Hb.out.other ⟨g9,kk*4+1,none⟩ (.int .i64 (1 - x.h.space)) (by simp only;omega),HB.out.setCell (p:=⟨g9,kk*4+1,none⟩) (by simp only;omega) (.int .i64 (1 - x.h.space)),Hst1.out⟩
       by_cases hl:l < kk
       · exact HK.out l z h1 hl hz
       · obtain rfl:l=kk:=by omega
         rw [HY.out] at hz
         rw [<-Option.some.inj hz];exact H3.out
      case measure=>simp [intOf];omega
    · have h3b:(y.kind == 3)=false:=beq_eq_false_iff_ne.2 h3
      have hEnd:∀ z,x.h.pages[kk]?=some z->¬z.kind=3:=fun z hz=>by rw [HY.out] at hz;rw [<-Option.some.inj hz];exact h3
      clear p1 h3
      go_upto_region 21 with fail
      clear c3 c4
      have hTE:zu6 x.h.pages k=kk:=tailEnd_is hk1 (by omega) HK.out hEnd
      have hXg:=qq (show zm5 x k={ x with h:={ x.h with pages:=spc x.h.pages k kk (1 - x.h.space) } } from by unfold zm5;rw [hTE])
      clear hTE hEnd HK
      obtain ⟨q9,cc9,e9,hrow⟩:=PRow.of_own Hown.out
      injection e9 with e91 e92 e93
      subst e91 e93
      have hr0:=Hr.out wr HB.out
      have HRL:=qq (show WR wr S2 { x with h:={ x.h with pages:=spc x.h.pages k kk (1 - x.h.space) } } p (some ⟨g9,0,none⟩) po pt pq n c m cc no co nt ct nq cq from ⟨hr0.words,hrow,hr0.wb,hr0.old,hr0.taken,hr0.queue,fun _ ad e hs=>by cases e;have:=hsl _ hs;simp only at this;omega,HAT.out,HAW.out,HAO.out,HAQ.out⟩)
      clear hr0 hrow
      have hKp:=yd7 S2 { x with h:={ x.h with pages:=spc x.h.pages k kk (1 - x.h.space) } } p (some ⟨g9,0,none⟩) po pt pq n c m cc no co nt ct nq cq a wr HRL.out (fun b hb=>by have:=hsl b hb;omega) hq5
      go_wp2_with (first | ((with_reducible show wpList _ _ _ _ _ _);refine za7 (op:=⟨some 137,.load 146 _,_,_,_,_⟩) rfl _ _ rfl _ rfl _ Ha.out za8 ?_))
      refine hKp.mono ?_
      rintro e w10 ⟨⟨v,rfl,p2,q2,po2,pt2,pq2,n2,c2,m2,d2,no2,co2,nt2,ct2,nq2,cq2,rfl,hwr⟩,hb10⟩
      have HKR:=qq hwr
      clear hwr hKp HRL
      replace Hb:=qq (Hb.out.keep hb10 hwb)
      replace HB:=qq (za3 HB.out hb10)
      replace hwb:w.heap.size+1 < w10.heap.size:=Hb.out.lt rfl
      clear hb10 Ha
      have HO9:=qq Hb.out
      have hl9:=Hb.out.lt rfl
      go_wp2_with (first | ((with_reducible show wpList _ _ _ _ _ _);refine za6 (op:=⟨none,.store 146 _ _,_,_,_,_⟩) rfl _ _ _ rfl _ ?hx [.int .i64 x.h.pw,.int .i64 x.h.np,.slice p2 n2 c2,.slice q2 m2 d2,.int .i64 x.h.space,.int .i64 x.h.bump,.slice po2 no2 co2,.slice pt2 nt2 ct2,.slice pq2 nq2 cq2,.int .i64 x.sc,.int .i64 x.r0,.int .i64 (zq2 x a).r1,.int .i64 x.r2,.int .i64 x.r3,.int .i64 x.r4,.int .i64 x.r5] _ ?hy Hb.out rfl rfl za8 ?_))
      case hx=>rfl
      case hy=>rfl
      intro w9 ho hbt hst
      have HZ:=qq ho
      have HXB:=qq (HB.out.trans (hbt.low (by omega) (by omega)))
      clear ho hbt
      go_wp2
      refine bodyPost_ret (ze5 rfl rfl HZ.out za8) rfl ?_
      rw [hI.out,Int.toNat_natCast,hXg.out]
      exact ⟨⟨_,rfl,p2,q2,po2,pt2,pq2,n2,c2,m2,d2,no2,co2,nt2,ct2,nq2,cq2,rfl,(HKR.out.stored hsb HO9.out zm2 (by simp) hst).mono hs2⟩,HXB.out⟩
  · have hlt2:¬(kk:Int) < m:=by omega
    have hEnd:∀ z,x.h.pages[kk]?=some z->¬z.kind=3:=fun z hz=>by have:=(List.getElem?_eq_some_iff.1 hz).1;omega
    go_upto_region 21 with fail
    clear c3 c4
    have hTE:zu6 x.h.pages k=kk:=tailEnd_is hk1 (by omega) HK.out hEnd
    have hXg:=qq (show zm5 x k={ x with h:={ x.h with pages:=spc x.h.pages k kk (1 - x.h.space) } } from by unfold zm5;rw [hTE])
    clear hTE hEnd HK
    obtain ⟨q9,cc9,e9,hrow⟩:=PRow.of_own Hown.out
    injection e9 with e91 e92 e93
    subst e91 e93
    have hr0:=Hr.out wr HB.out
    have HRL:=qq (show WR wr S2 { x with h:={ x.h with pages:=spc x.h.pages k kk (1 - x.h.space) } } p (some ⟨g9,0,none⟩) po pt pq n c m cc no co nt ct nq cq from ⟨hr0.words,hrow,hr0.wb,hr0.old,hr0.taken,hr0.queue,fun _ ad e hs=>by cases e;have:=hsl _ hs;simp only at this;omega,HAT.out,HAW.out,HAO.out,HAQ.out⟩)
    clear hr0 hrow
    have hKp:=yd7 S2 { x with h:={ x.h with pages:=spc x.h.pages k kk (1 - x.h.space) } } p (some ⟨g9,0,none⟩) po pt pq n c m cc no co nt ct nq cq a wr HRL.out (fun b hb=>by have:=hsl b hb;omega) hq5
    go_wp2_with (first | ((with_reducible show wpList _ _ _ _ _ _);refine za7 (op:=⟨some 137,.load 146 _,_,_,_,_⟩) rfl _ _ rfl _ rfl _ Ha.out za8 ?_))
    refine hKp.mono ?_
    rintro e w10 ⟨⟨v,rfl,p2,q2,po2,pt2,pq2,n2,c2,m2,d2,no2,co2,nt2,ct2,nq2,cq2,rfl,hwr⟩,hb10⟩
    have HKR:=qq hwr
    clear hwr hKp HRL
    replace Hb:=qq (Hb.out.keep hb10 hwb)
    replace HB:=qq (za3 HB.out hb10)
    replace hwb:w.heap.size+1 < w10.heap.size:=Hb.out.lt rfl
    clear hb10 Ha
    have HO9:=qq Hb.out
    have hl9:=Hb.out.lt rfl
    go_wp2_with (first | ((with_reducible show wpList _ _ _ _ _ _);refine za6 (op:=⟨none,.store 146 _ _,_,_,_,_⟩) rfl _ _ _ rfl _ ?hx [.int .i64 x.h.pw,.int .i64 x.h.np,.slice p2 n2 c2,.slice q2 m2 d2,.int .i64 x.h.space,.int .i64 x.h.bump,.slice po2 no2 co2,.slice pt2 nt2 ct2,.slice pq2 nq2 cq2,.int .i64 x.sc,.int .i64 x.r0,.int .i64 (zq2 x a).r1,.int .i64 x.r2,.int .i64 x.r3,.int .i64 x.r4,.int .i64 x.r5] _ ?hy Hb.out rfl rfl za8 ?_))
    case hx=>rfl
    case hy=>rfl
    intro w9 ho hbt hst
    have HZ:=qq ho
    have HXB:=qq (HB.out.trans (hbt.low (by omega) (by omega)))
    clear ho hbt
    go_wp2
    refine bodyPost_ret (ze5 rfl rfl HZ.out za8) rfl ?_
    rw [hI.out,Int.toNat_natCast,hXg.out]
    exact ⟨⟨_,rfl,p2,q2,po2,pt2,pq2,n2,c2,m2,d2,no2,co2,nt2,ct2,nq2,cq2,rfl,(HKR.out.stored hsb HO9.out zm2 (by simp) hst).mono hs2⟩,HXB.out⟩
theorem boxes2' (w:World) (T T2:TypeId) (vs zs:List Value) :
 OwnL ((w.alloc (.cells vs.toArray T)).alloc (.cells zs.toArray T2)) w.heap.size vs/\OwnL ((w.alloc (.cells vs.toArray T)).alloc (.cells zs.toArray T2)) (w.heap.size+1) zs/\Below w.heap.size w ((w.alloc (.cells vs.toArray T)).alloc (.cells zs.toArray T2)):=by
 refine ⟨(OwnL.new w vs T).keep za1 (by simp),?_,za3 za1 za1⟩
 have:=OwnL.new (w.alloc (.cells vs.toArray T)) zs T2
 simpa using this
theorem boxes2y (w:World) (T T2:TypeId) (vs zs:List Value):∃ w1,Hid ((w.alloc (.cells vs.toArray T)).alloc (.cells zs.toArray T2)=w1)/\OwnL w1 w.heap.size vs/\OwnL w1 (w.heap.size+1) zs/\Below w.heap.size w w1:=⟨_,rfl,boxes2' w T T2 vs zs⟩
theorem yc0:IsS Tryz.prog 54 3:=⟨by kernel_rfl,by kernel_rfl⟩
def evH (x:Wk) (a:Int):Hd:=⟨decK (evWd x a).toNat,decN (evWd x a).toNat,decM (evWd x a).toNat⟩
theorem refGet10_any (S:Nat->Prop) (x:Wk) (p q po pt pq:Option Addr) (n c m d no co nt ct nq cq:Nat) (a:Int) (w:World) (hr:WR w S x p q po pt pq n c m d no co nt ct nq cq) (hn:n<=100000) (hp0:0<=a) (hp1:a < 18446744073709551616) :
 Calls Tryz.prog 142 #[(.agg #[.int .i64 x.h.pw,.int .i64 x.h.np,.slice p n c,.slice q m d,.int .i64 x.h.space,.int .i64 x.h.bump,.slice po no co,.slice pt nt ct,.slice pq nq cq,.int .i64 x.sc,.int .i64 x.r0,.int .i64 x.r1,.int .i64 x.r2,.int .i64 x.r3,.int .i64 x.r4,.int .i64 x.r5]),.int .u64 a] w fun e w'=>e = .returned (.agg #[.int .i64 (evH x a).k,.int .i64 (evH x a).n,.int .u32 (evH x a).m])/\Below w.heap.size w w':=by
 obtain ⟨w1,hw1,hbx⟩:=boxes2y w 146 54 [.int .i64 x.h.pw,.int .i64 x.h.np,.slice p n c,.slice q m d,.int .i64 x.h.space,.int .i64 x.h.bump,.slice po no co,.slice pt nt ct,.slice pq nq cq,.int .i64 x.sc,.int .i64 x.r0,.int .i64 x.r1,.int .i64 x.r2,.int .i64 x.r3,.int .i64 x.r4,.int .i64 x.r5] [.int .i64 0,.int .i64 0,.int .u32 0]
 have Ha:=qq hbx.1
 have Hb:=qq hbx.2.1
 have HB:=qq hbx.2.2
 have HR:=qq (hr.keep hbx.2.2)
 clear hbx hr
 have hwa:w.heap.size < w1.heap.size:=Ha.out.lt rfl
 have hwb:w.heap.size+1 < w1.heap.size:=Hb.out.lt rfl
 have HP1:=qq hp1
 clear hp1
 go_enter Tryz.func142,Tryz.ntmps142
 go_upto_region 1 with fail
 rw [hw1.out]
 clear hw1
 have c2:=Ha.out.cell 2 _ rfl
 obtain ⟨W0,hW,hWl⟩:=zl5 HR.out.wb a
 have HW:=qq hW
 have HWl:=qq hWl
 clear hW hWl
 go_wp2_with fail
 refine (zd9 p n c x.h.words a w1 HR.out.words (by omega) hp0 HP1.out).mono ?_
 rintro e w4 ⟨rfl,rfl⟩
 rw [HW.out]
 clear c2
 have hE:=qq (show evH x a=⟨decK W0,decN W0,decM W0⟩ from by unfold evH evWd;rw [HW.out];rfl)
 have hDc:=zs0 W0 w1 HWl.out
 obtain ⟨KD,hKD⟩:∃ KD,decK W0=KD:=⟨_,rfl⟩
 obtain ⟨ND,hND⟩:∃ ND,decN W0=ND:=⟨_,rfl⟩
 obtain ⟨MD,hMD⟩:∃ MD,decM W0=MD:=⟨_,rfl⟩
 obtain ⟨OD,hOD⟩:∃ OD,okD W0=OD:=⟨_,rfl⟩
 rw [hKD,hND,hMD] at hE
 rw [hKD,hND,hMD,hOD] at hDc
 clear hKD hND hMD hOD
 go_wp2_with fail
 refine hDc.mono ?_
 rintro e w2 ⟨rfl,hb2⟩
 replace Hb:=qq (Hb.out.keep hb2 hwb)
 replace HB:=qq (za3 HB.out hb2)
 replace hwb:w.heap.size+1 < w2.heap.size:=Hb.out.lt rfl
 clear hb2 hDc Ha HR hwa
 have Hc:=qq (Hb.out.keep (za1 (o:=.cells #[.int .i64 KD,.int .i64 ND,.int .u32 MD] 54)) hwb)
 go_wp2_with ((with_reducible show wpList _ _ _ _ _ _);refine za6 (op:=⟨none,.store 54 (.tmp 4) _,_,_,_,_⟩) rfl _ _ _ rfl _ ?hx [.int .i64 KD,.int .i64 ND,.int .u32 MD] _ ?hy Hc.out rfl rfl yc0 ?_)
 case hx=>rfl
 case hy=>rfl
 intro w9 ho hbt hst
 have HZ:=qq ho
 have HXB:=qq ((za3 HB.out (za1 (o:=.cells #[.int .i64 KD,.int .i64 ND,.int .u32 MD] 54))).trans (hbt.low (by omega) (by simp;omega)))
 clear ho hbt hst
 go_wp2
 refine bodyPost_ret (zc9 rfl rfl HZ.out yc0) rfl ?_
 rw [hE.out]
 exact ⟨rfl,HXB.out⟩
theorem pow_bd {k:Nat} (h:k<=12):1<=wrap64 (2 ^ k)/\wrap64 (2 ^ k)<=4096:=by
 have hk:k=0\/k=1\/k=2\/k=3\/k=4\/k=5\/k=6\/k=7\/k=8\/k=9\/k=10\/k=11\/k=12:=by omega
 have h2:(1:Int)<=2 ^ k/\(2:Int) ^ k<=4096:=by rcases hk with rfl | rfl | rfl | rfl | rfl | rfl | rfl | rfl | rfl | rfl | rfl | rfl | rfl <;> decide
 rw [IntWalk.wrap64_in _ (by omega)]
 exact h2
theorem header_any (tb:Nat) (lp:Option Addr) (ln lc:Nat) (xs:List Int) (j:Nat) (pw np:Int) (w:World) (h:Tp w tb lp ln lc xs j) (hj:j<=90000) (hc:zb8 pw np=true) :
 Calls Tryz.prog 84 #[.pointer (some ⟨tb,0,none⟩),.agg #[.int .i64 pw,.int .i64 np]] w fun e w'=>∃ K N M,e = .returned (.agg #[.int .i64 K,.int .i64 N,.int .u32 M])/\1<=K/\K<=3/\0<=N/\N<=100/\0<=M/\M < 4096/\(∃ j',j<=j'/\j'<=j+5/\Tp w' tb lp ln lc xs j')/\But tb w w':=by
 have htb:=h.lt
 have hbx:=boxes2' w 23 54 [.int .i64 pw,.int .i64 np] [.int .i64 0,.int .i64 0,.int .u32 0]
 obtain ⟨w1,hw1⟩:∃ w1,Hid ((w.alloc (.cells #[.int .i64 pw,.int .i64 np] 23)).alloc (.cells #[.int .i64 0,.int .i64 0,.int .u32 0] 54)=w1):=⟨_,rfl⟩
 rw [show ((w.alloc (.cells ([.int .i64 pw,.int .i64 np]:List Value).toArray 23)).alloc (.cells ([.int .i64 0,.int .i64 0,.int .u32 0]:List Value).toArray 54))=w1 from hw1.out] at hbx
 have Ha:=qq hbx.1
 have Hb:=qq hbx.2.1
 have HB:=qq (But.of tb hbx.2.2)
 have HT:=qq (h.keep hbx.2.2)
 clear hbx h
 obtain ⟨sm,hsm⟩:∃ sm,zs9 pw np=sm:=⟨_,rfl⟩
 have hsm1:1<=sm/\sm<=16:=by rw [<-hsm];unfold zs9;rw [if_pos hc];have:=zb1 hc;omega
 obtain ⟨hs1,hs2⟩:=hsm1
 obtain ⟨hp1,hp2,-⟩:=zb1 hc
 have hSm:=yb3 pw np w1
 rw [hsm] at hSm
 clear hsm hc
 go_enter Tryz.func84,Tryz.ntmps84
 go_upto_region 1 with fail
 rw [hw1.out]
 clear hw1
 have c0:=Ha.out.cell 0 _ rfl
 have c1:=Ha.out.cell 1 _ rfl
 go_wp2_with fail
 refine hSm.mono ?_
 rintro e w2 ⟨rfl,hb2⟩
 replace Ha:=qq (Ha.out.keep hb2 (Ha.out.lt rfl))
 replace Hb:=qq (Hb.out.keep hb2 (Hb.out.lt rfl))
 replace HT:=qq (HT.out.keep hb2)
 replace HB:=qq (HB.out.then hb2)
 clear hb2 hSm c0 c1
 go_wp2_with fail
 refine (ze2 tb lp ln lc xs (j) (sm) w2 HT.out (by omega) (by omega)).mono ?_
 rintro e w3 ⟨v,rfl,v0,-,v1,⟨jn,-,-,hjn,hT⟩,hbt⟩
 obtain rfl:=hjn (by omega)
 replace v1:=v1 (by omega)
 replace Ha:=qq (Ha.out.but hbt (Ha.out.lt rfl) (by omega))
 replace Hb:=qq (Hb.out.but hbt (Hb.out.lt rfl) (by omega))
 replace HT:=qq hT
 replace HB:=qq (HB.out.trans hbt)
 clear hT hbt hjn
 go_wp2_with fail
 refine (ze2 tb lp ln lc xs (j+1) (12) w3 HT.out (by omega) (by omega)).mono ?_
 rintro e w4 ⟨u,rfl,u0,-,u1,⟨jn,-,-,hjn,hT⟩,hbt⟩
 obtain rfl:=hjn (by omega)
 replace u1:=u1 (by omega)
 replace Ha:=qq (Ha.out.but hbt (Ha.out.lt rfl) (by omega))
 replace Hb:=qq (Hb.out.but hbt (Hb.out.lt rfl) (by omega))
 replace HT:=qq hT
 replace HB:=qq (HB.out.trans hbt)
 clear hT hbt hjn
 go_upto_if 14 with fail
 go_cut [6] (fun t wx=>∃ (N:Int) (J:Nat),t = .int .i64 N/\0<=N/\N<=100/\j<=J/\J<=j+3/\OwnL wx w.heap.size [.int .i64 pw,.int .i64 np]/\OwnL wx (w.heap.size+1) [.int .i64 0,.int .i64 0,.int .u32 0]/\Tp wx tb lp ln lc xs J/\But tb w wx)
 case first =>
  by_cases hu:u=0
  · subst hu
    have c0:=Ha.out.cell 0 _ rfl
    go_wp2_with fail
    refine (ze2 tb lp ln lc xs (j+1+1) (pw) w4 HT.out (by omega) (by omega)).mono ?_
    rintro e w5 ⟨y,rfl,y0,-,y1,⟨jn,-,-,hjn,hT⟩,hbt⟩
    obtain rfl:=hjn (by omega)
    replace y1:=y1 (by omega)
    replace Ha:=qq (Ha.out.but hbt (Ha.out.lt rfl) (by omega))
    replace Hb:=qq (Hb.out.but hbt (Hb.out.lt rfl) (by omega))
    replace HT:=qq hT
    replace HB:=qq (HB.out.trans hbt)
    clear hT hbt hjn c0
    have e1:IntKind.i64.wrap (sm+y)=sm+y:=IntWalk.i64_in _ (by omega)
    go_wp2_with fail
    go_meet
    exact ⟨sm+y,j+1+1+1,rfl,by omega,by omega,by omega,by omega,Ha.out,Hb.out,HT.out,HB.out⟩
  · have hu2:(u == 0)=false:=beq_eq_false_iff_ne.2 hu
    clear hu
    go_wp2_with fail
    go_meet
    exact ⟨v,j+1+1,rfl,by omega,by omega,by omega,by omega,Ha.out,Hb.out,HT.out,HB.out⟩
 case rest =>
  obtain ⟨N,J,rfl,hN0,hN9,hJ0,hJ1,ha,hb,hT,hB⟩:=hcut
  clear Ha Hb HT HB
  have Ha:=qq ha
  have Hb:=qq hb
  have HT:=qq hT
  have HB:=qq hB
  clear ha hb hT hB
  go_wp2_with fail
  refine (ze2 tb lp ln lc xs (J) (4) wc HT.out (by omega) (by omega)).mono ?_
  rintro e w6 ⟨z,rfl,z0,-,z1,⟨jn,-,-,hjn,hT⟩,hbt⟩
  obtain rfl:=hjn (by omega)
  replace z1:=z1 (by omega)
  replace Ha:=qq (Ha.out.but hbt (Ha.out.lt rfl) (by omega))
  replace Hb:=qq (Hb.out.but hbt (Hb.out.lt rfl) (by omega))
  replace HT:=qq hT
  replace HB:=qq (HB.out.trans hbt)
  clear hT hbt hjn
  by_cases h0:z=0
  · subst h0
    have z0:=Hb.out.cell 0 _ rfl
    have z1:=Hb.out.cell 1 _ rfl
    have z2:=Hb.out.cell 2 _ rfl
    have y0:=Hb.out.free 0
    have y1:=Hb.out.free 1
    have y2:=Hb.out.free 2
    go_wp2
    refine bodyPost_ret (v:=.agg #[.int .i64 2,.int .i64 N,.int .u32 0]) (by simp [results,Tryz.results84,go_sem,z0,z1,z2]) rfl ?_
    exact ⟨_,_,_,rfl,by omega,by omega,by omega,by omega,by omega,by omega,⟨J+1,by omega,by omega,((HT.out.other (by omega) 0 _).other (by omega) 1 _).other (by omega) 2 _⟩,((HB.out.setNew (by omega) 0 _).setNew (by omega) 1 _).setNew (by omega) 2 _⟩
  · have h0b:(z == 0)=false:=beq_eq_false_iff_ne.2 h0
    by_cases h1:z=1
    · subst h1
      have z0:=Hb.out.cell 0 _ rfl
      have z1:=Hb.out.cell 1 _ rfl
      have z2:=Hb.out.cell 2 _ rfl
      have y0:=Hb.out.free 0
      have y1:=Hb.out.free 1
      have y2:=Hb.out.free 2
      go_wp2
      refine bodyPost_ret (v:=.agg #[.int .i64 3,.int .i64 N,.int .u32 0]) (by simp [results,Tryz.results84,go_sem,z0,z1,z2]) rfl ?_
      exact ⟨_,_,_,rfl,by omega,by omega,by omega,by omega,by omega,by omega,⟨J+1,by omega,by omega,((HT.out.other (by omega) 0 _).other (by omega) 1 _).other (by omega) 2 _⟩,((HB.out.setNew (by omega) 0 _).setNew (by omega) 1 _).setNew (by omega) 2 _⟩
    · have h1b:(z == 1)=false:=beq_eq_false_iff_ne.2 h1
      by_cases h12:N<=12
      · have hb9:1<=wrap64 (2 ^ N.toNat)/\wrap64 (2 ^ N.toNat)<=4096:=pow_bd (by omega)
        have h32:N<=32:=by omega
        go_wp2_with fail
        obtain ⟨P9,hP9⟩:∃ P9,wrap64 (2 ^ N.toNat)=P9:=⟨_,rfl⟩
        rw [hP9] at hb9 ⊢
        clear hP9
        obtain ⟨hb1,hb2⟩:=hb9
        refine (ze2 tb lp ln lc xs (J+1) (P9) w6 HT.out (by omega) (by omega)).mono ?_
        rintro e w7 ⟨r,rfl,r0,-,r1,⟨jn,-,-,hjn,hT⟩,hbt⟩
        obtain rfl:=hjn (by omega)
        replace r1:=r1 (by omega)
        replace Ha:=qq (Ha.out.but hbt (Ha.out.lt rfl) (by omega))
        replace Hb:=qq (Hb.out.but hbt (Hb.out.lt rfl) (by omega))
        replace HT:=qq hT
        replace HB:=qq (HB.out.trans hbt)
        clear hT hbt hjn
        have e1:IntKind.u32.wrap r=r:=IntWalk.u32_in _ (by omega)
        have z0:=Hb.out.cell 0 _ rfl
        have z1:=Hb.out.cell 1 _ rfl
        have z2:=Hb.out.cell 2 _ rfl
        have y0:=Hb.out.free 0
        have y1:=Hb.out.free 1
        have y2:=Hb.out.free 2
        go_wp2
        refine bodyPost_ret (v:=.agg #[.int .i64 1,.int .i64 N,.int .u32 r]) (by simp [results,Tryz.results84,go_sem,z0,z1,z2]) rfl ?_
        exact ⟨_,_,_,rfl,by omega,by omega,by omega,by omega,by omega,by omega,⟨J+1+1,by omega,by omega,((HT.out.other (by omega) 0 _).other (by omega) 1 _).other (by omega) 2 _⟩,((HB.out.setNew (by omega) 0 _).setNew (by omega) 1 _).setNew (by omega) 2 _⟩
      · by_cases h32:N<=32
        · go_wp2_with fail
          refine (ze2 tb lp ln lc xs (J+1) (4096) w6 HT.out (by omega) (by omega)).mono ?_
          rintro e w7 ⟨r,rfl,r0,-,r1,⟨jn,-,-,hjn,hT⟩,hbt⟩
          obtain rfl:=hjn (by omega)
          replace r1:=r1 (by omega)
          replace Ha:=qq (Ha.out.but hbt (Ha.out.lt rfl) (by omega))
          replace Hb:=qq (Hb.out.but hbt (Hb.out.lt rfl) (by omega))
          replace HT:=qq hT
          replace HB:=qq (HB.out.trans hbt)
          clear hT hbt hjn
          have e1:IntKind.u32.wrap r=r:=IntWalk.u32_in _ (by omega)
          have z0:=Hb.out.cell 0 _ rfl
          have z1:=Hb.out.cell 1 _ rfl
          have z2:=Hb.out.cell 2 _ rfl
          have y0:=Hb.out.free 0
          have y1:=Hb.out.free 1
          have y2:=Hb.out.free 2
          go_wp2
          refine bodyPost_ret (v:=.agg #[.int .i64 1,.int .i64 N,.int .u32 r]) (by simp [results,Tryz.results84,go_sem,z0,z1,z2]) rfl ?_
          exact ⟨_,_,_,rfl,by omega,by omega,by omega,by omega,by omega,by omega,⟨J+1+1,by omega,by omega,((HT.out.other (by omega) 0 _).other (by omega) 1 _).other (by omega) 2 _⟩,((HB.out.setNew (by omega) 0 _).setNew (by omega) 1 _).setNew (by omega) 2 _⟩
        · go_wp2_with fail
          refine (ze2 tb lp ln lc xs (J+1) (4096) w6 HT.out (by omega) (by omega)).mono ?_
          rintro e w7 ⟨r,rfl,r0,-,r1,⟨jn,-,-,hjn,hT⟩,hbt⟩
          obtain rfl:=hjn (by omega)
          replace r1:=r1 (by omega)
          replace Ha:=qq (Ha.out.but hbt (Ha.out.lt rfl) (by omega))
          replace Hb:=qq (Hb.out.but hbt (Hb.out.lt rfl) (by omega))
          replace HT:=qq hT
          replace HB:=qq (HB.out.trans hbt)
          clear hT hbt hjn
          have e1:IntKind.u32.wrap r=r:=IntWalk.u32_in _ (by omega)
          have z0:=Hb.out.cell 0 _ rfl
          have z1:=Hb.out.cell 1 _ rfl
          have z2:=Hb.out.cell 2 _ rfl
          have y0:=Hb.out.free 0
          have y1:=Hb.out.free 1
          have y2:=Hb.out.free 2
          go_wp2
          refine bodyPost_ret (v:=.agg #[.int .i64 1,.int .i64 32,.int .u32 r]) (by simp [results,Tryz.results84,go_sem,z0,z1,z2]) rfl ?_
          exact ⟨_,_,_,rfl,by omega,by omega,by omega,by omega,by omega,by omega,⟨J+1+1,by omega,by omega,((HT.out.other (by omega) 0 _).other (by omega) 1 _).other (by omega) 2 _⟩,((HB.out.setNew (by omega) 0 _).setNew (by omega) 1 _).setNew (by omega) 2 _⟩
end Go.Proofs.YtipjdbhocjpmdaaGreat
