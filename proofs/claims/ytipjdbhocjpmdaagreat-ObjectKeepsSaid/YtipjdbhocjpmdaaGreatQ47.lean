import Derived.Test.YtipjdbhocjpmdaaGreatQ01
import Derived.Test.YtipjdbhocjpmdaaGreatQ13
import Derived.Test.YtipjdbhocjpmdaaGreatQ44
import Derived.Test.YtipjdbhocjpmdaaGreatQ46
import Derived.Deep.DeepCutAuto
import Derived.Maps.RangeWalk
set_option linter.unusedSimpArgs false
set_option linter.unusedVariables false
set_option maxRecDepth 100000
set_option maxHeartbeats 12800000
namespace Go.Proofs.YtipjdbhocjpmdaaGreat
open Go.RowKit
theorem yc1 {b:Nat}:∀ (vs pre ys rest:List Value) (w:World),OwnL w b (pre ++ (ys ++ rest))->ys.length=vs.length->OwnL (setL w b pre.length vs) b (pre ++ (vs ++ rest))
 | [],pre,ys,rest,w,h,hl=>by
  obtain rfl:ys=[]:=List.length_eq_zero_iff.1 hl
  exact h
 | v :: vs,pre,[],rest,w,h,hl=>by simp at hl
 | v :: vs,pre,y :: ys,rest,w,h,hl=>by
  have h1:=h.set pre.length v (by simp)
  rw [List.set_append_right _ _ (Nat.le_refl _),Nat.sub_self,List.cons_append,List.set_cons_zero] at h1
  have h2:=yc1 vs (pre ++ [v]) ys rest (w.setCell ⟨b,pre.length,none⟩ v) (by rw [List.append_assoc];exact h1) (by simpa using hl)
  rw [List.length_append,List.append_assoc] at h2
  exact h2
theorem box8g {w:World} {b:Nat} {T:TypeId} {f:Nat × Nat} {i:Nat} {v:Value} {a0 a1 a4 a5:Int} {p2 p3 p6 p7:Option Addr} {n2 c2 n3 c3 n6 c6 n7 c7:Nat} (h:w.heap[b]?=some (.cells ([.int .i64 a0,.int .i64 a1,.slice p2 n2 c2,.slice p3 n3 c3,.int .i64 a4,.int .i64 a5,.slice p6 n6 c6,.slice p7 n7 c7]:List Value).toArray T f)) (hc:w.cell? ⟨b,i,none⟩=some v):((∃ z,v = .int .i64 z)/\(i=0\/i=1\/i=4\/i=5))\/(∃ p n c,v = .slice p n c):=by
 unfold World.cell? at hc
 rw [h] at hc
 have hc2:([.int .i64 a0,.int .i64 a1,.slice p2 n2 c2,.slice p3 n3 c3,.int .i64 a4,.int .i64 a5,.slice p6 n6 c6,.slice p7 n7 c7]:List Value)[i]?=some v:=by simpa using hc
 have hi:i < 8:=(List.getElem?_eq_some_iff.1 hc2).1
 have h8:i=0\/i=1\/i=2\/i=3\/i=4\/i=5\/i=6\/i=7:=by omega
 rcases h8 with rfl | rfl | rfl | rfl | rfl | rfl | rfl | rfl <;> (simp at hc2;subst hc2;simp)
theorem zm6 {w:World} {b:Nat} {T:TypeId} {f:Nat × Nat} {q:Option Addr} {m d:Nat} {ps:List Pg} {a0 a1 a4 a5:Int} {p2 p3 p6 p7:Option Addr} {n2 c2 n3 c3 n6 c6 n7 c7:Nat} (h:w.heap[b]?=some (.cells ([.int .i64 a0,.int .i64 a1,.slice p2 n2 c2,.slice p3 n3 c3,.int .i64 a4,.int .i64 a5,.slice p6 n6 c6,.slice p7 n7 c7]:List Value).toArray T f)) (hr:PRow w q m d ps) (ad:Addr) (e:q=some ad):ps≠[]->ad.block≠b:=by
 intro hne eb
 have hk:0 < ps.length:=List.length_pos_iff.2 hne
 obtain ⟨g,b1,off,hx,e1,y0,y1,y2,y3⟩:=hr.at_ (k:=0) (by have:=PRow.len hr;omega)
 rw [e] at e1
 injection e1 with e1
 subst e1
 simp only at eb
 subst eb
 rcases box8g h y0 with ⟨-,h0⟩ | ⟨_,_,_,h0⟩
 · rcases box8g h y1 with ⟨-,h1⟩ | ⟨_,_,_,h1⟩
   · rcases box8g h y2 with ⟨-,h2⟩ | ⟨_,_,_,h2⟩
     · omega
     · cases h2
   · cases h1
 · cases h0
theorem zf3 (a0 a1 a4 a5:Int) (p2 p3 p6 p7:Option Addr) (n2 c2 n3 c3 n6 c6 n7 c7:Nat):noU [.int .i64 a0,.int .i64 a1,.slice p2 n2 c2,.slice p3 n3 c3,.int .i64 a4,.int .i64 a5,.slice p6 n6 c6,.slice p7 n7 c7]:=by
 intro j y hy x
 rcases j with _ | _ | _ | _ | _ | _ | _ | _ | j <;> simp at hy
 all_goals (subst hy;intro e;cases e)
structure WW (w:World) (x:Wd) (p q ps pk:Option Addr) (n c m d ns cs nk ck:Nat):Prop where
 words:SRow w .u64 p n c x.h.words
 pages:PRow w q m d x.h.pages
 wb:WB x.h.words
 st:SRow w .u64 ps ns cs x.st
 wk:SRow w .u64 pk nk ck x.wk
theorem WW.keep {w w':World} {x:Wd} {p q ps pk:Option Addr} {n c m d ns cs nk ck:Nat} (h:WW w x p q ps pk n c m d ns cs nk ck) (hb:Below w.heap.size w w'):WW w' x p q ps pk n c m d ns cs nk ck :=
 ⟨h.words.keep hb,PRow.keep h.pages hb,h.wb,h.st.keep hb,h.wk.keep hb⟩
theorem WW.stored {w w':World} {x:Wd} {p q ps pk:Option Addr} {n c m d ns cs nk ck b:Nat} {ys vs:List Value} {i:Nat} (h:WW w x p q ps pk n c m d ns cs nk ck) (ho:OwnL w b ys) (hu:noU ys) (hl:i+vs.length<=ys.length) (e:setL w b i vs=w') (hbt:But b w w') (hp:x.h.pages≠[]->∀ ad,q=some ad->ad.block≠b):WW w' x p q ps pk n c m d ns cs nk ck:=by
 have key:∀ {p:Option Addr} {n c:Nat} {xs:List Int},SRow w .u64 p n c xs->SRow w' .u64 p n c xs:=fun hr=>by
  rw [<-e];exact zc3 vs i ys w hr ho (fun j y _=>hu j y) hl
 exact ⟨key h.words,VRow.butNe h.pages hbt (fun hne ad e=>hp (fun e0=>hne (by rw [e0];rfl)) ad e),h.wb,key h.st,key h.wk⟩
theorem WW.wd {w:World} {x:Wd} {p q ps pk:Option Addr} {n c m d ns cs nk ck:Nat} (h:WW w x p q ps pk n c m d ns cs nk ck):WdV w (.agg #[.int .i64 x.h.pw,.int .i64 x.h.np,.slice p n c,.slice q m d,.int .i64 x.h.space,.int .i64 x.h.bump,.slice ps ns cs,.slice pk nk ck]) x :=
 ⟨p,n,c,q,m,d,ps,ns,cs,pk,nk,ck,rfl,h.words,h.pages,h.wb,h.st,h.wk⟩
theorem heap_first3 (w:World) (a b c:Obj):(((w.alloc a).alloc b).alloc c).heap[w.heap.size]?=some a:=by
 show (((w.heap.push a).push b).push c)[w.heap.size]?=some a
 rw [Array.getElem?_push,if_neg (by simp;omega),Array.getElem?_push,if_neg (by simp),Array.getElem?_push,if_pos rfl]
theorem heap_third3 (w:World) (a b c:Obj):(((w.alloc a).alloc b).alloc c).heap[w.heap.size+2]?=some c:=by
 show (((w.heap.push a).push b).push c)[w.heap.size+2]?=some c
 rw [Array.getElem?_push,if_pos (by simp)]
theorem put_any (x:Wd) (K9 N9 M9:Int) (p q ps pk:Option Addr) (n c m d ns cs nk ck:Nat) (w:World) (hx:WW w x p q ps pk n c m d ns cs nk ck) (hk1:1<=K9) (hk3:K9<=3) (hn0:0<=N9) (hn1:N9<=100) (hm0:0<=M9) (hm1:M9 < 4096) (hns:ns<=10000) :
 Calls Tryz.prog 83 #[(.agg #[.int .i64 x.h.pw,.int .i64 x.h.np,.slice p n c,.slice q m d,.int .i64 x.h.space,.int .i64 x.h.bump,.slice ps ns cs,.slice pk nk ck]),.agg #[.int .i64 K9,.int .i64 N9,.int .u32 M9]] w fun e w'=>(∃ v y,e = .returned v/\MStep x y/\WdV w' v y)/\Below w.heap.size w w':=by
 obtain ⟨w1,hw1,hbx⟩:=boxes3x w 31 54 31 [.int .i64 x.h.pw,.int .i64 x.h.np,.slice p n c,.slice q m d,.int .i64 x.h.space,.int .i64 x.h.bump,.slice ps ns cs,.slice pk nk ck] [.int .i64 K9,.int .i64 N9,.int .u32 M9] [.int .i64 0,.int .i64 0,.slice none 0 0,.slice none 0 0,.int .i64 0,.int .i64 0,.slice none 0 0,.slice none 0 0]
 have hk0:w1.heap[w.heap.size]?=some (.cells ([.int .i64 x.h.pw,.int .i64 x.h.np,.slice p n c,.slice q m d,.int .i64 x.h.space,.int .i64 x.h.bump,.slice ps ns cs,.slice pk nk ck]:List Value).toArray 31 (0,0)):=by rw [<-hw1.out];exact heap_first3 w _ _ _
 have hk2:w1.heap[w.heap.size+2]?=some (.cells ([.int .i64 0,.int .i64 0,.slice none 0 0,.slice none 0 0,.int .i64 0,.int .i64 0,.slice none 0 0,.slice none 0 0]:List Value).toArray 31 (0,0)):=by rw [<-hw1.out];exact heap_third3 w _ _ _
 have Ha:=qq hbx.1
 have Hd:=qq hbx.2.1
 have Hb:=qq hbx.2.2.1
 have HB:=qq hbx.2.2.2
 have HX:=qq (hx.keep HB.out)
 clear hbx hx
 have hN:=refNew7_val (u:=(.agg #[.int .i64 x.h.pw,.int .i64 x.h.np,.slice p n c,.slice q m d,.int .i64 x.h.space,.int .i64 x.h.bump])) (h:=x.h) K9 N9 M9 w1 ⟨p,n,c,q,m,d,rfl,HX.out.words,HX.out.pages,HX.out.wb⟩ hm0 (by omega)
 obtain ⟨H,hH⟩:∃ H,Hid (zw7 x.h K9 N9 M9=H):=⟨_,rfl⟩
 obtain ⟨AD,hAD⟩:∃ A,Hid (zw8 x.h K9 N9 M9=A):=⟨_,rfl⟩
 obtain ⟨E,hE⟩:∃ E,Hid (zl4 x.h K9 N9 M9=E):=⟨_,rfl⟩
 rw [hH.out,hAD.out,hE.out] at hN
 go_enter Tryz.func83,Tryz.ntmps83
 go_upto_region 1 with fail
 rw [hw1.out]
 clear hw1
 have c0:=Ha.out.cell 0 _ rfl
 have c1:=Ha.out.cell 1 _ rfl
 have c2:=Ha.out.cell 2 _ rfl
 have c3:=Ha.out.cell 3 _ rfl
 have c4:=Ha.out.cell 4 _ rfl
 have c5:=Ha.out.cell 5 _ rfl
 go_wp2_with (first | ((with_reducible show wpList _ _ _ _ _ _);refine za7 (op:=⟨some 11,.load 54 _,_,_,_,_⟩) rfl _ _ rfl _ rfl _ Hd.out yc0 ?_))
 refine hN.mono ?_
 rintro e w2 ⟨⟨v,rfl,hp,hn,hc,hq,hm,hd,rfl,r1,r2,r3⟩,hb2⟩
 clear c0 c1 c2 c3 c4 c5
 replace Ha:=qq (Ha.out.keep hb2 (Ha.out.lt rfl))
 replace Hb:=qq (Hb.out.keep hb2 (Hb.out.lt rfl))
 replace HB:=qq (za3 HB.out hb2)
 replace HX:=qq (HX.out.keep hb2)
 replace hk0:=(hb2.block _ (Array.getElem?_eq_some_iff.1 hk0).1).trans hk0
 replace hk2:=(hb2.block _ (Array.getElem?_eq_some_iff.1 hk2).1).trans hk2
 have HQ:=qq (show (x.h.pages≠[]->∀ ad,q=some ad->ad.block≠w.heap.size+2)/\(H.pages≠[]->∀ ad,hq=some ad->ad.block≠w.heap.size/\ad.block≠w.heap.size+2) from ⟨fun hne ad e=>zm6 hk2 HX.out.pages ad e hne,fun hne ad e=>⟨zm6 hk0 r2 ad e hne,zm6 hk2 r2 ad e hne⟩⟩)
 have R1:=qq r1
 have R2:=qq r2
 have R3:=qq r3
 clear hb2 hN r1 r2 r3 hk0 hk2 Hd
 have h2a:w.heap.size < w2.heap.size:=Ha.out.lt rfl
 have h2b:w.heap.size+2 < w2.heap.size:=Hb.out.lt rfl
 have HN:=qq (OwnL.new w2 [.int .i64 0,.int .i64 0,.slice none 0 0,.slice none 0 0,.int .i64 0,.int .i64 0] 27)
 go_wp2_with (first | ((with_reducible show wpList _ _ _ _ _ _);refine za6 (op:=⟨none,.store 27 _ _,_,_,_,_⟩) rfl _ _ _ rfl _ ?hx801 [.int .i64 H.pw,.int .i64 H.np,.slice hp hn hc,.slice hq hm hd,.int .i64 H.space,.int .i64 H.bump] _ ?hy801 HN.out rfl rfl zd3 ?_))
 (try (case hx801=>rfl))
 (try (case hy801=>rfl))
 intro w3 ho hbt hst
 have hb3:Below w2.heap.size w2 w3:=za1.trans (hbt.low (Nat.le_refl _) (by simp))
 have H5:=qq ho
 have h3s:w2.heap.size < w3.heap.size:=H5.out.lt rfl
 clear HN ho hbt hst
 replace Ha:=qq (Ha.out.keep hb3 h2a)
 replace Hb:=qq (Hb.out.keep hb3 h2b)
 replace HB:=qq (za3 HB.out hb3)
 replace HX:=qq (HX.out.keep hb3)
 replace R1:=qq (R1.out.keep hb3)
 replace R2:=qq (PRow.keep R2.out hb3)
 clear hb3
 by_cases hE0:E=0
 rotate_left
 · have hEn:(E == 0)=false:=beq_eq_false_iff_ne.2 hE0
   clear hE0 H5 R1 R2
   go_upto_region 4 with fail
   go_wp2_with (first | ((with_reducible show wpList _ _ _ _ _ _);refine za7 (op:=⟨some 28,.load 31 _,_,_,_,_⟩) rfl _ _ rfl _ rfl _ Ha.out zc1 ?_) | ((with_reducible show wpList _ _ _ _ _ _);refine za6 (op:=⟨none,.store 31 _ _,_,_,_,_⟩) rfl _ _ _ rfl _ ?hx802 [.int .i64 x.h.pw,.int .i64 x.h.np,.slice p n c,.slice q m d,.int .i64 x.h.space,.int .i64 x.h.bump,.slice ps ns cs,.slice pk nk ck] _ ?hy802 Hb.out rfl rfl zc1 ?_))
   (try (case hx802=>rfl))
   (try (case hy802=>rfl))
   intro w4 ho hbt hst
   have HZ:=qq ho
   have HXB:=qq (HB.out.trans (hbt.low (by omega) (by omega)))
   have HX4:=qq (HX.out.stored (i:=0) (vs:=[.int .i64 x.h.pw,.int .i64 x.h.np,.slice p n c,.slice q m d,.int .i64 x.h.space,.int .i64 x.h.bump,.slice ps ns cs,.slice pk nk ck]) Hb.out (zf3 _ _ _ _ _ _ _ _ _ _ _ _ _ _ _ _) (by simp) (by rw [<-zb7];exact hst.out.symm) hbt HQ.out.1)
   clear ho hbt hst
   go_wp2
   refine bodyPost_ret (zc9 rfl rfl HZ.out zc1) rfl ?_
   exact ⟨⟨_,x,rfl,MStep.none x,HX4.out.wd⟩,HXB.out⟩
 subst hE0
 obtain ⟨Y,hY⟩:∃ Y:Wd,Hid ((⟨H,x.st ++ [AD],x.wk⟩:Wd)=Y):=⟨_,qq rfl⟩
 have HMS:=qq (show MStep x Y from by rw [<-hY.out,<-hH.out,<-hAD.out];exact MStep.put x K9 N9 M9 hk1 hk3 hn0 hn1 hm0 hm1 hE.out)
 go_upto_region 3 with fail
 go_cut [25] (fun t25 wx=>∃ sq sn sc,OwnL wx w.heap.size [.int .i64 H.pw,.int .i64 H.np,.slice hp hn hc,.slice hq hm hd,.int .i64 H.space,.int .i64 H.bump,.slice sq sn sc,.slice pk nk ck]/\OwnL wx (w.heap.size+2) [.int .i64 0,.int .i64 0,.slice none 0 0,.slice none 0 0,.int .i64 0,.int .i64 0,.slice none 0 0,.slice none 0 0]/\Below w.heap.size w wx/\WW wx ⟨H,x.st ++ [AD],x.wk⟩ hp hq sq pk hn hc hm hd sn sc nk ck)
 case first =>
  have h3a:w.heap.size < w3.heap.size:=Ha.out.lt rfl
  have h3b:w.heap.size+2 < w3.heap.size:=Hb.out.lt rfl
  have HRS:=qq HX.out.st
  have hSof:=qq (fun W (hB:Below w3.heap.size w3 W)=>(⟨(H5.out.keep hB h3s).range,za0 hB (Ha.out.cell 6 _ rfl)⟩:(fun W=>W.rangeAt w2.heap.size 0 [.int .i64 H.pw,.int .i64 H.np,.slice hp hn hc,.slice hq hm hd,.int .i64 H.space,.int .i64 H.bump]/\W.cell? ⟨w.heap.size,6,none⟩=some (.slice ps ns cs)) W))
  obtain ⟨i0,hin,hz0,hz1,hz2⟩:=info_parts zf2
  obtain ⟨hudH,huiH⟩:=zd3
  obtain ⟨ddH,hddH,hdrH⟩:=Option.map_eq_some_iff.1 hudH
  refine AnyB.begin_ (k:=11) (S:=fun W=>W.rangeAt w2.heap.size 0 [.int .i64 H.pw,.int .i64 H.np,.slice hp hn hc,.slice hq hm hd,.int .i64 H.space,.int .i64 H.bump]/\W.cell? ⟨w.heap.size,6,none⟩=some (.slice ps ns cs)) (by kernel_rfl) ?_
  refine AnyB.take (i:=0) (oi:=⟨some 18,.load 27 (.tmp 5),_,_,_,_⟩) (v:=_) rfl (by kernel_rfl) (by decide) (by kernel_rfl) (by kernel_rfl) (by kernel_rfl) (fun _ _ _ h=>h) (yieldsIf_load_mid (by rfl) _ _ rfl w2.heap.size 0 rfl [.int .i64 H.pw,.int .i64 H.np,.slice hp hn hc,.slice hq hm hd,.int .i64 H.space,.int .i64 H.bump] ddH (fun W h=>h.1) hddH hdrH huiH) (hSof.out _ (Below.drew (Below.refl _ _))) (by kernel_rfl) ?_
  go_frame
  refine AnyB.draw 2 20 (v:=?_) rfl rfl (by kernel_rfl) (by decide) (by kernel_rfl) (by kernel_rfl) (by kernel_rfl) (fun _ _ _ h=>h) (by kernel_rfl) ?hy (hSof.out _ (Below.drew (Below.refl _ _))) (by kernel_rfl) ?_
  case hy=>(intro w hSw;(try dsimp only at hSw);go_simp;(try with_reducible rfl))
  go_frame
  refine AnyB.draw 3 21 (v:=?_) rfl rfl (by kernel_rfl) (by decide) (by kernel_rfl) (by kernel_rfl) (by kernel_rfl) (fun _ _ _ h=>h) (by kernel_rfl) ?hy (hSof.out _ (Below.drew (Below.refl _ _))) (by kernel_rfl) ?_
  case hy=>(intro w hSw;(try dsimp only at hSw);go_simp;(try with_reducible rfl))
  go_frame
  refine AnyB.draw 5 23 (v:=?_) rfl rfl (by kernel_rfl) (by decide) (by kernel_rfl) (by kernel_rfl) (by kernel_rfl) (fun _ _ _ h=>h) (by kernel_rfl) ?hy (hSof.out _ (Below.drew (Below.refl _ _))) (by kernel_rfl) ?_
  case hy=>(intro w hSw;(try dsimp only at hSw);go_simp;(try with_reducible rfl))
  go_frame
  refine AnyB.draw 8 26 (v:=?_) rfl rfl (by kernel_rfl) (by decide) (by kernel_rfl) (by kernel_rfl) (by kernel_rfl) (fun _ _ _ h=>h) (by kernel_rfl) ?hy (hSof.out _ (Below.drew (Below.refl _ _))) (by kernel_rfl) ?_
  case hy=>(intro w hSw;(try dsimp only at hSw);go_simp;(try with_reducible rfl))
  go_frame
  refine AnyB.ready (rs:=[1,6]) (by kernel_rfl) (by simp) ?_
  refine AllB.cons rfl (fun K hK=>?_) (AllB.cons rfl (fun K hK=>?_) AllB.nil)
  · go_simp
    obtain ⟨uA1,hW⟩:∃ W,Hid ((World.alloc w3 (.cells #[] 48)).drew=W):=⟨_,rfl⟩
    rw [hW.out]
    have hbuA1:Below w3.heap.size w3 uA1:=by rw [<-hW.out];exact ((Below.refl _ _).alloc (Nat.le_refl _) _).drew
    have hzuA1:w3.heap.size < uA1.heap.size:=by rw [<-hW.out];simp
    have HOuA1:=qq (show uA1.ownsRow w3.heap.size 48 1 (.slice (some ⟨w3.heap.size,0,none⟩) 0 0) 0 [] from by rw [<-hW.out];exact zg6 (zb5 (zf9 w3 48 1) (Below.drew (Below.refl _ _))) (by omega))
    clear hW
    refine hK.out _ _ (fun _=>hSof.out _ hbuA1) ?_
    clear hK K
    try go_frame
    refine AnyB.ready (rs:=[4,6]) (by kernel_rfl) (by simp) ?_
    refine AllB.cons rfl (fun K hK=>?_) (AllB.cons rfl (fun K hK=>?_) AllB.nil)
    · rw [if_pos (by rfl)]
      refine ze0 _ _ 24 rfl w3.heap.size 48 i0 (.int .u64 0) 8 Tryz.underlying24 hin hz0 hz1 hz2 rfl (.slice (some ⟨w3.heap.size,0,none⟩) 0 0) 0 [] rfl HOuA1.out ps ns cs .u64 _ rfl (HRS.out.keep hbuA1) (by unfold maxLen;omega) (by omega) (by have:=hbuA1.size;omega) ?_
      intro vuB2 uB2 houB2 hguB2
      have hbuB2:Below w3.heap.size w3 uB2:=hbuA1.grown hguB2 hbuA1.size (fun b hb=>(HOuA1.out.lt b hb).1)
      have hzuB2:=hguB2.size
      have HOuB2:=qq houB2
      clear houB2 hguB2
      refine hK.out _ _ (fun _=>hSof.out _ hbuB2) ?_
      clear hK K
      try go_frame
      refine AnyB.ready (rs:=[6]) (by kernel_rfl) (by simp) ?_
      refine AllB.cons rfl (fun K hK=>?_) AllB.nil
      go_simp
      obtain ⟨uC3,hW⟩:∃ W,Hid (World.alloc uB2 (.cells #[.int .u64 AD] 48)=W):=⟨_,rfl⟩
      rw [hW.out]
      have hsuC3:Below uB2.heap.size uB2 uC3:=by rw [<-hW.out];exact za1
      have hbuC3:Below w3.heap.size w3 uC3:=hbuB2.trans (hsuC3.mono hbuB2.size)
      have hzuC3:uB2.heap.size < uC3.heap.size:=by rw [<-hW.out];simp
      have HCuC3:=qq (show SRow uC3 .u64 (some ⟨uB2.heap.size,0,none⟩) 1 1 [AD] from by rw [<-hW.out];exact (zl7 uB2 48 AD))
      have HOuC3:=qq (zb5 HOuB2.out hsuC3)
      clear hW
      refine hK.out _ _ (fun _=>hSof.out _ hbuC3) ?_
      clear hK K
      try go_frame
      refine AnyB.ready (rs:=[7]) (by kernel_rfl) (by simp) ?_
      refine AllB.cons rfl (fun K hK=>?_) AllB.nil
      rw [if_pos (by rfl)]
      refine ze0 _ _ 24 rfl w3.heap.size 48 i0 (.int .u64 0) 8 Tryz.underlying24 hin hz0 hz1 hz2 rfl vuB2 (0+ns) ([] ++ zb2 .u64 x.st) rfl HOuC3.out (some ⟨uB2.heap.size,0,none⟩) 1 1 .u64 [AD] rfl HCuC3.out (by unfold maxLen;omega) (by omega) (by have:=hbuC3.size;omega) ?_
      intro vuD4 uD4 houD4 hguD4
      have hbuD4:Below w3.heap.size w3 uD4:=hbuC3.grown hguD4 hbuC3.size (fun b hb=>(HOuC3.out.lt b hb).1)
      rw [List.nil_append,ze4] at houD4
      obtain ⟨gD,cD,rfl,-,-⟩:=World.ownsRow.form houD4 (by omega)
      obtain ⟨p9,c9,e9,hrow⟩:=SRow.of_own houD4
      injection e9 with e91 e92 e93
      subst e91 e93
      have HRW:=qq hrow
      clear hrow houD4 hguD4
      refine hK.out _ _ (fun _=>hSof.out _ hbuD4) ?_
      clear hK K
      try go_frame
      clear hSof
      replace Ha:=qq (Ha.out.keep hbuD4 h3a)
      replace Hb:=qq (Hb.out.keep hbuD4 h3b)
      replace HB:=qq (za3 HB.out hbuD4)
      replace HX:=qq (HX.out.keep hbuD4)
      replace R1:=qq (R1.out.keep hbuD4)
      replace R2:=qq (PRow.keep R2.out hbuD4)
      have hsD:w3.heap.size<=uD4.heap.size:=hbuD4.size
      have HWW:=qq (show WW uD4 ⟨H,x.st ++ [AD],x.wk⟩ hp hq (some ⟨gD,0,none⟩) pk hn hc hm hd _ cD nk ck from ⟨R1.out,R2.out,R3.out,HRW.out,HX.out.wk⟩)
      have h6:=Ha.out.cell 6 _ rfl
      refine AnyB.ready (rs:=[9]) (by kernel_rfl) (by simp) ?_
      refine AllB.cons (o:=⟨none,.store 27 _ _,_,_,_,_⟩) rfl (fun K hK=>?_) AllB.nil
      rw [if_pos (by rfl)]
      refine wp_store_mid 27 _ _ rfl w.heap.size 0 ([.int .i64 H.pw,.int .i64 H.np,.slice hp hn hc,.slice hq hm hd,.int .i64 H.space,.int .i64 H.bump]:List Value).toArray rfl rfl (Ha.out.isThere (n:=6) (by simp)) huiH (by have h1:([.int .i64 H.pw,.int .i64 H.np,.slice hp hn hc,.slice hq hm hd,.int .i64 H.space,.int .i64 H.bump]:List Value).all (·.oneCell')=true:=rfl;simpa using h1) ?_
      obtain ⟨wE,hst⟩:∃ W,Hid (World.setCells uD4 w.heap.size 0 [.int .i64 H.pw,.int .i64 H.np,.slice hp hn hc,.slice hq hm hd,.int .i64 H.space,.int .i64 H.bump]=W):=⟨_,rfl⟩
      have hbt:But w.heap.size uD4 wE:=by rw [<-hst.out];exact But.setCells (b:=w.heap.size) (w:=uD4) [.int .i64 H.pw,.int .i64 H.np,.slice hp hn hc,.slice hq hm hd,.int .i64 H.space,.int .i64 H.bump] 0
      have ho:OwnL wE w.heap.size [.int .i64 H.pw,.int .i64 H.np,.slice hp hn hc,.slice hq hm hd,.int .i64 H.space,.int .i64 H.bump,.slice ps ns cs,.slice pk nk ck]:=by rw [<-hst.out,zb7];exact yc1 [.int .i64 H.pw,.int .i64 H.np,.slice hp hn hc,.slice hq hm hd,.int .i64 H.space,.int .i64 H.bump] [] [.int .i64 x.h.pw,.int .i64 x.h.np,.slice p n c,.slice q m d,.int .i64 x.h.space,.int .i64 x.h.bump] [.slice ps ns cs,.slice pk nk ck] _ Ha.out (by simp)
      have hww:=HWW.out.stored (i:=0) (vs:=[.int .i64 H.pw,.int .i64 H.np,.slice hp hn hc,.slice hq hm hd,.int .i64 H.space,.int .i64 H.bump]) Ha.out (zf3 _ _ _ _ _ _ _ _ _ _ _ _ _ _ _ _) (by simp) (by rw [<-zb7];exact hst.out) hbt (fun hne ad e=>(HQ.out.2 hne ad e).1)
      rw [show World.setCells uD4 w.heap.size 0 (List.toArray [.int .i64 H.pw,.int .i64 H.np,.slice hp hn hc,.slice hq hm hd,.int .i64 H.space,.int .i64 H.bump]).toList=wE from hst.out]
      have h5w:wE.rangeAt w2.heap.size 0 [.int .i64 H.pw,.int .i64 H.np,.slice hp hn hc,.slice hq hm hd,.int .i64 H.space,.int .i64 H.bump]:=((H5.out.keep hbuD4 h3s).but hbt (by have:=H5.out.lt rfl;omega) (by omega)).range
      replace Hb:=qq (Hb.out.but hbt (by omega) (by omega))
      replace HB:=qq (HB.out.trans (hbt.low (Nat.le_refl _) (by omega)))
      have hsE:=hbt.size
      clear Ha HWW hst hbt h6
      have Ha:=qq ho
      have HWW:=qq hww
      clear ho hww
      refine hK.out _ _ (fun _=>⟨h5w,Ha.out.cell 6 _ rfl⟩) ?_
      have hS9:(fun W=>W.rangeAt w2.heap.size 0 [.int .i64 H.pw,.int .i64 H.np,.slice hp hn hc,.slice hq hm hd,.int .i64 H.space,.int .i64 H.bump]/\W.cell? ⟨w.heap.size,6,none⟩=some (.slice ps ns cs)) wE:=⟨h5w,Ha.out.cell 6 _ rfl⟩
      clear hK K h5w
      try go_frame
      refine AnyB.draw 10 27 (v:=?_) rfl rfl (by kernel_rfl) (by decide) (by kernel_rfl) (by kernel_rfl) (by kernel_rfl) (fun _ _ _ h=>h) (by kernel_rfl) ?hy hS9 (by kernel_rfl) ?_
      case hy=>(intro w hSw;(try dsimp only at hSw);go_simp;(try with_reducible rfl))
      go_frame
      clear hS9
      refine AnyB.ready (rs:=[11]) (by kernel_rfl) (by simp) ?_
      refine AllB.cons rfl (fun K hK=>?_) AllB.nil
      have c6:=Ha.out.cell 6 _ rfl
      have f6:=Ha.out.free 6
      go_simp
      clear c6 f6
      refine hK.out _ _ (fun h=>by cases (show true=false from h)) ?_
      clear hK K
      try go_frame
      refine AnyB.done (by kernel_rfl) ?_ _
      go_wp2_with fail
      go_meet
      have hbt:But w.heap.size wE (wE.setCell ⟨w.heap.size,6,none⟩ (.slice (some ⟨gD,0,none⟩) (ns+1) cD)):=(But.refl _ _).set 6 _
      have hw0:=HWW.out
      rw [Nat.zero_add] at hw0
      exact ⟨some ⟨gD,0,none⟩,ns+1,cD,Ha.out.set 6 _ (by simp),Hb.out.but hbt (by omega) (by omega),HB.out.trans (hbt.low (Nat.le_refl _) (by omega)),hw0.stored (i:=6) (vs:=[.slice (some ⟨gD,0,none⟩) (ns+1) cD]) Ha.out (zf3 _ _ _ _ _ _ _ _ _ _ _ _ _ _ _ _) (by simp) rfl hbt (fun hne ad e=>(HQ.out.2 hne ad e).1)⟩
    · go_simp
      obtain ⟨uC5,hW⟩:∃ W,Hid (World.alloc uA1 (.cells #[.int .u64 AD] 48)=W):=⟨_,rfl⟩
      rw [hW.out]
      have hsuC5:Below uA1.heap.size uA1 uC5:=by rw [<-hW.out];exact za1
      have hbuC5:Below w3.heap.size w3 uC5:=hbuA1.trans (hsuC5.mono hbuA1.size)
      have hzuC5:uA1.heap.size < uC5.heap.size:=by rw [<-hW.out];simp
      have HCuC5:=qq (show SRow uC5 .u64 (some ⟨uA1.heap.size,0,none⟩) 1 1 [AD] from by rw [<-hW.out];exact (zl7 uA1 48 AD))
      have HOuC5:=qq (zb5 HOuA1.out hsuC5)
      clear hW
      refine hK.out _ _ (fun _=>hSof.out _ hbuC5) ?_
      clear hK K
      try go_frame
      refine AnyB.ready (rs:=[4]) (by kernel_rfl) (by simp) ?_
      refine AllB.cons rfl (fun K hK=>?_) AllB.nil
      rw [if_pos (by rfl)]
      refine ze0 _ _ 24 rfl w3.heap.size 48 i0 (.int .u64 0) 8 Tryz.underlying24 hin hz0 hz1 hz2 rfl (.slice (some ⟨w3.heap.size,0,none⟩) 0 0) 0 [] rfl HOuC5.out ps ns cs .u64 _ rfl (HRS.out.keep hbuC5) (by unfold maxLen;omega) (by omega) (by have:=hbuC5.size;omega) ?_
      intro vuB6 uB6 houB6 hguB6
      have hbuB6:Below w3.heap.size w3 uB6:=hbuC5.grown hguB6 hbuC5.size (fun b hb=>(HOuC5.out.lt b hb).1)
      have hzuB6:=hguB6.size
      have HOuB6:=qq houB6
      have HCuB6:=qq (HCuC5.out.grown hguB6 (fun _ ad e e2=>by cases e;simp [Value.ownBlock] at e2;omega))
      clear houB6 hguB6
      refine hK.out _ _ (fun _=>hSof.out _ hbuB6) ?_
      clear hK K
      try go_frame
      refine AnyB.ready (rs:=[7]) (by kernel_rfl) (by simp) ?_
      refine AllB.cons rfl (fun K hK=>?_) AllB.nil
      rw [if_pos (by rfl)]
      refine ze0 _ _ 24 rfl w3.heap.size 48 i0 (.int .u64 0) 8 Tryz.underlying24 hin hz0 hz1 hz2 rfl vuB6 (0+ns) ([] ++ zb2 .u64 x.st) rfl HOuB6.out (some ⟨uA1.heap.size,0,none⟩) 1 1 .u64 [AD] rfl HCuB6.out (by unfold maxLen;omega) (by omega) (by have:=hbuB6.size;omega) ?_
      intro vuD7 uD7 houD7 hguD7
      have hbuD7:Below w3.heap.size w3 uD7:=hbuB6.grown hguD7 hbuB6.size (fun b hb=>(HOuB6.out.lt b hb).1)
      rw [List.nil_append,ze4] at houD7
      obtain ⟨gD,cD,rfl,-,-⟩:=World.ownsRow.form houD7 (by omega)
      obtain ⟨p9,c9,e9,hrow⟩:=SRow.of_own houD7
      injection e9 with e91 e92 e93
      subst e91 e93
      have HRW:=qq hrow
      clear hrow houD7 hguD7
      refine hK.out _ _ (fun _=>hSof.out _ hbuD7) ?_
      clear hK K
      try go_frame
      clear hSof
      replace Ha:=qq (Ha.out.keep hbuD7 h3a)
      replace Hb:=qq (Hb.out.keep hbuD7 h3b)
      replace HB:=qq (za3 HB.out hbuD7)
      replace HX:=qq (HX.out.keep hbuD7)
      replace R1:=qq (R1.out.keep hbuD7)
      replace R2:=qq (PRow.keep R2.out hbuD7)
      have hsD:w3.heap.size<=uD7.heap.size:=hbuD7.size
      have HWW:=qq (show WW uD7 ⟨H,x.st ++ [AD],x.wk⟩ hp hq (some ⟨gD,0,none⟩) pk hn hc hm hd _ cD nk ck from ⟨R1.out,R2.out,R3.out,HRW.out,HX.out.wk⟩)
      have h6:=Ha.out.cell 6 _ rfl
      refine AnyB.ready (rs:=[9]) (by kernel_rfl) (by simp) ?_
      refine AllB.cons (o:=⟨none,.store 27 _ _,_,_,_,_⟩) rfl (fun K hK=>?_) AllB.nil
      rw [if_pos (by rfl)]
      refine wp_store_mid 27 _ _ rfl w.heap.size 0 ([.int .i64 H.pw,.int .i64 H.np,.slice hp hn hc,.slice hq hm hd,.int .i64 H.space,.int .i64 H.bump]:List Value).toArray rfl rfl (Ha.out.isThere (n:=6) (by simp)) huiH (by have h1:([.int .i64 H.pw,.int .i64 H.np,.slice hp hn hc,.slice hq hm hd,.int .i64 H.space,.int .i64 H.bump]:List Value).all (·.oneCell')=true:=rfl;simpa using h1) ?_
      obtain ⟨wE,hst⟩:∃ W,Hid (World.setCells uD7 w.heap.size 0 [.int .i64 H.pw,.int .i64 H.np,.slice hp hn hc,.slice hq hm hd,.int .i64 H.space,.int .i64 H.bump]=W):=⟨_,rfl⟩
      have hbt:But w.heap.size uD7 wE:=by rw [<-hst.out];exact But.setCells (b:=w.heap.size) (w:=uD7) [.int .i64 H.pw,.int .i64 H.np,.slice hp hn hc,.slice hq hm hd,.int .i64 H.space,.int .i64 H.bump] 0
      have ho:OwnL wE w.heap.size [.int .i64 H.pw,.int .i64 H.np,.slice hp hn hc,.slice hq hm hd,.int .i64 H.space,.int .i64 H.bump,.slice ps ns cs,.slice pk nk ck]:=by rw [<-hst.out,zb7];exact yc1 [.int .i64 H.pw,.int .i64 H.np,.slice hp hn hc,.slice hq hm hd,.int .i64 H.space,.int .i64 H.bump] [] [.int .i64 x.h.pw,.int .i64 x.h.np,.slice p n c,.slice q m d,.int .i64 x.h.space,.int .i64 x.h.bump] [.slice ps ns cs,.slice pk nk ck] _ Ha.out (by simp)
      have hww:=HWW.out.stored (i:=0) (vs:=[.int .i64 H.pw,.int .i64 H.np,.slice hp hn hc,.slice hq hm hd,.int .i64 H.space,.int .i64 H.bump]) Ha.out (zf3 _ _ _ _ _ _ _ _ _ _ _ _ _ _ _ _) (by simp) (by rw [<-zb7];exact hst.out) hbt (fun hne ad e=>(HQ.out.2 hne ad e).1)
      rw [show World.setCells uD7 w.heap.size 0 (List.toArray [.int .i64 H.pw,.int .i64 H.np,.slice hp hn hc,.slice hq hm hd,.int .i64 H.space,.int .i64 H.bump]).toList=wE from hst.out]
      have h5w:wE.rangeAt w2.heap.size 0 [.int .i64 H.pw,.int .i64 H.np,.slice hp hn hc,.slice hq hm hd,.int .i64 H.space,.int .i64 H.bump]:=((H5.out.keep hbuD7 h3s).but hbt (by have:=H5.out.lt rfl;omega) (by omega)).range
      replace Hb:=qq (Hb.out.but hbt (by omega) (by omega))
      replace HB:=qq (HB.out.trans (hbt.low (Nat.le_refl _) (by omega)))
      have hsE:=hbt.size
      clear Ha HWW hst hbt h6
      have Ha:=qq ho
      have HWW:=qq hww
      clear ho hww
      refine hK.out _ _ (fun _=>⟨h5w,Ha.out.cell 6 _ rfl⟩) ?_
      have hS9:(fun W=>W.rangeAt w2.heap.size 0 [.int .i64 H.pw,.int .i64 H.np,.slice hp hn hc,.slice hq hm hd,.int .i64 H.space,.int .i64 H.bump]/\W.cell? ⟨w.heap.size,6,none⟩=some (.slice ps ns cs)) wE:=⟨h5w,Ha.out.cell 6 _ rfl⟩
      clear hK K h5w
      try go_frame
      refine AnyB.draw 10 27 (v:=?_) rfl rfl (by kernel_rfl) (by decide) (by kernel_rfl) (by kernel_rfl) (by kernel_rfl) (fun _ _ _ h=>h) (by kernel_rfl) ?hy hS9 (by kernel_rfl) ?_
      case hy=>(intro w hSw;(try dsimp only at hSw);go_simp;(try with_reducible rfl))
      go_frame
      clear hS9
      refine AnyB.ready (rs:=[11]) (by kernel_rfl) (by simp) ?_
      refine AllB.cons rfl (fun K hK=>?_) AllB.nil
      have c6:=Ha.out.cell 6 _ rfl
      have f6:=Ha.out.free 6
      go_simp
      clear c6 f6
      refine hK.out _ _ (fun h=>by cases (show true=false from h)) ?_
      clear hK K
      try go_frame
      refine AnyB.done (by kernel_rfl) ?_ _
      go_wp2_with fail
      go_meet
      have hbt:But w.heap.size wE (wE.setCell ⟨w.heap.size,6,none⟩ (.slice (some ⟨gD,0,none⟩) (ns+1) cD)):=(But.refl _ _).set 6 _
      have hw0:=HWW.out
      rw [Nat.zero_add] at hw0
      exact ⟨some ⟨gD,0,none⟩,ns+1,cD,Ha.out.set 6 _ (by simp),Hb.out.but hbt (by omega) (by omega),HB.out.trans (hbt.low (Nat.le_refl _) (by omega)),hw0.stored (i:=6) (vs:=[.slice (some ⟨gD,0,none⟩) (ns+1) cD]) Ha.out (zf3 _ _ _ _ _ _ _ _ _ _ _ _ _ _ _ _) (by simp) rfl hbt (fun hne ad e=>(HQ.out.2 hne ad e).1)⟩
  · go_simp
    obtain ⟨uC8,hW⟩:∃ W,Hid ((World.alloc w3 (.cells #[.int .u64 AD] 48)).drew=W):=⟨_,rfl⟩
    rw [hW.out]
    have hbuC8:Below w3.heap.size w3 uC8:=by rw [<-hW.out];exact ((Below.refl _ _).alloc (Nat.le_refl _) _).drew
    have hzuC8:w3.heap.size < uC8.heap.size:=by rw [<-hW.out];simp
    have HCuC8:=qq (show SRow uC8 .u64 (some ⟨w3.heap.size,0,none⟩) 1 1 [AD] from by rw [<-hW.out];exact ((zl7 w3 48 AD).keep (Below.drew (Below.refl _ _))))
    clear hW
    refine hK.out _ _ (fun _=>hSof.out _ hbuC8) ?_
    clear hK K
    try go_frame
    refine AnyB.ready (rs:=[1]) (by kernel_rfl) (by simp) ?_
    refine AllB.cons rfl (fun K hK=>?_) AllB.nil
    go_simp
    obtain ⟨uA9,hW⟩:∃ W,Hid (World.alloc uC8 (.cells #[] 48)=W):=⟨_,rfl⟩
    rw [hW.out]
    have hsuA9:Below uC8.heap.size uC8 uA9:=by rw [<-hW.out];exact za1
    have hbuA9:Below w3.heap.size w3 uA9:=hbuC8.trans (hsuA9.mono hbuC8.size)
    have hzuA9:uC8.heap.size < uA9.heap.size:=by rw [<-hW.out];simp
    have HOuA9:=qq (show uA9.ownsRow w3.heap.size 48 1 (.slice (some ⟨uC8.heap.size,0,none⟩) 0 0) 0 [] from by rw [<-hW.out];exact zg6 (zf9 uC8 48 1) (by have:=hbuC8.size;omega))
    have HCuA9:=qq (HCuC8.out.keep hsuA9)
    clear hW
    refine hK.out _ _ (fun _=>hSof.out _ hbuA9) ?_
    clear hK K
    try go_frame
    refine AnyB.ready (rs:=[4]) (by kernel_rfl) (by simp) ?_
    refine AllB.cons rfl (fun K hK=>?_) AllB.nil
    rw [if_pos (by rfl)]
    refine ze0 _ _ 24 rfl w3.heap.size 48 i0 (.int .u64 0) 8 Tryz.underlying24 hin hz0 hz1 hz2 rfl (.slice (some ⟨uC8.heap.size,0,none⟩) 0 0) 0 [] rfl HOuA9.out ps ns cs .u64 _ rfl (HRS.out.keep hbuA9) (by unfold maxLen;omega) (by omega) (by have:=hbuA9.size;omega) ?_
    intro vuB10 uB10 houB10 hguB10
    have hbuB10:Below w3.heap.size w3 uB10:=hbuA9.grown hguB10 hbuA9.size (fun b hb=>(HOuA9.out.lt b hb).1)
    have hzuB10:=hguB10.size
    have HOuB10:=qq houB10
    have HCuB10:=qq (HCuA9.out.grown hguB10 (fun _ ad e e2=>by cases e;simp [Value.ownBlock] at e2;omega))
    clear houB10 hguB10
    refine hK.out _ _ (fun _=>hSof.out _ hbuB10) ?_
    clear hK K
    try go_frame
    refine AnyB.ready (rs:=[7]) (by kernel_rfl) (by simp) ?_
    refine AllB.cons rfl (fun K hK=>?_) AllB.nil
    rw [if_pos (by rfl)]
    refine ze0 _ _ 24 rfl w3.heap.size 48 i0 (.int .u64 0) 8 Tryz.underlying24 hin hz0 hz1 hz2 rfl vuB10 (0+ns) ([] ++ zb2 .u64 x.st) rfl HOuB10.out (some ⟨w3.heap.size,0,none⟩) 1 1 .u64 [AD] rfl HCuB10.out (by unfold maxLen;omega) (by omega) (by have:=hbuB10.size;omega) ?_
    intro vuD11 uD11 houD11 hguD11
    have hbuD11:Below w3.heap.size w3 uD11:=hbuB10.grown hguD11 hbuB10.size (fun b hb=>(HOuB10.out.lt b hb).1)
    rw [List.nil_append,ze4] at houD11
    obtain ⟨gD,cD,rfl,-,-⟩:=World.ownsRow.form houD11 (by omega)
    obtain ⟨p9,c9,e9,hrow⟩:=SRow.of_own houD11
    injection e9 with e91 e92 e93
    subst e91 e93
    have HRW:=qq hrow
    clear hrow houD11 hguD11
    refine hK.out _ _ (fun _=>hSof.out _ hbuD11) ?_
    clear hK K
    try go_frame
    clear hSof
    replace Ha:=qq (Ha.out.keep hbuD11 h3a)
    replace Hb:=qq (Hb.out.keep hbuD11 h3b)
    replace HB:=qq (za3 HB.out hbuD11)
    replace HX:=qq (HX.out.keep hbuD11)
    replace R1:=qq (R1.out.keep hbuD11)
    replace R2:=qq (PRow.keep R2.out hbuD11)
    have hsD:w3.heap.size<=uD11.heap.size:=hbuD11.size
    have HWW:=qq (show WW uD11 ⟨H,x.st ++ [AD],x.wk⟩ hp hq (some ⟨gD,0,none⟩) pk hn hc hm hd _ cD nk ck from ⟨R1.out,R2.out,R3.out,HRW.out,HX.out.wk⟩)
    have h6:=Ha.out.cell 6 _ rfl
    refine AnyB.ready (rs:=[9]) (by kernel_rfl) (by simp) ?_
    refine AllB.cons (o:=⟨none,.store 27 _ _,_,_,_,_⟩) rfl (fun K hK=>?_) AllB.nil
    rw [if_pos (by rfl)]
    refine wp_store_mid 27 _ _ rfl w.heap.size 0 ([.int .i64 H.pw,.int .i64 H.np,.slice hp hn hc,.slice hq hm hd,.int .i64 H.space,.int .i64 H.bump]:List Value).toArray rfl rfl (Ha.out.isThere (n:=6) (by simp)) huiH (by have h1:([.int .i64 H.pw,.int .i64 H.np,.slice hp hn hc,.slice hq hm hd,.int .i64 H.space,.int .i64 H.bump]:List Value).all (·.oneCell')=true:=rfl;simpa using h1) ?_
    obtain ⟨wE,hst⟩:∃ W,Hid (World.setCells uD11 w.heap.size 0 [.int .i64 H.pw,.int .i64 H.np,.slice hp hn hc,.slice hq hm hd,.int .i64 H.space,.int .i64 H.bump]=W):=⟨_,rfl⟩
    have hbt:But w.heap.size uD11 wE:=by rw [<-hst.out];exact But.setCells (b:=w.heap.size) (w:=uD11) [.int .i64 H.pw,.int .i64 H.np,.slice hp hn hc,.slice hq hm hd,.int .i64 H.space,.int .i64 H.bump] 0
    have ho:OwnL wE w.heap.size [.int .i64 H.pw,.int .i64 H.np,.slice hp hn hc,.slice hq hm hd,.int .i64 H.space,.int .i64 H.bump,.slice ps ns cs,.slice pk nk ck]:=by rw [<-hst.out,zb7];exact yc1 [.int .i64 H.pw,.int .i64 H.np,.slice hp hn hc,.slice hq hm hd,.int .i64 H.space,.int .i64 H.bump] [] [.int .i64 x.h.pw,.int .i64 x.h.np,.slice p n c,.slice q m d,.int .i64 x.h.space,.int .i64 x.h.bump] [.slice ps ns cs,.slice pk nk ck] _ Ha.out (by simp)
    have hww:=HWW.out.stored (i:=0) (vs:=[.int .i64 H.pw,.int .i64 H.np,.slice hp hn hc,.slice hq hm hd,.int .i64 H.space,.int .i64 H.bump]) Ha.out (zf3 _ _ _ _ _ _ _ _ _ _ _ _ _ _ _ _) (by simp) (by rw [<-zb7];exact hst.out) hbt (fun hne ad e=>(HQ.out.2 hne ad e).1)
    rw [show World.setCells uD11 w.heap.size 0 (List.toArray [.int .i64 H.pw,.int .i64 H.np,.slice hp hn hc,.slice hq hm hd,.int .i64 H.space,.int .i64 H.bump]).toList=wE from hst.out]
    have h5w:wE.rangeAt w2.heap.size 0 [.int .i64 H.pw,.int .i64 H.np,.slice hp hn hc,.slice hq hm hd,.int .i64 H.space,.int .i64 H.bump]:=((H5.out.keep hbuD11 h3s).but hbt (by have:=H5.out.lt rfl;omega) (by omega)).range
    replace Hb:=qq (Hb.out.but hbt (by omega) (by omega))
    replace HB:=qq (HB.out.trans (hbt.low (Nat.le_refl _) (by omega)))
    have hsE:=hbt.size
    clear Ha HWW hst hbt h6
    have Ha:=qq ho
    have HWW:=qq hww
    clear ho hww
    refine hK.out _ _ (fun _=>⟨h5w,Ha.out.cell 6 _ rfl⟩) ?_
    have hS9:(fun W=>W.rangeAt w2.heap.size 0 [.int .i64 H.pw,.int .i64 H.np,.slice hp hn hc,.slice hq hm hd,.int .i64 H.space,.int .i64 H.bump]/\W.cell? ⟨w.heap.size,6,none⟩=some (.slice ps ns cs)) wE:=⟨h5w,Ha.out.cell 6 _ rfl⟩
    clear hK K h5w
    try go_frame
    refine AnyB.draw 10 27 (v:=?_) rfl rfl (by kernel_rfl) (by decide) (by kernel_rfl) (by kernel_rfl) (by kernel_rfl) (fun _ _ _ h=>h) (by kernel_rfl) ?hy hS9 (by kernel_rfl) ?_
    case hy=>(intro w hSw;(try dsimp only at hSw);go_simp;(try with_reducible rfl))
    go_frame
    clear hS9
    refine AnyB.ready (rs:=[11]) (by kernel_rfl) (by simp) ?_
    refine AllB.cons rfl (fun K hK=>?_) AllB.nil
    have c6:=Ha.out.cell 6 _ rfl
    have f6:=Ha.out.free 6
    go_simp
    clear c6 f6
    refine hK.out _ _ (fun h=>by cases (show true=false from h)) ?_
    clear hK K
    try go_frame
    refine AnyB.done (by kernel_rfl) ?_ _
    go_wp2_with fail
    go_meet
    have hbt:But w.heap.size wE (wE.setCell ⟨w.heap.size,6,none⟩ (.slice (some ⟨gD,0,none⟩) (ns+1) cD)):=(But.refl _ _).set 6 _
    have hw0:=HWW.out
    rw [Nat.zero_add] at hw0
    exact ⟨some ⟨gD,0,none⟩,ns+1,cD,Ha.out.set 6 _ (by simp),Hb.out.but hbt (by omega) (by omega),HB.out.trans (hbt.low (Nat.le_refl _) (by omega)),hw0.stored (i:=6) (vs:=[.slice (some ⟨gD,0,none⟩) (ns+1) cD]) Ha.out (zf3 _ _ _ _ _ _ _ _ _ _ _ _ _ _ _ _) (by simp) rfl hbt (fun hne ad e=>(HQ.out.2 hne ad e).1)⟩
 case rest =>
  obtain ⟨sq,sn,sc,hha,hhb,hhB,hww⟩:=hcut
  have Ha:=qq hha
  have Hb:=qq hhb
  have HB:=qq hhB
  have HWW:=qq hww
  clear hha hhb hhB hww
  have hcb:w.heap.size+2 < wc.heap.size:=Hb.out.lt rfl
  go_wp2_with (first | ((with_reducible show wpList _ _ _ _ _ _);refine za7 (op:=⟨some 28,.load 31 _,_,_,_,_⟩) rfl _ _ rfl _ rfl _ Ha.out zc1 ?_) | ((with_reducible show wpList _ _ _ _ _ _);refine za6 (op:=⟨none,.store 31 _ _,_,_,_,_⟩) rfl _ _ _ rfl _ ?hx803 [.int .i64 H.pw,.int .i64 H.np,.slice hp hn hc,.slice hq hm hd,.int .i64 H.space,.int .i64 H.bump,.slice sq sn sc,.slice pk nk ck] _ ?hy803 Hb.out rfl rfl zc1 ?_))
  (try (case hx803=>rfl))
  (try (case hy803=>rfl))
  intro w4 ho hbt hst
  have HZ:=qq ho
  have HXB:=qq (HB.out.trans (hbt.low (by omega) (by omega)))
  have HX4:=qq (HWW.out.stored (i:=0) (vs:=[.int .i64 H.pw,.int .i64 H.np,.slice hp hn hc,.slice hq hm hd,.int .i64 H.space,.int .i64 H.bump,.slice sq sn sc,.slice pk nk ck]) Hb.out (zf3 _ _ _ _ _ _ _ _ _ _ _ _ _ _ _ _) (by simp) (by rw [<-zb7];exact hst.out.symm) hbt (fun hne ad e=>(HQ.out.2 hne ad e).2))
  clear ho hbt hst
  go_wp2
  refine bodyPost_ret (zc9 rfl rfl HZ.out zc1) rfl ?_
  exact ⟨⟨_,Y,rfl,HMS.out,by rw [<-hY.out];exact HX4.out.wd⟩,HXB.out⟩
end Go.Proofs.YtipjdbhocjpmdaaGreat
