import Derived.Test.YtipjdbhocjpmdaaGreatQ01
import Derived.Test.YtipjdbhocjpmdaaGreatQ10
import Derived.Test.YtipjdbhocjpmdaaGreatQ13
import Derived.Test.YtipjdbhocjpmdaaGreatQ19
import Derived.Test.YtipjdbhocjpmdaaGreatQ31
import Derived.Test.YtipjdbhocjpmdaaGreatQ32
import Derived.Test.YtipjdbhocjpmdaaGreatQ35
import Derived.Deep.DeepCutAuto
import Derived.Maps.RangeWalk
set_option linter.unusedSimpArgs false
set_option linter.unusedVariables false
set_option maxRecDepth 100000
set_option maxHeartbeats 12800000
namespace Go.Proofs.YtipjdbhocjpmdaaGreat
open Go.RowKit
def zw9 (x:Wk) (k:Nat):Wk:=(x.old.take k).foldl zc5 x
theorem fillTo_succ {x:Wk} {k:Nat} {a:Int} (h:x.old[k]?=some a):zw9 x (k+1)=zc5 (zw9 x k) a:=by
 unfold zw9;rw [zi9 h,List.foldl_append];rfl
theorem fold_same:∀ (l:List Int) (x:Wk),(l.foldl zc5 x).h.pw=x.h.pw/\(l.foldl zc5 x).h.np=x.h.np/\(l.foldl zc5 x).h.pages=x.h.pages/\(l.foldl zc5 x).h.space=x.h.space/\(l.foldl zc5 x).taken=x.taken/\(l.foldl zc5 x).queue=x.queue/\(l.foldl zc5 x).old=x.old/\(l.foldl zc5 x).h.bump=x.h.bump
 | [],x=>⟨rfl,rfl,rfl,rfl,rfl,rfl,rfl,rfl⟩
 | a :: l,x=>by
  obtain ⟨e1,e2,e3,e4,e5,e6,e7,e8⟩:=fold_same l (zc5 x a)
  have h:(zc5 x a).h.pw=x.h.pw/\(zc5 x a).h.np=x.h.np/\(zc5 x a).h.pages=x.h.pages/\(zc5 x a).h.space=x.h.space/\(zc5 x a).taken=x.taken/\(zc5 x a).queue=x.queue/\(zc5 x a).old=x.old/\(zc5 x a).h.bump=x.h.bump:=by
   unfold zc5;split <;> exact ⟨rfl,rfl,rfl,rfl,rfl,rfl,rfl,rfl⟩
  obtain ⟨f1,f2,f3,f4,f5,f6,f7,f8⟩:=h
  exact ⟨e1.trans f1,e2.trans f2,e3.trans f3,e4.trans f4,e5.trans f5,e6.trans f6,e7.trans f7,e8.trans f8⟩
theorem writeV_le (xs:List Int) (a:Int) (l:List Int):(zc8 xs a l).length<=xs.length:=by
 unfold zc8
 split
 · rename_i hk
   have h1:=of_decide_eq_true hk
   rw [zo7 (by omega)];exact Nat.le_refl _
 · exact Nat.zero_le _
theorem fillOne_le (x:Wk) (a:Int):(zc5 x a).h.words.length<=x.h.words.length:=by
 unfold zc5;split
 · exact writeV_le _ _ _
 · exact Nat.le_refl _
theorem fold_le:∀ (l:List Int) (x:Wk),(l.foldl zc5 x).h.words.length<=x.h.words.length
 | [],_=>Nat.le_refl _
 | a :: l,x=>Nat.le_trans (fold_le l _) (fillOne_le x a)
theorem evH_n (x:Wk) (a:Int):0<=(evH x a).n/\(evH x a).n < 4096:=by
 unfold evH decN
 split
 · unfold dN;simp only;omega
 · simp only;omega
theorem encV_wb (n:Int):0<=encV 0 n 0/\encV 0 n 0 < 18446744073709551616:=by
 unfold encV
 split
 · rename_i h
   have:=word_bd h (Int.le_refl 0)
   omega
 · omega
theorem WR.words_ {w:World} {S:Nat->Prop} {x:Wk} {p q po pt pq p4:Option Addr} {n c m d no co nt ct nq cq n4 c4:Nat} {l:List Int} {r:Int} (h:WR w S x p q po pt pq n c m d no co nt ct nq cq) (h1:SRow w .u64 p4 n4 c4 l) (h2:WB l) (h3:l≠[]->∀ ad,p4=some ad->¬S ad.block) :
 WR w S { x with h:={ x.h with words:=l },r2:=r } p4 q po pt pq n4 c4 m d no co nt ct nq cq :=
 ⟨h1,h.pages,h2,h.old,h.taken,h.queue,h.ap,h.at_,h3,h.ao,h.aq⟩
theorem fill_any (S:Nat->Prop) (x:Wk) (p q po pt pq:Option Addr) (n c m d no co nt ct nq cq:Nat) (w:World) (hr:WR w S x p q po pt pq n c m d no co nt ct nq cq) (hS:∀ b,S b->b < w.heap.size) (hob:WB x.old) (hn9:n<=100000) (hq9:nq<=1000000) :
 Calls Tryz.prog 129 #[(.agg #[.int .i64 x.h.pw,.int .i64 x.h.np,.slice p n c,.slice q m d,.int .i64 x.h.space,.int .i64 x.h.bump,.slice po no co,.slice pt nt ct,.slice pq nq cq,.int .i64 x.sc,.int .i64 x.r0,.int .i64 x.r1,.int .i64 x.r2,.int .i64 x.r3,.int .i64 x.r4,.int .i64 x.r5])] w fun e w'=>(∃ v,e = .returned v/\WV w' S v (zh8 x))/\Below w.heap.size w w':=by
 obtain ⟨S2,hs2,hsa,hsb,hsl,hr2⟩:=hr.box hS
 obtain ⟨w1,hw1,hbx⟩:=boxes2x w 146 [.int .i64 x.h.pw,.int .i64 x.h.np,.slice p n c,.slice q m d,.int .i64 x.h.space,.int .i64 x.h.bump,.slice po no co,.slice pt nt ct,.slice pq nq cq,.int .i64 x.sc,.int .i64 x.r0,.int .i64 x.r1,.int .i64 x.r2,.int .i64 x.r3,.int .i64 x.r4,.int .i64 x.r5] [.int .i64 0,.int .i64 0,.slice none 0 0,.slice none 0 0,.int .i64 0,.int .i64 0,.slice none 0 0,.slice none 0 0,.slice none 0 0,.int .i64 0,.int .i64 0,.int .i64 0,.int .i64 0,.int .i64 0,.int .i64 0,.int .i64 0]
 have Ha:=qq hbx.1
 have Hb:=qq hbx.2.1
 have HB:=qq hbx.2.2
 have HR:=qq (hr2.keep hbx.2.2)
 clear hbx hr2
 have hwa:w.heap.size < w1.heap.size:=Ha.out.lt rfl
 have hwb:w.heap.size+1 < w1.heap.size:=Hb.out.lt rfl
 have HOB:=qq hob
 have hnl:x.h.words.length=n:=hr.words.len
 have hol:x.old.length=no:=hr.old.len
 have hol9:=hr.old.i63.2
 clear hr hob
 go_enter Tryz.func129,Tryz.ntmps129
 go_upto_region 1 with fail
 rw [hw1.out]
 clear hw1
 go_wp2_with fail
 go_loopw [3] (fun u wr=>∃ (k:Nat) (y:Wk),∃ p2 n2 c2,u = .int .i64 k/\k<=no/\y=zw9 x k/\OwnL wr w.heap.size [.int .i64 y.h.pw,.int .i64 y.h.np,.slice p2 n2 c2,.slice q m d,.int .i64 y.h.space,.int .i64 y.h.bump,.slice po no co,.slice pt nt ct,.slice pq nq cq,.int .i64 y.sc,.int .i64 y.r0,.int .i64 y.r1,.int .i64 y.r2,.int .i64 y.r3,.int .i64 y.r4,.int .i64 y.r5]/\OwnL wr (w.heap.size+1) [.int .i64 0,.int .i64 0,.slice none 0 0,.slice none 0 0,.int .i64 0,.int .i64 0,.slice none 0 0,.slice none 0 0,.slice none 0 0,.int .i64 0,.int .i64 0,.int .i64 0,.int .i64 0,.int .i64 0,.int .i64 0,.int .i64 0]/\Below w.heap.size w wr/\WR wr S2 y p2 q po pt pq n2 c2 m d no co nt ct nq cq) (fun u _=>no - (intOf u).toNat)
 case atStart=>exact ⟨0,x,p,n,c,rfl,Nat.zero_le _,rfl,Ha.out,Hb.out,HB.out,HR.out⟩
 case round =>
  obtain ⟨k,y,p2,n2,c2,rfl,hk,hy,ha,hb,hB,hR⟩:=hrel
  clear Ha Hb HB HR hwa hwb
  have Ha:=qq ha
  have Hb:=qq hb
  have HB:=qq hB
  have HR:=qq hR
  have HY:=qq hy
  clear ha hb hB hR hy
  have hwa:w.heap.size < wr.heap.size:=Ha.out.lt rfl
  have hwb:w.heap.size+1 < wr.heap.size:=Hb.out.lt rfl
  by_cases hlt:k < no
  · obtain ⟨A,bo,oo,hA,hpo,d0⟩:=HR.out.old.at_ hlt
    subst hpo
    have hAx:x.old[k]?=some A:=by
     have h1:=(fold_same (x.old.take k) x).2.2.2.2.2.2.1
     rw [HY.out] at hA
     unfold zw9 at hA
     rw [h1] at hA;exact hA
    have hAm:=HOB.out A (List.mem_of_getElem? hAx)
    obtain ⟨hA0,hA1⟩:=hAm
    have hn2:n2<=100000:=by
     have h1:=HR.out.words.len
     have h2:=fold_le (x.old.take k) x
     have h3:y.h.words.length<=x.h.words.length:=by rw [HY.out];exact h2
     omega
    have HNX:=qq (show zw9 x (k+1)=zc5 y A from by rw [HY.out];exact fillTo_succ hAx)
    clear hA hAx
    have hlt2:(k:Int) < no:=by omega
    have e9:IntKind.i64.wrap ((k:Int)+1)=((k+1:Nat):Int):=by rw [IntWalk.i64_in _ (by omega)];rfl
    have hOf:=qq (fun W (_:Below wr.heap.size wr W)=>zk6 y.h.pw y.h.np A W hA0 hA1)
    obtain ⟨I,hI⟩:∃ I,Hid (ofI y.h.pw y.h.np A=I):=⟨_,rfl⟩
    obtain ⟨K4,hK4⟩:∃ K,ofK y.h.pw y.h.np A=K:=⟨_,rfl⟩
    obtain ⟨E4,hE4⟩:∃ E,ofE y.h.pw y.h.np A=E:=⟨_,rfl⟩
    rw [hI.out,hK4,hE4] at hOf
    clear hK4 hE4
    have c0:=Ha.out.cell 0 _ rfl
    have c1:=Ha.out.cell 1 _ rfl
    have c6:=Ha.out.cell 6 _ rfl
    have hSof:=qq (fun W (hB:Below wr.heap.size wr W)=>(⟨za0 hB c0,za0 hB c1,za0 hB c6,za0 hB d0,hB⟩:(fun W=>W.cell? ⟨w.heap.size,0,none⟩=some (.int .i64 y.h.pw)/\W.cell? ⟨w.heap.size,1,none⟩=some (.int .i64 y.h.np)/\W.cell? ⟨w.heap.size,6,none⟩=some (.slice (some ⟨bo,oo,none⟩) no co)/\W.cell? ⟨bo,oo+k,none⟩=some (.int .u64 A)/\Below wr.heap.size wr W) W))
    go_upto_region 4 with fail
    clear c0 c1 c6
    refine wp_region_held_drew (S:=fun W=>W.cell? ⟨w.heap.size,0,none⟩=some (.int .i64 y.h.pw)/\W.cell? ⟨w.heap.size,1,none⟩=some (.int .i64 y.h.np)/\W.cell? ⟨w.heap.size,6,none⟩=some (.slice (some ⟨bo,oo,none⟩) no co)/\W.cell? ⟨bo,oo+k,none⟩=some (.int .u64 A)/\Below wr.heap.size wr W) (by kernel_rfl) (hSof.out _ (Below.drew (Below.refl _ _))) (fun hHeld=>?_)
    refine draw_t 0 18 hHeld ?_
    refine draw_t 1 19 hHeld ?_
    refine draw_t 2 20 hHeld ?_
    refine draw_t 3 21 hHeld ?_
    refine draw_t 4 22 hHeld ?_
    refine draw_t 5 23 hHeld ?_
    refine draw_t 6 24 hHeld ?_
    refine draw_t 7 25 hHeld ?_
    refine rdy1 8 (fun K hK=>?_)
    go_simp
    (go_at_call 70;refine (hOf.out _ ((Below.refl _ _).drew)).mono ?_;rintro e w2 ⟨rfl,hbq⟩)
    go_wp2_with fail
    refine hK.out _ _ (hSof.out _ ((Below.refl _ _).drew.trans (by simpa using hbq))) (fun hHeld=>?_)
    clear hK K
    try go_frame
    refine draw_t 9 17 hHeld ?_
    refine draw_t 10 27 hHeld ?_
    refine draw_t 11 28 hHeld ?_
    refine draw_t 12 29 hHeld ?_
    refine draw_t 13 4 hHeld ?_
    refine draw_t 14 5 hHeld ?_
    refine draw_t 15 6 hHeld ?_
    refine wpAnyH_done (by kernel_rfl) ?_ _
    have hb2:Below wr.heap.size wr w2:=(Below.refl _ _).drew.trans (by simpa using hbq)
    clear hbq hOf hSof
    replace Ha:=qq (Ha.out.keep hb2 (Ha.out.lt rfl))
    replace Hb:=qq (Hb.out.keep hb2 (Hb.out.lt rfl))
    replace HB:=qq (za3 HB.out hb2)
    replace HR:=qq (HR.out.keep hb2)
    replace d0:=za0 hb2 d0
    clear hb2
    replace hwa:w.heap.size < w2.heap.size:=Ha.out.lt rfl
    replace hwb:w.heap.size+1 < w2.heap.size:=Hb.out.lt rfl
    have hPr:=qq (fun W (hB:Below w2.heap.size w2 W)=>zv3 y p2 q (some ⟨bo,oo,none⟩) pt pq n2 c2 m d no co nt ct nq cq I W (HR.out.keep hB).taken (HR.out.keep hB).pages)
    obtain ⟨PB,hPB⟩:∃ PB,Hid (zi2 y I=PB):=⟨_,rfl⟩
    rw [hPB.out] at hPr
    have c8:=Ha.out.cell 8 _ rfl
    have c6:=Ha.out.cell 6 _ rfl
    have hSof:=qq (fun W (hB:Below w2.heap.size w2 W)=>(⟨(Ha.out.keep hB hwa).range,za0 hB c8,za0 hB c6,za0 hB d0,hB⟩:(fun W=>W.rangeAt w.heap.size 0 [.int .i64 y.h.pw,.int .i64 y.h.np,.slice p2 n2 c2,.slice q m d,.int .i64 y.h.space,.int .i64 y.h.bump,.slice (some ⟨bo,oo,none⟩) no co,.slice pt nt ct,.slice pq nq cq,.int .i64 y.sc,.int .i64 y.r0,.int .i64 y.r1,.int .i64 y.r2,.int .i64 y.r3,.int .i64 y.r4,.int .i64 y.r5]/\W.cell? ⟨w.heap.size,8,none⟩=some (.slice pq nq cq)/\W.cell? ⟨w.heap.size,6,none⟩=some (.slice (some ⟨bo,oo,none⟩) no co)/\W.cell? ⟨bo,oo+k,none⟩=some (.int .u64 A)/\Below w2.heap.size w2 W) W))
    clear c8 c6
    go_upto_region 5 with fail
    obtain ⟨hud,hui⟩:=za8
    obtain ⟨dd,hdd,hdr⟩:=Option.map_eq_some_iff.1 hud
    cases PB
    · have HSAME:=qq (show zw9 x (k+1)=y from by rw [HNX.out];unfold zc5 fillB;rw [hI.out,hPB.out];rfl)
      refine wp_region_held_drew (S:=fun W=>W.rangeAt w.heap.size 0 [.int .i64 y.h.pw,.int .i64 y.h.np,.slice p2 n2 c2,.slice q m d,.int .i64 y.h.space,.int .i64 y.h.bump,.slice (some ⟨bo,oo,none⟩) no co,.slice pt nt ct,.slice pq nq cq,.int .i64 y.sc,.int .i64 y.r0,.int .i64 y.r1,.int .i64 y.r2,.int .i64 y.r3,.int .i64 y.r4,.int .i64 y.r5]/\W.cell? ⟨w.heap.size,8,none⟩=some (.slice pq nq cq)/\W.cell? ⟨w.heap.size,6,none⟩=some (.slice (some ⟨bo,oo,none⟩) no co)/\W.cell? ⟨bo,oo+k,none⟩=some (.int .u64 A)/\Below w2.heap.size w2 W) (by kernel_rfl) (hSof.out _ (Below.drew (Below.refl _ _))) (fun hHeld=>?_)
      refine wpAnyH_take (i:=0) (oi:=⟨some 30,.load 146 (.tmp 1),_,_,_,_⟩) (v:=_) rfl (by kernel_rfl) (by kernel_rfl) (by kernel_rfl) (fun _ _ _ h=>h) (yieldsIf_load_mid (by rfl) _ _ rfl w.heap.size 0 rfl [.int .i64 y.h.pw,.int .i64 y.h.np,.slice p2 n2 c2,.slice q m d,.int .i64 y.h.space,.int .i64 y.h.bump,.slice (some ⟨bo,oo,none⟩) no co,.slice pt nt ct,.slice pq nq cq,.int .i64 y.sc,.int .i64 y.r0,.int .i64 y.r1,.int .i64 y.r2,.int .i64 y.r3,.int .i64 y.r4,.int .i64 y.r5] dd (fun W h=>h.1) hdd hdr hui) hHeld ?_
      go_frame
      refine draw_t 1 31 hHeld ?_
      refine rdy1 2 (fun K hK=>?_)
      go_simp
      (go_at_call 141;refine (hPr.out _ ((Below.refl _ _).drew)).mono ?_;rintro e w3 ⟨rfl,hbq⟩)
      go_wp2_with fail
      refine hK.out _ _ (hSof.out _ ((Below.refl _ _).drew.trans (by simpa using hbq))) (fun hHeld=>?_)
      clear hK K
      try go_frame
      have hb3:Below w2.heap.size w2 w3:=(Below.refl _ _).drew.trans (by simpa using hbq)
      clear hbq
      refine draw_t 3 33 hHeld ?_
      refine draw_t 4 34 hHeld ?_
      refine draw_s 5 35 hHeld ?_
      refine draw_s 6 36 hHeld ?_
      refine draw_s 7 37 hHeld ?_
      refine draw_s 8 38 hHeld ?_
      refine draw_s 9 39 hHeld ?_
      refine draw_s 10 40 hHeld ?_
      refine draw_s 11 41 hHeld ?_
      refine draw_s 12 42 hHeld ?_
      refine draw_t 13 43 hHeld ?_
      refine wpAnyH_done (by kernel_rfl) ?_ _
      clear hud hui hdd hdr
      go_wp2
      go_roundw
      case rel=>exact ⟨k+1,y,p2,n2,c2,by go_num,by omega,HSAME.out.symm,Ha.out.keep hb3 hwa,Hb.out.keep hb3 hwb,za3 HB.out hb3,HR.out.keep hb3⟩
      case measure=>simp [intOf];omega
    · by_cases hmq:A∈y.queue
      · have HSAME:=qq (show zw9 x (k+1)=y from by rw [HNX.out];unfold zc5 fillB;rw [decide_eq_true hmq,hI.out,hPB.out];rfl)
        have hHs:=qq (fun W (hB:Below w2.heap.size w2 W)=>zf1 (b:=true) (decide_eq_true hmq) W (HR.out.keep hB).queue)
        clear hmq
        refine wp_region_held_drew (S:=fun W=>W.rangeAt w.heap.size 0 [.int .i64 y.h.pw,.int .i64 y.h.np,.slice p2 n2 c2,.slice q m d,.int .i64 y.h.space,.int .i64 y.h.bump,.slice (some ⟨bo,oo,none⟩) no co,.slice pt nt ct,.slice pq nq cq,.int .i64 y.sc,.int .i64 y.r0,.int .i64 y.r1,.int .i64 y.r2,.int .i64 y.r3,.int .i64 y.r4,.int .i64 y.r5]/\W.cell? ⟨w.heap.size,8,none⟩=some (.slice pq nq cq)/\W.cell? ⟨w.heap.size,6,none⟩=some (.slice (some ⟨bo,oo,none⟩) no co)/\W.cell? ⟨bo,oo+k,none⟩=some (.int .u64 A)/\Below w2.heap.size w2 W) (by kernel_rfl) (hSof.out _ (Below.drew (Below.refl _ _))) (fun hHeld=>?_)
        refine wpAnyH_take (i:=0) (oi:=⟨some 30,.load 146 (.tmp 1),_,_,_,_⟩) (v:=_) rfl (by kernel_rfl) (by kernel_rfl) (by kernel_rfl) (fun _ _ _ h=>h) (yieldsIf_load_mid (by rfl) _ _ rfl w.heap.size 0 rfl [.int .i64 y.h.pw,.int .i64 y.h.np,.slice p2 n2 c2,.slice q m d,.int .i64 y.h.space,.int .i64 y.h.bump,.slice (some ⟨bo,oo,none⟩) no co,.slice pt nt ct,.slice pq nq cq,.int .i64 y.sc,.int .i64 y.r0,.int .i64 y.r1,.int .i64 y.r2,.int .i64 y.r3,.int .i64 y.r4,.int .i64 y.r5] dd (fun W h=>h.1) hdd hdr hui) hHeld ?_
        go_frame
        refine draw_t 1 31 hHeld ?_
        refine rdy1 2 (fun K hK=>?_)
        go_simp
        (go_at_call 141;refine (hPr.out _ ((Below.refl _ _).drew)).mono ?_;rintro e w3 ⟨rfl,hbq⟩)
        go_wp2_with fail
        refine hK.out _ _ (hSof.out _ ((Below.refl _ _).drew.trans (by simpa using hbq))) (fun hHeld=>?_)
        clear hK K
        try go_frame
        have hb3:Below w2.heap.size w2 w3:=(Below.refl _ _).drew.trans (by simpa using hbq)
        clear hbq
        refine draw_t 3 33 hHeld ?_
        refine draw_t 4 34 hHeld ?_
        refine draw_t 5 35 hHeld ?_
        refine draw_t 6 36 hHeld ?_
        refine draw_t 7 37 hHeld ?_
        refine draw_t 8 38 hHeld ?_
        refine draw_t 9 39 hHeld ?_
        refine draw_t 10 40 hHeld ?_
        refine draw_t 11 41 hHeld ?_
        refine rdy1 12 (fun K hK=>?_)
        go_simp
        (go_at_call 137;refine (hHs.out _ hb3).mono ?_;rintro e w4 ⟨rfl,hbq⟩)
        go_wp2_with fail
        refine hK.out _ _ (hSof.out _ (za3 hb3 hbq)) (fun hHeld=>?_)
        clear hK K
        try go_frame
        have hb4:Below w2.heap.size w2 w4:=za3 hb3 hbq
        clear hbq hb3
        refine draw_t 13 43 hHeld ?_
        refine wpAnyH_done (by kernel_rfl) ?_ _
        clear hud hui hdd hdr
        go_wp2
        go_roundw
        case rel=>exact ⟨k+1,y,p2,n2,c2,by go_num,by omega,HSAME.out.symm,Ha.out.keep hb4 hwa,Hb.out.keep hb4 hwb,za3 HB.out hb4,HR.out.keep hb4⟩
        case measure=>simp [intOf];omega
      · have HFB:=qq (show fillB y A=true from by unfold fillB;rw [decide_eq_false hmq,hI.out,hPB.out];rfl)
        have hHs:=qq (fun W (hB:Below w2.heap.size w2 W)=>zf1 (b:=false) (decide_eq_false hmq) W (HR.out.keep hB).queue)
        clear hmq
        refine wp_region_held_drew (S:=fun W=>W.rangeAt w.heap.size 0 [.int .i64 y.h.pw,.int .i64 y.h.np,.slice p2 n2 c2,.slice q m d,.int .i64 y.h.space,.int .i64 y.h.bump,.slice (some ⟨bo,oo,none⟩) no co,.slice pt nt ct,.slice pq nq cq,.int .i64 y.sc,.int .i64 y.r0,.int .i64 y.r1,.int .i64 y.r2,.int .i64 y.r3,.int .i64 y.r4,.int .i64 y.r5]/\W.cell? ⟨w.heap.size,8,none⟩=some (.slice pq nq cq)/\W.cell? ⟨w.heap.size,6,none⟩=some (.slice (some ⟨bo,oo,none⟩) no co)/\W.cell? ⟨bo,oo+k,none⟩=some (.int .u64 A)/\Below w2.heap.size w2 W) (by kernel_rfl) (hSof.out _ (Below.drew (Below.refl _ _))) (fun hHeld=>?_)
        refine wpAnyH_take (i:=0) (oi:=⟨some 30,.load 146 (.tmp 1),_,_,_,_⟩) (v:=_) rfl (by kernel_rfl) (by kernel_rfl) (by kernel_rfl) (fun _ _ _ h=>h) (yieldsIf_load_mid (by rfl) _ _ rfl w.heap.size 0 rfl [.int .i64 y.h.pw,.int .i64 y.h.np,.slice p2 n2 c2,.slice q m d,.int .i64 y.h.space,.int .i64 y.h.bump,.slice (some ⟨bo,oo,none⟩) no co,.slice pt nt ct,.slice pq nq cq,.int .i64 y.sc,.int .i64 y.r0,.int .i64 y.r1,.int .i64 y.r2,.int .i64 y.r3,.int .i64 y.r4,.int .i64 y.r5] dd (fun W h=>h.1) hdd hdr hui) hHeld ?_
        go_frame
        refine draw_t 1 31 hHeld ?_
        refine rdy1 2 (fun K hK=>?_)
        go_simp
        (go_at_call 141;refine (hPr.out _ ((Below.refl _ _).drew)).mono ?_;rintro e w3 ⟨rfl,hbq⟩)
        go_wp2_with fail
        refine hK.out _ _ (hSof.out _ ((Below.refl _ _).drew.trans (by simpa using hbq))) (fun hHeld=>?_)
        clear hK K
        try go_frame
        have hb3:Below w2.heap.size w2 w3:=(Below.refl _ _).drew.trans (by simpa using hbq)
        clear hbq
        refine draw_t 3 33 hHeld ?_
        refine draw_t 4 34 hHeld ?_
        refine draw_t 5 35 hHeld ?_
        refine draw_t 6 36 hHeld ?_
        refine draw_t 7 37 hHeld ?_
        refine draw_t 8 38 hHeld ?_
        refine draw_t 9 39 hHeld ?_
        refine draw_t 10 40 hHeld ?_
        refine draw_t 11 41 hHeld ?_
        refine rdy1 12 (fun K hK=>?_)
        go_simp
        (go_at_call 137;refine (hHs.out _ hb3).mono ?_;rintro e w4 ⟨rfl,hbq⟩)
        go_wp2_with fail
        refine hK.out _ _ (hSof.out _ (za3 hb3 hbq)) (fun hHeld=>?_)
        clear hK K
        try go_frame
        have hb4:Below w2.heap.size w2 w4:=za3 hb3 hbq
        clear hbq hb3
        refine draw_t 13 43 hHeld ?_
        refine wpAnyH_done (by kernel_rfl) ?_ _
        clear hSof hPr hHs
        replace Ha:=qq (Ha.out.keep hb4 (Ha.out.lt rfl))
        replace Hb:=qq (Hb.out.keep hb4 (Hb.out.lt rfl))
        replace HB:=qq (za3 HB.out hb4)
        replace HR:=qq (HR.out.keep hb4)
        replace d0:=za0 hb4 d0
        clear hb4
        replace hwa:w.heap.size < w4.heap.size:=Ha.out.lt rfl
        replace hwb:w.heap.size+1 < w4.heap.size:=Hb.out.lt rfl
        obtain ⟨KD,hKD⟩:∃ K,(evH y A).k=K:=⟨_,rfl⟩
        obtain ⟨ND,hND⟩:∃ N,Hid ((evH y A).n=N):=⟨_,rfl⟩
        obtain ⟨MD,hMD⟩:∃ M,(evH y A).m=M:=⟨_,rfl⟩
        have hGt:=qq (fun W (hB:Below w4.heap.size w4 W)=>refGet10_any S2 y p2 q (some ⟨bo,oo,none⟩) pt pq n2 c2 m d no co nt ct nq cq A W (HR.out.keep hB) hn2 hA0 hA1)
        rw [hKD,hND.out,hMD] at hGt
        clear hKD hMD
        have c6:=Ha.out.cell 6 _ rfl
        have hSof:=qq (fun W (hB:Below w4.heap.size w4 W)=>(⟨(Ha.out.keep hB hwa).range,za0 hB c6,za0 hB d0,hB⟩:(fun W=>W.rangeAt w.heap.size 0 [.int .i64 y.h.pw,.int .i64 y.h.np,.slice p2 n2 c2,.slice q m d,.int .i64 y.h.space,.int .i64 y.h.bump,.slice (some ⟨bo,oo,none⟩) no co,.slice pt nt ct,.slice pq nq cq,.int .i64 y.sc,.int .i64 y.r0,.int .i64 y.r1,.int .i64 y.r2,.int .i64 y.r3,.int .i64 y.r4,.int .i64 y.r5]/\W.cell? ⟨w.heap.size,6,none⟩=some (.slice (some ⟨bo,oo,none⟩) no co)/\W.cell? ⟨bo,oo+k,none⟩=some (.int .u64 A)/\Below w4.heap.size w4 W) W))
        clear c6
        go_upto_region 6 with fail
        go_cut [7] (fun th wx=>∃ b:Nat,th = .pointer (some ⟨b,0,none⟩)/\Own3 wx b (.int .i64 KD) (.int .i64 ND) (.int .u32 MD)/\w4.heap.size<=b/\Below w4.heap.size w4 wx)
        case first =>
         refine wp_region_held_drew (S:=fun W=>W.rangeAt w.heap.size 0 [.int .i64 y.h.pw,.int .i64 y.h.np,.slice p2 n2 c2,.slice q m d,.int .i64 y.h.space,.int .i64 y.h.bump,.slice (some ⟨bo,oo,none⟩) no co,.slice pt nt ct,.slice pq nq cq,.int .i64 y.sc,.int .i64 y.r0,.int .i64 y.r1,.int .i64 y.r2,.int .i64 y.r3,.int .i64 y.r4,.int .i64 y.r5]/\W.cell? ⟨w.heap.size,6,none⟩=some (.slice (some ⟨bo,oo,none⟩) no co)/\W.cell? ⟨bo,oo+k,none⟩=some (.int .u64 A)/\Below w4.heap.size w4 W) (by kernel_rfl) (hSof.out _ (Below.drew (Below.refl _ _))) (fun hHeld=>?_)
         refine wpAnyH_take (i:=0) (oi:=⟨some 44,.load 146 (.tmp 1),_,_,_,_⟩) (v:=_) rfl (by kernel_rfl) (by kernel_rfl) (by kernel_rfl) (fun _ _ _ h=>h) (yieldsIf_load_mid (by rfl) _ _ rfl w.heap.size 0 rfl [.int .i64 y.h.pw,.int .i64 y.h.np,.slice p2 n2 c2,.slice q m d,.int .i64 y.h.space,.int .i64 y.h.bump,.slice (some ⟨bo,oo,none⟩) no co,.slice pt nt ct,.slice pq nq cq,.int .i64 y.sc,.int .i64 y.r0,.int .i64 y.r1,.int .i64 y.r2,.int .i64 y.r3,.int .i64 y.r4,.int .i64 y.r5] dd (fun W h=>h.1) hdd hdr hui) hHeld ?_
         go_frame
         refine draw_t 1 45 hHeld ?_
         refine draw_t 2 46 hHeld ?_
         refine draw_t 3 47 hHeld ?_
         refine draw_t 4 48 hHeld ?_
         refine draw_t 5 49 hHeld ?_
         refine rdy2 6 7 (fun K hK=>?_) (fun K hK=>?_)
         · go_simp
           (go_at_call 142;refine (hGt.out _ ((Below.refl _ _).drew)).mono ?_;rintro e w5 ⟨rfl,hbq⟩)
           have hb2:Below w4.heap.size w4 w5:=(Below.refl _ _).drew.trans (by simpa using hbq)
           go_wp2_with fail
           refine hK.out _ _ (hSof.out _ hb2) (fun hHeld=>?_)
           clear hK K
           try go_frame
           refine rdy1 7 (fun K hK=>?_)
           go_simp
           refine hK.out _ _ (hSof.out _ (za3 hb2 za1)) (fun hHeld=>?_)
           clear hK K
           try go_frame
           refine rdy1 8 (fun K hK=>?_)
           go_simp
           refine hK.out _ _ (hSof.out _ (za3 hb2 za1)) (fun hHeld=>?_)
           clear hK K
           try go_frame
           refine wpAnyH_done (by kernel_rfl) ?_ _
           go_wp2_with fail
           go_meet
           exact ⟨_,rfl,Own3.new _ _ _ _ _,hb2.size,za3 hb2 za1⟩
         · go_simp
           refine hK.out _ _ (hSof.out _ ((Below.refl _ _).drew.alloc (by simp) _)) (fun hHeld=>?_)
           clear hK K
           try go_frame
           refine rdy1 6 (fun K hK=>?_)
           go_simp
           (go_at_call 142;refine (hGt.out _ ((Below.refl _ _).drew.alloc (by simp) _)).mono ?_;rintro e w5 ⟨rfl,hbq⟩)
           have hb2:Below w4.heap.size w4 w5:=((Below.refl _ _).drew.alloc (by simp) _).trans (hbq.mono (by simp))
           have ho3:=(Own3.new w4.drew (.int .i64 0) (.int .i64 0) (.int .u32 0) 54).keep hbq
           simp only [World.size_drew] at ho3
           obtain ⟨g0,g1,g2,f0,f1,f2⟩:=ho3
           go_wp2_with fail
           refine hK.out _ _ (hSof.out _ hb2) (fun hHeld=>?_)
           clear hK K
           try go_frame
           refine rdy1 8 (fun K hK=>?_)
           go_simp
           refine hK.out _ _ (hSof.out _ (zb9 hb2 (by simp))) (fun hHeld=>?_)
           clear hK K
           try go_frame
           refine wpAnyH_done (by kernel_rfl) ?_ _
           go_wp2_with fail
           go_meet
           exact ⟨_,rfl,Own3.set3 ⟨g0,g1,g2,f0,f1,f2⟩ _ _ _,by simp,zb9 hb2 (by simp)⟩
        case rest =>
         obtain ⟨hb0,rfl,ho3,hb0l,hbc⟩:=hcut
         have hb0b:w.heap.size+1 < hb0:=by omega
         clear hGt hSof
         replace Ha:=qq (Ha.out.keep hbc (Ha.out.lt rfl))
         replace Hb:=qq (Hb.out.keep hbc (Hb.out.lt rfl))
         replace HB:=qq (za3 HB.out hbc)
         replace HR:=qq (HR.out.keep hbc)
         replace d0:=za0 hbc d0
         clear hbc
         replace hwa:w.heap.size < wc.heap.size:=Ha.out.lt rfl
         replace hwb:w.heap.size+1 < wc.heap.size:=Hb.out.lt rfl
         have HN0:=qq ho3.c1
         have hevn:=evH_n y A
         rw [hND.out] at hevn
         obtain ⟨NN,hNN⟩:∃ NN:Nat,ND=NN:=⟨ND.toNat,by omega⟩
         subst hNN
         have hEn:=zr9 0 (NN:Int) 0 wc (by decide) (by decide)
         obtain ⟨V,hV⟩:∃ V,Hid (encV 0 (NN:Int) 0=V):=⟨_,rfl⟩
         obtain ⟨VE,hVE⟩:∃ VE,encE 0 (NN:Int) 0=VE:=⟨_,rfl⟩
         have hVb:=encV_wb (NN:Int)
         rw [hV.out] at hVb
         rw [hV.out,hVE] at hEn
         clear hVE
         have n1c:=HN0.out
         have hNNl:NN < 4096:=by omega
         go_wp2_with fail
         refine hEn.mono ?_
         rintro e w6 ⟨rfl,hb6⟩
         have HN1:=qq (za0 hb6 n1c)
         clear hEn n1c HN0 ho3
         replace Ha:=qq (Ha.out.keep hb6 (Ha.out.lt rfl))
         replace Hb:=qq (Hb.out.keep hb6 (Hb.out.lt rfl))
         replace HB:=qq (za3 HB.out hb6)
         replace HR:=qq (HR.out.keep hb6)
         replace d0:=za0 hb6 d0
         clear hb6
         replace hwa:w.heap.size < w6.heap.size:=Ha.out.lt rfl
         replace hwb:w.heap.size+1 < w6.heap.size:=Hb.out.lt rfl
         have c2c:=Ha.out.cell 2 _ rfl
         have c6:=Ha.out.cell 6 _ rfl
         have hSof:=qq (fun W (hB:Below w6.heap.size w6 W)=>(⟨za0 hB c6,za0 hB d0,za0 hB HN1.out⟩:(fun W=>W.cell? ⟨w.heap.size,6,none⟩=some (.slice (some ⟨bo,oo,none⟩) no co)/\W.cell? ⟨bo,oo+k,none⟩=some (.int .u64 A)/\W.cell? ⟨hb0,1,none⟩=some (.int .i64 NN)) W))
         go_upto_region 8 with fail
         clear c6
         refine wp_region_held_drew (S:=fun W=>W.cell? ⟨w.heap.size,6,none⟩=some (.slice (some ⟨bo,oo,none⟩) no co)/\W.cell? ⟨bo,oo+k,none⟩=some (.int .u64 A)/\W.cell? ⟨hb0,1,none⟩=some (.int .i64 NN)) (by kernel_rfl) (hSof.out _ (Below.drew (Below.refl _ _))) (fun hHeld=>?_)
         refine draw_t 0 59 hHeld ?_
         refine draw_t 1 60 hHeld ?_
         refine draw_t 3 62 hHeld ?_
         refine draw_t 4 63 hHeld ?_
         refine draw_t 5 64 hHeld ?_
         refine draw_t 6 65 hHeld ?_
         refine draw_t 7 66 hHeld ?_
         refine draw_t 8 67 hHeld ?_
         refine draw_t 10 69 hHeld ?_
         refine draw_t 11 70 hHeld ?_
         refine rdy2 2 9 (fun K hK=>?_) (fun K hK=>?_)
         · have c2x:=c2c
           go_simp
           refine hK.out _ _ (hSof.out _ (Below.drew (Below.refl _ _))) (fun hHeld=>?_)
           clear hK K c2x
           try go_frame
           refine rdy1 9 (fun K hK=>?_)
           go_simp
           obtain ⟨w7,hw7⟩:∃ W,Hid ((World.alloc w6 (.cells #[.int .u64 V] 48)).drew=W):=⟨_,rfl⟩
           rw [hw7.out]
           have hb7:Below w6.heap.size w6 w7:=by rw [<-hw7.out];exact ((Below.refl _ _).alloc (Nat.le_refl _) _).drew
           have hown7:w7.ownsRow w6.heap.size 48 1 (.slice (some ⟨w6.heap.size,0,none⟩) 1 1) 1 [.int .u64 V]:=by rw [<-hw7.out];exact zb5 (own_one w6 48 (.int .u64 V)) (Below.drew (Below.refl _ _))
           refine hK.out _ _ (hSof.out _ hb7) (fun hHeld=>?_)
           clear hK K hw7
           try go_frame
           refine rdy1 12 (fun K hK=>?_)
           obtain ⟨i0,hin,hz0,hz1,hz2⟩:=info_parts zf2
           refine zp9 (by rfl) _ _ 24 3 (by rfl) w6.heap.size 48 i0 (.int .u64 0) 1 8 .i64 .i64 Tryz.underlying24 Tryz.underlying3 hin hz0 hz1 hz2 rfl (by decide) (.slice (some ⟨w6.heap.size,0,none⟩) 1 1) 1 [.int .u64 V] (by rfl) hown7 (by simp [Value.ownBlock]) NN (by rfl) (by rw [zr3];exact zq9 _ _) (by unfold maxLen;omega) (by omega) (by have:=hb7.size;omega) ?_
           intro gg cap w8 hown8 hgrow hat hlt8
           have hb8:Below w6.heap.size w6 w8:=hb7.grown hgrow hb7.size (fun j hj=>by simp [Value.ownBlock] at hj;omega)
           have hq8:SRow w8 .u64 (some ⟨gg,0,none⟩) (1+NN) cap (V :: List.replicate NN 0):=by
            rw [zr3] at hown8
            obtain ⟨q1,c1,e1,h1⟩:=SRow.of_own (kd:=.u64) (xs:=V :: List.replicate NN 0) (by simpa [zb2] using hown8)
            injection e1 with e2 e3 e4
            subst e2 e4
            exact h1
           clear hown8 hgrow hat hown7 hin hz0 hz1 hz2
           refine hK.out _ _ (hSof.out _ hb8) (fun hHeld=>?_)
           clear hK K
           try go_frame
           have hWr:=ya8 p2 (some ⟨gg,0,none⟩) n2 c2 (1+NN) cap y.h.words (V :: List.replicate NN 0) A w8 (HR.out.keep hb8).words hq8 hn2 (by omega) hA0 hA1
           obtain ⟨SV,hSV⟩:∃ SV,Hid (zc8 y.h.words A (V :: List.replicate NN 0)=SV):=⟨_,rfl⟩
           obtain ⟨SE,hSE⟩:∃ SE,zh4 y.h.words A (V :: List.replicate NN 0)=SE:=⟨_,rfl⟩
           rw [hSV.out,hSE] at hWr
           clear hSE
           refine rdy1 13 (fun K hK=>?_)
           go_simp
           (go_at_call 81;refine hWr.mono ?_;rintro e w9 ⟨⟨p4,n4,c4,rfl,hrow,hfr⟩,hbq⟩)
           go_wp2_with fail
           have hb9:Below w6.heap.size w6 w9:=za3 hb8 hbq
           have HFR:=qq (show SV≠[]->∀ ad,p4=some ad->¬S2 ad.block from fun hne ad e hs=>by have h1:=hfr hne ad e;have h2:=hsl _ hs;have h3:=hb8.size;omega)
           have HRW:=qq hrow
           clear hrow hfr hbq hb8 hq8 hWr
           refine hK.out _ _ (hSof.out _ hb9) (fun hHeld=>?_)
           clear hK K
           try go_frame
           refine draw_t 14 58 hHeld ?_
           refine draw_t 15 73 hHeld ?_
           refine draw_t 16 74 hHeld ?_
           refine draw_t 17 75 hHeld ?_
           refine draw_t 18 76 hHeld ?_
           have HN9:=qq (za0 hb9 HN1.out)
           replace Ha:=qq (Ha.out.keep hb9 (Ha.out.lt rfl))
           replace Hb:=qq (Hb.out.keep hb9 (Hb.out.lt rfl))
           replace HB:=qq (za3 HB.out hb9)
           replace HR:=qq (HR.out.keep hb9)
           replace d0:=za0 hb9 d0
           clear hb9
           replace hwa:w.heap.size < w9.heap.size:=Ha.out.lt rfl
           replace hwb:w.heap.size+1 < w9.heap.size:=Hb.out.lt rfl
           refine rdy1 19 (fun K hK=>?_)
           have c2c:=Ha.out.cell 2 _ rfl
           have f2c:=Ha.out.free 2
           go_simp
           clear c2c f2c
           obtain ⟨wx,hwx⟩:∃ W,Hid (w9.setCell ⟨w.heap.size,2,none⟩ (.slice p4 n4 c4)=W):=⟨_,rfl⟩
           rw [hwx.out]
           have hHbw:OwnL wx (w.heap.size+1) [.int .i64 0,.int .i64 0,.slice none 0 0,.slice none 0 0,.int .i64 0,.int .i64 0,.slice none 0 0,.slice none 0 0,.slice none 0 0,.int .i64 0,.int .i64 0,.int .i64 0,.int .i64 0,.int .i64 0,.int .i64 0,.int .i64 0]:=by rw [<-hwx.out];exact Hb.out.other ⟨w.heap.size,2,none⟩ (.slice p4 n4 c4) (by simp only;omega)
           have hHaw:OwnL wx w.heap.size [.int .i64 y.h.pw,.int .i64 y.h.np,.slice p4 n4 c4,.slice q m d,.int .i64 y.h.space,.int .i64 y.h.bump,.slice (some ⟨bo,oo,none⟩) no co,.slice pt nt ct,.slice pq nq cq,.int .i64 y.sc,.int .i64 y.r0,.int .i64 y.r1,.int .i64 y.r2,.int .i64 y.r3,.int .i64 y.r4,.int .i64 y.r5]:=by rw [<-hwx.out];exact Ha.out.set 2 (.slice p4 n4 c4) (by simp)
           have hHBw:Below w.heap.size w wx:=by rw [<-hwx.out];exact HB.out.setCell (p:=⟨w.heap.size,2,none⟩) (Nat.le_refl _) _
           have hnu:=zd1 y p2 q (some ⟨bo,oo,none⟩) pt pq n2 c2 m d no co nt ct nq cq
           have hRw:WR wx S2 y p2 q (some ⟨bo,oo,none⟩) pt pq n2 c2 m d no co nt ct nq cq:=by rw [<-hwx.out];exact zi6 HR.out Ha.out hnu hsa [.slice p4 n4 c4] 2 (by simp)
           have hSw:SRow wx .u64 p4 n4 c4 SV:=by rw [<-hwx.out];exact zc3 [.slice p4 n4 c4] 2 _ _ HRW.out Ha.out (fun j y _=>hnu j y) (by simp)
           have hdw:wx.cell? ⟨bo,oo+k,none⟩=some (.int .u64 A):=by
            rw [<-hwx.out,World.cell?_setCell_other _ _ _ _ (fun e=>?_)]
            · exact d0
            · have h1:=d0
              rw [<-e] at h1
              rw [Ha.out.cell 2 _ rfl] at h1
              cases h1
           have hnw:wx.cell? ⟨hb0,1,none⟩=some (.int .i64 NN):=by
            rw [<-hwx.out,World.cell?_setCell_other _ _ _ _ (fun e=>by simp only [Addr.mk.injEq] at e;omega)]
            exact HN9.out
           have h6w:=hHaw.cell 6 _ rfl
           have HSW:=qq hSw
           have HRX:=qq hRw
           have HAW:=qq hHaw
           have HBW:=qq hHbw
           have HBX:=qq hHBw
           refine hK.out _ _ ⟨h6w,hdw,hnw⟩ (fun hHeld=>?_)
           clear hK K hSw hRw hHaw hHbw hHBw hwx Ha Hb HB HR HRW hnu h6w hdw hnw d0 HN9 HN1 hwa hwb hSof
           try go_frame
           refine wpAnyH_done (by kernel_rfl) ?_ _
           have hwa:w.heap.size < wx.heap.size:=HAW.out.lt rfl
           have hwb:w.heap.size+1 < wx.heap.size:=HBW.out.lt rfl
           have c12:=HAW.out.cell 12 _ rfl
           have f12:=HAW.out.free 12
           go_upto_region 3 with fail
           clear c12 f12
           have HF:=qq (show zc5 y A={ y with h:={ y.h with words:=SV },r2:=wrap64 (y.r2+1) } from by
            have h1:fillL y A=V :: List.replicate NN 0:=by unfold fillL;rw [hND.out,hV.out,Int.toNat_natCast]
            unfold zc5;rw [if_pos HFB.out,h1,hSV.out])
           have HWBS:=qq (show WB SV from by
            rw [<-hSV.out]
            refine zt1 HRX.out.wb (fun v hv=>?_)
            rcases List.mem_cons.1 hv with h1 | h1
            · subst h1;exact hVb
            · have:=(List.mem_replicate.1 h1).2;omega)
           have HX:=qq (HRX.out.words_ (r:=wrap64 (y.r2+1)) HSW.out HWBS.out HFR.out)
           have hnu:=zd1 { y with h:={ y.h with words:=SV },r2:=y.r2 } p4 q (some ⟨bo,oo,none⟩) pt pq n4 c4 m d no co nt ct nq cq
           have HX2:=qq (zi6 HX.out HAW.out hnu hsa [.int .i64 (wrap64 (y.r2+1))] 12 (by simp))
           clear hnu HX hud hui hdd hdr
           go_wp2
           go_roundw
           case rel =>
            refine ⟨k+1,zc5 y A,p4,n4,c4,by go_num,by omega,HNX.out.symm,?_,HBW.out.other ⟨w.heap.size,12,none⟩ (.int .i64 (wrap64 (y.r2+1))) (by simp only;omega),HBX.out.setCell (p:=⟨w.heap.size,12,none⟩) (Nat.le_refl _) (.int .i64 (wrap64 (y.r2+1))),?_⟩
            · rw [HF.out];exact HAW.out.set 12 (.int .i64 (wrap64 (y.r2+1))) (by simp)
            · rw [HF.out];exact HX2.out
           case measure=>simp [intOf];omega
         · go_simp
           obtain ⟨w7,hw7⟩:∃ W,Hid ((World.alloc w6 (.cells #[.int .u64 V] 48)).drew=W):=⟨_,rfl⟩
           rw [hw7.out]
           have hb7:Below w6.heap.size w6 w7:=by rw [<-hw7.out];exact ((Below.refl _ _).alloc (Nat.le_refl _) _).drew
           have hown7:w7.ownsRow w6.heap.size 48 1 (.slice (some ⟨w6.heap.size,0,none⟩) 1 1) 1 [.int .u64 V]:=by rw [<-hw7.out];exact zb5 (own_one w6 48 (.int .u64 V)) (Below.drew (Below.refl _ _))
           refine hK.out _ _ (hSof.out _ hb7) (fun hHeld=>?_)
           clear hK K hw7
           try go_frame
           refine rdy2 2 12 (fun K hK=>?_) (fun K hK=>?_)
           · have c2x:=za0 hb7 c2c
             go_simp
             refine hK.out _ _ (hSof.out _ hb7) (fun hHeld=>?_)
             clear hK K c2x
             try go_frame
             refine rdy1 12 (fun K hK=>?_)
             obtain ⟨i0,hin,hz0,hz1,hz2⟩:=info_parts zf2
             refine zp9 (by rfl) _ _ 24 3 (by rfl) w6.heap.size 48 i0 (.int .u64 0) 1 8 .i64 .i64 Tryz.underlying24 Tryz.underlying3 hin hz0 hz1 hz2 rfl (by decide) (.slice (some ⟨w6.heap.size,0,none⟩) 1 1) 1 [.int .u64 V] (by rfl) hown7 (by simp [Value.ownBlock]) NN (by rfl) (by rw [zr3];exact zq9 _ _) (by unfold maxLen;omega) (by omega) (by have:=hb7.size;omega) ?_
             intro gg cap w8 hown8 hgrow hat hlt8
             have hb8:Below w6.heap.size w6 w8:=hb7.grown hgrow hb7.size (fun j hj=>by simp [Value.ownBlock] at hj;omega)
             have hq8:SRow w8 .u64 (some ⟨gg,0,none⟩) (1+NN) cap (V :: List.replicate NN 0):=by
              rw [zr3] at hown8
              obtain ⟨q1,c1,e1,h1⟩:=SRow.of_own (kd:=.u64) (xs:=V :: List.replicate NN 0) (by simpa [zb2] using hown8)
              injection e1 with e2 e3 e4
              subst e2 e4
              exact h1
             clear hown8 hgrow hat hown7 hin hz0 hz1 hz2
             refine hK.out _ _ (hSof.out _ hb8) (fun hHeld=>?_)
             clear hK K
             try go_frame
             have hWr:=ya8 p2 (some ⟨gg,0,none⟩) n2 c2 (1+NN) cap y.h.words (V :: List.replicate NN 0) A w8 (HR.out.keep hb8).words hq8 hn2 (by omega) hA0 hA1
             obtain ⟨SV,hSV⟩:∃ SV,Hid (zc8 y.h.words A (V :: List.replicate NN 0)=SV):=⟨_,rfl⟩
             obtain ⟨SE,hSE⟩:∃ SE,zh4 y.h.words A (V :: List.replicate NN 0)=SE:=⟨_,rfl⟩
             rw [hSV.out,hSE] at hWr
             clear hSE
             refine rdy1 13 (fun K hK=>?_)
             go_simp
             (go_at_call 81;refine hWr.mono ?_;rintro e w9 ⟨⟨p4,n4,c4,rfl,hrow,hfr⟩,hbq⟩)
             go_wp2_with fail
             have hb9:Below w6.heap.size w6 w9:=za3 hb8 hbq
             have HFR:=qq (show SV≠[]->∀ ad,p4=some ad->¬S2 ad.block from fun hne ad e hs=>by have h1:=hfr hne ad e;have h2:=hsl _ hs;have h3:=hb8.size;omega)
             have HRW:=qq hrow
             clear hrow hfr hbq hb8 hq8 hWr
             refine hK.out _ _ (hSof.out _ hb9) (fun hHeld=>?_)
             clear hK K
             try go_frame
             refine draw_t 14 58 hHeld ?_
             refine draw_t 15 73 hHeld ?_
             refine draw_t 16 74 hHeld ?_
             refine draw_t 17 75 hHeld ?_
             refine draw_t 18 76 hHeld ?_
             have HN9:=qq (za0 hb9 HN1.out)
             replace Ha:=qq (Ha.out.keep hb9 (Ha.out.lt rfl))
             replace Hb:=qq (Hb.out.keep hb9 (Hb.out.lt rfl))
             replace HB:=qq (za3 HB.out hb9)
             replace HR:=qq (HR.out.keep hb9)
             replace d0:=za0 hb9 d0
             clear hb9
             replace hwa:w.heap.size < w9.heap.size:=Ha.out.lt rfl
             replace hwb:w.heap.size+1 < w9.heap.size:=Hb.out.lt rfl
             refine rdy1 19 (fun K hK=>?_)
             have c2c:=Ha.out.cell 2 _ rfl
             have f2c:=Ha.out.free 2
             go_simp
             clear c2c f2c
             obtain ⟨wx,hwx⟩:∃ W,Hid (w9.setCell ⟨w.heap.size,2,none⟩ (.slice p4 n4 c4)=W):=⟨_,rfl⟩
             rw [hwx.out]
             have hHbw:OwnL wx (w.heap.size+1) [.int .i64 0,.int .i64 0,.slice none 0 0,.slice none 0 0,.int .i64 0,.int .i64 0,.slice none 0 0,.slice none 0 0,.slice none 0 0,.int .i64 0,.int .i64 0,.int .i64 0,.int .i64 0,.int .i64 0,.int .i64 0,.int .i64 0]:=by rw [<-hwx.out];exact Hb.out.other ⟨w.heap.size,2,none⟩ (.slice p4 n4 c4) (by simp only;omega)
             have hHaw:OwnL wx w.heap.size [.int .i64 y.h.pw,.int .i64 y.h.np,.slice p4 n4 c4,.slice q m d,.int .i64 y.h.space,.int .i64 y.h.bump,.slice (some ⟨bo,oo,none⟩) no co,.slice pt nt ct,.slice pq nq cq,.int .i64 y.sc,.int .i64 y.r0,.int .i64 y.r1,.int .i64 y.r2,.int .i64 y.r3,.int .i64 y.r4,.int .i64 y.r5]:=by rw [<-hwx.out];exact Ha.out.set 2 (.slice p4 n4 c4) (by simp)
             have hHBw:Below w.heap.size w wx:=by rw [<-hwx.out];exact HB.out.setCell (p:=⟨w.heap.size,2,none⟩) (Nat.le_refl _) _
             have hnu:=zd1 y p2 q (some ⟨bo,oo,none⟩) pt pq n2 c2 m d no co nt ct nq cq
             have hRw:WR wx S2 y p2 q (some ⟨bo,oo,none⟩) pt pq n2 c2 m d no co nt ct nq cq:=by rw [<-hwx.out];exact zi6 HR.out Ha.out hnu hsa [.slice p4 n4 c4] 2 (by simp)
             have hSw:SRow wx .u64 p4 n4 c4 SV:=by rw [<-hwx.out];exact zc3 [.slice p4 n4 c4] 2 _ _ HRW.out Ha.out (fun j y _=>hnu j y) (by simp)
             have hdw:wx.cell? ⟨bo,oo+k,none⟩=some (.int .u64 A):=by
              rw [<-hwx.out,World.cell?_setCell_other _ _ _ _ (fun e=>?_)]
              · exact d0
              · have h1:=d0
                rw [<-e] at h1
                rw [Ha.out.cell 2 _ rfl] at h1
                cases h1
             have hnw:wx.cell? ⟨hb0,1,none⟩=some (.int .i64 NN):=by
              rw [<-hwx.out,World.cell?_setCell_other _ _ _ _ (fun e=>by simp only [Addr.mk.injEq] at e;omega)]
              exact HN9.out
             have h6w:=hHaw.cell 6 _ rfl
             have HSW:=qq hSw
             have HRX:=qq hRw
             have HAW:=qq hHaw
             have HBW:=qq hHbw
             have HBX:=qq hHBw
             refine hK.out _ _ ⟨h6w,hdw,hnw⟩ (fun hHeld=>?_)
             clear hK K hSw hRw hHaw hHbw hHBw hwx Ha Hb HB HR HRW hnu h6w hdw hnw d0 HN9 HN1 hwa hwb hSof
             try go_frame
             refine wpAnyH_done (by kernel_rfl) ?_ _
             have hwa:w.heap.size < wx.heap.size:=HAW.out.lt rfl
             have hwb:w.heap.size+1 < wx.heap.size:=HBW.out.lt rfl
             have c12:=HAW.out.cell 12 _ rfl
             have f12:=HAW.out.free 12
             go_upto_region 3 with fail
             clear c12 f12
             have HF:=qq (show zc5 y A={ y with h:={ y.h with words:=SV },r2:=wrap64 (y.r2+1) } from by
              have h1:fillL y A=V :: List.replicate NN 0:=by unfold fillL;rw [hND.out,hV.out,Int.toNat_natCast]
              unfold zc5;rw [if_pos HFB.out,h1,hSV.out])
             have HWBS:=qq (show WB SV from by
              rw [<-hSV.out]
              refine zt1 HRX.out.wb (fun v hv=>?_)
              rcases List.mem_cons.1 hv with h1 | h1
              · subst h1;exact hVb
              · have:=(List.mem_replicate.1 h1).2;omega)
             have HX:=qq (HRX.out.words_ (r:=wrap64 (y.r2+1)) HSW.out HWBS.out HFR.out)
             have hnu:=zd1 { y with h:={ y.h with words:=SV },r2:=y.r2 } p4 q (some ⟨bo,oo,none⟩) pt pq n4 c4 m d no co nt ct nq cq
             have HX2:=qq (zi6 HX.out HAW.out hnu hsa [.int .i64 (wrap64 (y.r2+1))] 12 (by simp))
             clear hnu HX hud hui hdd hdr
             go_wp2
             go_roundw
             case rel =>
              refine ⟨k+1,zc5 y A,p4,n4,c4,by go_num,by omega,HNX.out.symm,?_,HBW.out.other ⟨w.heap.size,12,none⟩ (.int .i64 (wrap64 (y.r2+1))) (by simp only;omega),HBX.out.setCell (p:=⟨w.heap.size,12,none⟩) (Nat.le_refl _) (.int .i64 (wrap64 (y.r2+1))),?_⟩
              · rw [HF.out];exact HAW.out.set 12 (.int .i64 (wrap64 (y.r2+1))) (by simp)
              · rw [HF.out];exact HX2.out
             case measure=>simp [intOf];omega
           · obtain ⟨i0,hin,hz0,hz1,hz2⟩:=info_parts zf2
             refine zp9 (by rfl) _ _ 24 3 (by rfl) w6.heap.size 48 i0 (.int .u64 0) 1 8 .i64 .i64 Tryz.underlying24 Tryz.underlying3 hin hz0 hz1 hz2 rfl (by decide) (.slice (some ⟨w6.heap.size,0,none⟩) 1 1) 1 [.int .u64 V] (by rfl) hown7 (by simp [Value.ownBlock]) NN (by rfl) (by rw [zr3];exact zq9 _ _) (by unfold maxLen;omega) (by omega) (by have:=hb7.size;omega) ?_
             intro gg cap w8 hown8 hgrow hat hlt8
             have hb8:Below w6.heap.size w6 w8:=hb7.grown hgrow hb7.size (fun j hj=>by simp [Value.ownBlock] at hj;omega)
             have hq8:SRow w8 .u64 (some ⟨gg,0,none⟩) (1+NN) cap (V :: List.replicate NN 0):=by
              rw [zr3] at hown8
              obtain ⟨q1,c1,e1,h1⟩:=SRow.of_own (kd:=.u64) (xs:=V :: List.replicate NN 0) (by simpa [zb2] using hown8)
              injection e1 with e2 e3 e4
              subst e2 e4
              exact h1
             clear hown8 hgrow hat hown7 hin hz0 hz1 hz2
             refine hK.out _ _ (hSof.out _ hb8) (fun hHeld=>?_)
             clear hK K
             try go_frame
             refine rdy1 2 (fun K hK=>?_)
             have c2x:=za0 hb8 c2c
             go_simp
             refine hK.out _ _ (hSof.out _ hb8) (fun hHeld=>?_)
             clear hK K c2x
             try go_frame
             have hWr:=ya8 p2 (some ⟨gg,0,none⟩) n2 c2 (1+NN) cap y.h.words (V :: List.replicate NN 0) A w8 (HR.out.keep hb8).words hq8 hn2 (by omega) hA0 hA1
             obtain ⟨SV,hSV⟩:∃ SV,Hid (zc8 y.h.words A (V :: List.replicate NN 0)=SV):=⟨_,rfl⟩
             obtain ⟨SE,hSE⟩:∃ SE,zh4 y.h.words A (V :: List.replicate NN 0)=SE:=⟨_,rfl⟩
             rw [hSV.out,hSE] at hWr
             clear hSE
             refine rdy1 13 (fun K hK=>?_)
             go_simp
             (go_at_call 81;refine hWr.mono ?_;rintro e w9 ⟨⟨p4,n4,c4,rfl,hrow,hfr⟩,hbq⟩)
             go_wp2_with fail
             have hb9:Below w6.heap.size w6 w9:=za3 hb8 hbq
             have HFR:=qq (show SV≠[]->∀ ad,p4=some ad->¬S2 ad.block from fun hne ad e hs=>by have h1:=hfr hne ad e;have h2:=hsl _ hs;have h3:=hb8.size;omega)
             have HRW:=qq hrow
             clear hrow hfr hbq hb8 hq8 hWr
             refine hK.out _ _ (hSof.out _ hb9) (fun hHeld=>?_)
             clear hK K
             try go_frame
             refine draw_t 14 58 hHeld ?_
             refine draw_t 15 73 hHeld ?_
             refine draw_t 16 74 hHeld ?_
             refine draw_t 17 75 hHeld ?_
             refine draw_t 18 76 hHeld ?_
             have HN9:=qq (za0 hb9 HN1.out)
             replace Ha:=qq (Ha.out.keep hb9 (Ha.out.lt rfl))
             replace Hb:=qq (Hb.out.keep hb9 (Hb.out.lt rfl))
             replace HB:=qq (za3 HB.out hb9)
             replace HR:=qq (HR.out.keep hb9)
             replace d0:=za0 hb9 d0
             clear hb9
             replace hwa:w.heap.size < w9.heap.size:=Ha.out.lt rfl
             replace hwb:w.heap.size+1 < w9.heap.size:=Hb.out.lt rfl
             refine rdy1 19 (fun K hK=>?_)
             have c2c:=Ha.out.cell 2 _ rfl
             have f2c:=Ha.out.free 2
             go_simp
             clear c2c f2c
             obtain ⟨wx,hwx⟩:∃ W,Hid (w9.setCell ⟨w.heap.size,2,none⟩ (.slice p4 n4 c4)=W):=⟨_,rfl⟩
             rw [hwx.out]
             have hHbw:OwnL wx (w.heap.size+1) [.int .i64 0,.int .i64 0,.slice none 0 0,.slice none 0 0,.int .i64 0,.int .i64 0,.slice none 0 0,.slice none 0 0,.slice none 0 0,.int .i64 0,.int .i64 0,.int .i64 0,.int .i64 0,.int .i64 0,.int .i64 0,.int .i64 0]:=by rw [<-hwx.out];exact Hb.out.other ⟨w.heap.size,2,none⟩ (.slice p4 n4 c4) (by simp only;omega)
             have hHaw:OwnL wx w.heap.size [.int .i64 y.h.pw,.int .i64 y.h.np,.slice p4 n4 c4,.slice q m d,.int .i64 y.h.space,.int .i64 y.h.bump,.slice (some ⟨bo,oo,none⟩) no co,.slice pt nt ct,.slice pq nq cq,.int .i64 y.sc,.int .i64 y.r0,.int .i64 y.r1,.int .i64 y.r2,.int .i64 y.r3,.int .i64 y.r4,.int .i64 y.r5]:=by rw [<-hwx.out];exact Ha.out.set 2 (.slice p4 n4 c4) (by simp)
             have hHBw:Below w.heap.size w wx:=by rw [<-hwx.out];exact HB.out.setCell (p:=⟨w.heap.size,2,none⟩) (Nat.le_refl _) _
             have hnu:=zd1 y p2 q (some ⟨bo,oo,none⟩) pt pq n2 c2 m d no co nt ct nq cq
             have hRw:WR wx S2 y p2 q (some ⟨bo,oo,none⟩) pt pq n2 c2 m d no co nt ct nq cq:=by rw [<-hwx.out];exact zi6 HR.out Ha.out hnu hsa [.slice p4 n4 c4] 2 (by simp)
             have hSw:SRow wx .u64 p4 n4 c4 SV:=by rw [<-hwx.out];exact zc3 [.slice p4 n4 c4] 2 _ _ HRW.out Ha.out (fun j y _=>hnu j y) (by simp)
             have hdw:wx.cell? ⟨bo,oo+k,none⟩=some (.int .u64 A):=by
              rw [<-hwx.out,World.cell?_setCell_other _ _ _ _ (fun e=>?_)]
              · exact d0
              · have h1:=d0
                rw [<-e] at h1
                rw [Ha.out.cell 2 _ rfl] at h1
                cases h1
             have hnw:wx.cell? ⟨hb0,1,none⟩=some (.int .i64 NN):=by
              rw [<-hwx.out,World.cell?_setCell_other _ _ _ _ (fun e=>by simp only [Addr.mk.injEq] at e;omega)]
              exact HN9.out
             have h6w:=hHaw.cell 6 _ rfl
             have HSW:=qq hSw
             have HRX:=qq hRw
             have HAW:=qq hHaw
             have HBW:=qq hHbw
             have HBX:=qq hHBw
             refine hK.out _ _ ⟨h6w,hdw,hnw⟩ (fun hHeld=>?_)
             clear hK K hSw hRw hHaw hHbw hHBw hwx Ha Hb HB HR HRW hnu h6w hdw hnw d0 HN9 HN1 hwa hwb hSof
             try go_frame
             refine wpAnyH_done (by kernel_rfl) ?_ _
             have hwa:w.heap.size < wx.heap.size:=HAW.out.lt rfl
             have hwb:w.heap.size+1 < wx.heap.size:=HBW.out.lt rfl
             have c12:=HAW.out.cell 12 _ rfl
             have f12:=HAW.out.free 12
             go_upto_region 3 with fail
             clear c12 f12
             have HF:=qq (show zc5 y A={ y with h:={ y.h with words:=SV },r2:=wrap64 (y.r2+1) } from by
              have h1:fillL y A=V :: List.replicate NN 0:=by unfold fillL;rw [hND.out,hV.out,Int.toNat_natCast]
              unfold zc5;rw [if_pos HFB.out,h1,hSV.out])
             have HWBS:=qq (show WB SV from by
              rw [<-hSV.out]
              refine zt1 HRX.out.wb (fun v hv=>?_)
              rcases List.mem_cons.1 hv with h1 | h1
              · subst h1;exact hVb
              · have:=(List.mem_replicate.1 h1).2;omega)
             have HX:=qq (HRX.out.words_ (r:=wrap64 (y.r2+1)) HSW.out HWBS.out HFR.out)
             have hnu:=zd1 { y with h:={ y.h with words:=SV },r2:=y.r2 } p4 q (some ⟨bo,oo,none⟩) pt pq n4 c4 m d no co nt ct nq cq
             have HX2:=qq (zi6 HX.out HAW.out hnu hsa [.int .i64 (wrap64 (y.r2+1))] 12 (by simp))
             clear hnu HX hud hui hdd hdr
             go_wp2
             go_roundw
             case rel =>
              refine ⟨k+1,zc5 y A,p4,n4,c4,by go_num,by omega,HNX.out.symm,?_,HBW.out.other ⟨w.heap.size,12,none⟩ (.int .i64 (wrap64 (y.r2+1))) (by simp only;omega),HBX.out.setCell (p:=⟨w.heap.size,12,none⟩) (Nat.le_refl _) (.int .i64 (wrap64 (y.r2+1))),?_⟩
              · rw [HF.out];exact HAW.out.set 12 (.int .i64 (wrap64 (y.r2+1))) (by simp)
              · rw [HF.out];exact HX2.out
             case measure=>simp [intOf];omega
  · obtain rfl:k=no:=by omega
    have hge:¬(k:Int) < k:=by omega
    have c6:=Ha.out.cell 6 _ rfl
    go_upto_region 10 with fail
    clear c6
    go_wp2_with (first | ((with_reducible show wpList _ _ _ _ _ _);refine za7 (op:=⟨some 83,.load 146 _,_,_,_,_⟩) rfl _ _ rfl _ rfl _ Ha.out za8 ?_) | ((with_reducible show wpList _ _ _ _ _ _);refine za6 (op:=⟨none,.store 146 _ _,_,_,_,_⟩) rfl _ _ _ rfl _ ?hx1 [.int .i64 y.h.pw,.int .i64 y.h.np,.slice p2 n2 c2,.slice q m d,.int .i64 y.h.space,.int .i64 y.h.bump,.slice po k co,.slice pt nt ct,.slice pq nq cq,.int .i64 y.sc,.int .i64 y.r0,.int .i64 y.r1,.int .i64 y.r2,.int .i64 y.r3,.int .i64 y.r4,.int .i64 y.r5] _ ?hy1 Hb.out rfl rfl za8 ?_))
    (try (case hx1=>rfl))
    (try (case hy1=>rfl))
    intro w8 ho hbt hst
    have HZ:=qq ho
    have HXB:=qq (HB.out.trans (hbt.low (by omega) (by omega)))
    have HPX:=qq ((HR.out.stored hsb Hb.out zm2 (by simp) hst).mono hs2)
    clear ho hbt hst
    go_wp2
    refine bodyPost_ret (zc9 rfl rfl HZ.out za8) rfl ?_
    have hfw:zh8 x=y:=by
     rw [HY.out];unfold zh8 zw9;rw [List.take_of_length_le (by omega)]
    rw [hfw]
    exact ⟨⟨_,rfl,p2,q,po,pt,pq,n2,c2,m,d,k,co,nt,ct,nq,cq,rfl,HPX.out⟩,HXB.out⟩
end Go.Proofs.YtipjdbhocjpmdaaGreat
