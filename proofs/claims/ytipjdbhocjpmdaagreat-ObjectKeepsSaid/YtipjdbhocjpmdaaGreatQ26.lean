import Derived.Test.YtipjdbhocjpmdaaGreatQ01
import Derived.Test.YtipjdbhocjpmdaaGreatQ05
import Derived.Test.YtipjdbhocjpmdaaGreatQ13
import Derived.Test.YtipjdbhocjpmdaaGreatQ19
import Derived.Test.YtipjdbhocjpmdaaGreatQ24
import Derived.Test.YtipjdbhocjpmdaaGreatQ25
set_option linter.unusedSimpArgs false
set_option linter.unusedVariables false
set_option maxRecDepth 100000
set_option maxHeartbeats 12800000
namespace Go.Proofs.YtipjdbhocjpmdaaGreat
open Go.RowKit
theorem large_spec {h:Hp} {n k:Int} (h1:okH h=true) (hk:zb6 h.pw h.np n=k) (hok:zn9 h k=true) :
 ∃ j kk:Nat,zc7 h.pages k=j/\k=kk/\1<=kk/\j+kk<=h.pages.length/\zh7 h.pages j kk=true/\(∀ t:Nat,j<=t->t < j+kk->∃ x,h.pages[t]?=some x/\x.kind=0) /\
  zl0 h.pw h.np h.pages (zc7 h.pages k) h.space n=(put h.pages j kk ⟨3,h.space,0,0⟩).set j ⟨2,h.space,n,0⟩/\zo4 h.pw h.np h.pages (zc7 h.pages k) h.space n=0:=by
 obtain ⟨g1,g2,g3,g4,g5,g6,g7⟩:=zc2 h1
 have hd:=of_decide_eq_true hok
 have hF:0<=zc7 h.pages k:=by omega
 obtain ⟨f0,f1,f2⟩:=zu3 hF
 obtain ⟨j,hj⟩:=Int.eq_ofNat_of_zero_le hF
 obtain ⟨kk,hkk⟩:=Int.eq_ofNat_of_zero_le (show 0<=k by omega)
 have hfr:∀ t:Nat,j<=t->t < j+kk->∃ x,h.pages[t]?=some x/\x.kind=0:=fun t a b=>f2 t (by omega) (by omega)
 have hfree:∀ z:Nat,z<=kk->zh7 h.pages j z=true:=by
  intro z
  induction z with
  | zero=>intro _;exact zu0 _ _
  | succ z ih =>
   intro hz
   obtain ⟨x,hx,hx0⟩:=hfr (j+z) (by omega) (by omega)
   rw [zr5 hx,ih (by omega),hx0];rfl
 obtain ⟨t1,t2⟩:=zx6 (x:=⟨2,h.space,n,0⟩) (y:=⟨3,h.space,0,0⟩) (show j < h.pages.length by omega) (show j+kk<=h.pages.length by omega) (hfree kk (Nat.le_refl _))
 refine ⟨j,kk,hj,hkk,by omega,by omega,hfree kk (Nat.le_refl _),hfr,?_,?_⟩
 · unfold zl0;rw [hk,if_pos ⟨by omega,g4,g5⟩,hj,hkk];exact t1
 · unfold zo4;rw [hk,if_pos ⟨by omega,g4,g5⟩,hj,hkk];exact t2
theorem needV_le2 (pw np n:Int):zb6 pw np n<=4:=by
 unfold zb6 zl2
 repeat' split
 all_goals omega
theorem needV_ge (pw np n:Int) : -1<=zb6 pw np n:=by
 unfold zb6 zl2
 repeat' split
 all_goals omega
theorem keep4b {w0 w w':World} {a b c:Addr} {va vb vc:Value} (h:w.cell? a=some va/\w.cell? b=some vb/\w.cell? c=some vc/\Below w0.heap.size w0 w) (hb:Below w.heap.size w w') :
 w'.cell? a=some va/\w'.cell? b=some vb/\w'.cell? c=some vc/\Below w0.heap.size w0 w':=⟨za0 hb h.1,za0 hb h.2.1,za0 hb h.2.2.1,za3 h.2.2.2 hb⟩
theorem refLarge7_val {u:Value} {h:Hp} (nn kk:Int) (w:World) (hu:HV w u h) (h1:okH h=true) (hk:zb6 h.pw h.np nn=kk) :
 Calls Tryz.prog 122 #[u,.int .i64 nn,.int .i64 kk] w fun e w'=>RetK w.heap.size (zn9 h kk) (largeH h nn kk) (zt4 h kk) e w'/\Below w.heap.size w w':=by
 obtain ⟨p,n,c,q,m,d,rfl,hs,hr,hwb⟩:=hu
 have hb0:Below w.heap.size w ((w.alloc (.cells #[.int .i64 h.pw,.int .i64 h.np,.slice p n c,.slice q m d,.int .i64 h.space,.int .i64 h.bump] 27)).alloc (.cells #[.int .i64 0,.int .i64 0,.slice none 0 0,.slice none 0 0,.int .i64 0,.int .i64 0] 27)):=za3 za1 za1
 have Hs:=qq (fun w' (hb:Below w.heap.size w w')=>hs.keep hb)
 have Hr:=qq (fun w' (hb:Below w.heap.size w w')=>hr.keep hb)
 have Hm:=qq hr.len
 obtain ⟨g1,-,g3,-⟩:=zc2 h1
 obtain ⟨k1,k2,-,k4,k5⟩:=zb1 g1
 have hm64:m<=64:=by have:=hr.len;omega
 have hm8:8<=m:=by have:=hr.len;omega
 have hk4:kk<=4:=by rw [<-hk];exact needV_le2 _ _ _
 have hk0 : -1<=kk:=by rw [<-hk];exact needV_ge _ _ _
 have Ha:=qq ((show OwnL (w.alloc (.cells #[.int .i64 h.pw,.int .i64 h.np,.slice p n c,.slice q m d,.int .i64 h.space,.int .i64 h.bump] 27)) w.heap.size [.int .i64 h.pw,.int .i64 h.np,.slice p n c,.slice q m d,.int .i64 h.space,.int .i64 h.bump] from OwnL.new _ _ _).keep (za1 (o:=(.cells #[.int .i64 0,.int .i64 0,.slice none 0 0,.slice none 0 0,.int .i64 0,.int .i64 0] 27))) (by simp))
 have Hb:=qq (show OwnL ((w.alloc (.cells #[.int .i64 h.pw,.int .i64 h.np,.slice p n c,.slice q m d,.int .i64 h.space,.int .i64 h.bump] 27)).alloc (.cells #[.int .i64 0,.int .i64 0,.slice none 0 0,.slice none 0 0,.int .i64 0,.int .i64 0] 27)) (w.heap.size+1) [.int .i64 0,.int .i64 0,.slice none 0 0,.slice none 0 0,.int .i64 0,.int .i64 0] from by
  have:=OwnL.new (w.alloc (.cells #[.int .i64 h.pw,.int .i64 h.np,.slice p n c,.slice q m d,.int .i64 h.space,.int .i64 h.bump] 27)) [.int .i64 0,.int .i64 0,.slice none 0 0,.slice none 0 0,.int .i64 0,.int .i64 0] 27
  simpa using this)
 have HB:=qq hb0
 have hfs:=qq (fun w' (hb:Below w.heap.size w w')=>yb4 q m d h.pages kk w' (hr.keep hb) (by omega))
 have hiu:=qq (fun w' (hb:Below w.heap.size w w')=>refInUse_any q m d h.pages w' (hr.keep hb))
 have hlm:=qq (fun w=>refLimit_any h.pw h.np w)
 obtain ⟨LV,hLV⟩:∃ LV,Hid (zq3 h.pw h.np=LV):=⟨_,rfl⟩
 have hul:=inUse_le h.pages
 obtain ⟨U,hU⟩:∃ U,Hid (ze6 h.pages=U):=⟨_,rfl⟩
 have hUm:U<=64:=by have:=Hm.out;have:=hU.out;omega
 rw [hLV.out] at hlm
 rw [hU.out] at hiu
 obtain ⟨F,hF⟩:∃ F,Hid (zc7 h.pages kk=F):=⟨_,rfl⟩
 have hF9:F<=64:=by
  have hx:=hF.out
  by_cases hn:0<=F
  · have:=zu3 (ps:=h.pages) (k:=kk) (by omega);have:=Hm.out;omega
  · omega
 rw [hF.out] at hfs
 have hOK:=qq (show zn9 h kk=decide (¬(F < 0\/LV < U+kk)) from by unfold zn9;rw [hF.out,hLV.out,hU.out])
 have hlg:=qq (fun w' (hb:Below w.heap.size w w')=>refLargeP_any h.pw h.np q m d h.pages F h.space nn w' (hr.keep hb) (by omega))
 have ha4:w.heap.size < ((w.alloc (.cells #[.int .i64 h.pw,.int .i64 h.np,.slice p n c,.slice q m d,.int .i64 h.space,.int .i64 h.bump] 27)).alloc (.cells #[.int .i64 0,.int .i64 0,.slice none 0 0,.slice none 0 0,.int .i64 0,.int .i64 0] 27)).heap.size:=by simp;omega
 have ha5:w.heap.size+1 < ((w.alloc (.cells #[.int .i64 h.pw,.int .i64 h.np,.slice p n c,.slice q m d,.int .i64 h.space,.int .i64 h.bump] 27)).alloc (.cells #[.int .i64 0,.int .i64 0,.slice none 0 0,.slice none 0 0,.int .i64 0,.int .i64 0] 27)).heap.size:=by simp
 clear hs hr hb0 g1 g3 hul
 have c0:=Ha.out.cell 0 _ rfl
 have c1:=Ha.out.cell 1 _ rfl
 have c2:=Ha.out.cell 2 _ rfl
 have c3:=Ha.out.cell 3 _ rfl
 have c4:=Ha.out.cell 4 _ rfl
 have c5:=Ha.out.cell 5 _ rfl
 go_enter Tryz.func122,Tryz.ntmps122
 go_wp2_with fail
 refine (hfs.out _ HB.out).mono ?_
 rintro e w1 ⟨rfl,hb1⟩
 have Ha:=qq (Ha.out.keep hb1 ha4)
 have Hb:=qq (Hb.out.keep hb1 ha5)
 have HB:=qq (za3 HB.out hb1)
 have hb4:w.heap.size < w1.heap.size:=Ha.out.lt rfl
 have hb5:w.heap.size+1 < w1.heap.size:=Hb.out.lt rfl
 clear hb1 hfs c0 c1 c2 c3 c4 c5 ha4 ha5
 have c0:=Ha.out.cell 0 _ rfl
 have c1:=Ha.out.cell 1 _ rfl
 have c2:=Ha.out.cell 2 _ rfl
 have c3:=Ha.out.cell 3 _ rfl
 have c4:=Ha.out.cell 4 _ rfl
 have c5:=Ha.out.cell 5 _ rfl
 by_cases hF0:F < 0
 · have E3:=qq (show zn9 h kk=false from by rw [hOK.out];exact decide_eq_false (fun a=>a (Or.inl hF0)))
   go_wp2_with fail
   refine wp_region_held_drew (S:=fun w'=>Below w.heap.size w w') (by kernel_rfl) (HB.out.drew) (fun hHeld=>?_)
   refine draw_t 0 14 hHeld ?_
   refine draw_t 1 15 hHeld ?_
   refine draw_t 2 16 hHeld ?_
   refine draw_s 3 17 hHeld ?_
   refine draw_s 4 18 hHeld ?_
   refine draw_s 5 19 hHeld ?_
   refine draw_s 6 20 hHeld ?_
   refine draw_s 7 21 hHeld ?_
   refine draw_s 8 22 hHeld ?_
   refine draw_s 9 23 hHeld ?_
   refine draw_s 10 24 hHeld ?_
   refine draw_s 11 25 hHeld ?_
   refine draw_t 12 26 hHeld ?_
   refine wpAnyH_done (by kernel_rfl) ?_ _
   clear hHeld
   have z0:=Hb.out.cell 0 _ rfl
   have z1:=Hb.out.cell 1 _ rfl
   have z2:=Hb.out.cell 2 _ rfl
   have z3:=Hb.out.cell 3 _ rfl
   have z4:=Hb.out.cell 4 _ rfl
   have z5:=Hb.out.cell 5 _ rfl
   have y0:=Hb.out.free 0
   have y1:=Hb.out.free 1
   have y2:=Hb.out.free 2
   have y3:=Hb.out.free 3
   have y4:=Hb.out.free 4
   have y5:=Hb.out.free 5
   go_wp2
   refine bodyPost_ret (v:=.tuple #[.agg #[.int .i64 0,.int .i64 0,.slice none 0 0,.slice none 0 0,.int .i64 0,.int .i64 0],.int .u64 0,.bool false]) (by simp [results,Tryz.results122,go_sem,z0,z1,z2,z3,z4,z5]) rfl ?_
   rw [E3.out]
   exact ⟨⟨_,rfl,HVF.zero _ _⟩,(zd2 HB.out (by omega)).drew⟩
 · have hFn:0<=F:=by omega
   have hdF:decide (F < 0)=false:=decide_eq_false hF0
   have ewr:IntKind.i64.wrap ((U:Int)+kk)=U+kk:=IntWalk.i64_in _ (by omega)
   go_wp2_with fail
   go_region_held3 (fun w'=>w'.cell? ⟨w.heap.size,0,none⟩=some (.int .i64 h.pw)/\w'.cell? ⟨w.heap.size,1,none⟩=some (.int .i64 h.np)/\w'.cell? ⟨w.heap.size,3,none⟩=some (.slice q m d)/\Below w1.heap.size w1 w')
    (first | assumption | exact ⟨c0,c1,c3,Below.drew (Below.refl _ _)⟩ | (exact keep4b ‹_› (Below.drew (Below.refl _ _))) | (exact keep4b ‹_› hbq))
    (first
     | (go_at_call 131;refine (hiu.out _ (za3 HB.out (And.right (And.right (And.right ‹_›))))).mono ?_;rintro e w' ⟨rfl,rfl⟩)
     | (go_at_call 130;refine (hlm.out _).mono ?_;rintro e w' ⟨rfl,hbq⟩))
   rename_i hH
   obtain ⟨c0,c1,c3,hb2⟩:=hH
   have Ha:=qq (Ha.out.keep hb2 hb4)
   have Hb:=qq (Hb.out.keep hb2 hb5)
   have HB:=qq (za3 HB.out hb2)
   have hd4:w.heap.size < w'.heap.size:=Ha.out.lt rfl
   have hd5:w.heap.size+1 < w'.heap.size:=Hb.out.lt rfl
   clear hb2 hiu hlm ewr c0 c1 c2 c3 c4 c5 hb4 hb5
   by_cases hful:LV < (U:Int)+kk
   · have E3:=qq (show zn9 h kk=false from by rw [hOK.out];exact decide_eq_false (fun a=>a (Or.inr hful)))
     have z0:=Hb.out.cell 0 _ rfl
     have z1:=Hb.out.cell 1 _ rfl
     have z2:=Hb.out.cell 2 _ rfl
     have z3:=Hb.out.cell 3 _ rfl
     have z4:=Hb.out.cell 4 _ rfl
     have z5:=Hb.out.cell 5 _ rfl
     have y0:=Hb.out.free 0
     have y1:=Hb.out.free 1
     have y2:=Hb.out.free 2
     have y3:=Hb.out.free 3
     have y4:=Hb.out.free 4
     have y5:=Hb.out.free 5
     go_wp2
     refine bodyPost_ret (v:=.tuple #[.agg #[.int .i64 0,.int .i64 0,.slice none 0 0,.slice none 0 0,.int .i64 0,.int .i64 0],.int .u64 0,.bool false]) (by simp [results,Tryz.results122,go_sem,z0,z1,z2,z3,z4,z5]) rfl ?_
     rw [E3.out]
     exact ⟨⟨_,rfl,HVF.zero _ _⟩,zd2 HB.out (by omega)⟩
   · have E3:=qq (show zn9 h kk=true from by rw [hOK.out];exact decide_eq_true (fun a=>a.elim (fun a=>by omega) hful))
     have hful2:(U:Int)+kk<=LV:=by omega
     obtain ⟨j,k9,s1,s2,s3,s4,s5,s6,s7,s8⟩:=large_spec h1 hk E3.out
     have hFj:F=j:=by rw [<-hF.out];exact s1
     rw [hF.out] at s7
     have hpl:(zl0 h.pw h.np h.pages F h.space nn).length=m:=by rw [s7,List.length_set,zw1 s4];exact Hm.out
     have eH:=qq (show largeH h nn kk={ h with pages:=zl0 h.pw h.np h.pages F h.space nn } from by unfold largeH;rw [hF.out])
     have eA:=qq (show zt4 h kk=4096+F*h.pw from by unfold zt4;rw [hF.out])
     generalize zo4 h.pw h.np h.pages F h.space nn=LE at hlg
     generalize zl0 h.pw h.np h.pages F h.space nn=PS at hlg hpl eH
     have Hpl:=qq hpl
     obtain ⟨FP,hFP⟩:∃ FP,F*h.pw=FP:=⟨_,rfl⟩
     have hP0:0<=FP:=by rw [<-hFP];exact Int.mul_nonneg hFn (by omega)
     have hP1:FP<=64*64:=by rw [<-hFP];exact Int.mul_le_mul hF9 k2 (by omega) (by omega)
     have HFP:=qq hFP
     clear hFP s1 s2 s3 s4 s5 s6 s7 s8 hpl hful hF0 hFj
     have c0:=Ha.out.cell 0 _ rfl
     have c1:=Ha.out.cell 1 _ rfl
     have c2:=Ha.out.cell 2 _ rfl
     have c3:=Ha.out.cell 3 _ rfl
     have c4:=Ha.out.cell 4 _ rfl
     have c5:=Ha.out.cell 5 _ rfl
     go_wp2_with fail
     refine (hlg.out _ HB.out).mono ?_
     rintro e w7 ⟨⟨q7,m7,c7,rfl,hown7⟩,hb7⟩
     have hm7:m=m7:=by have:=hown7.1;rw [zr0,Hpl.out] at this;omega
     subst hm7
     obtain ⟨g7,c7',hv7,hg7,hgl7⟩:=World.ownsRow.form hown7 (by omega)
     injection hv7 with v1 v2 v3
     subst v1 v3
     have Ha:=qq (Ha.out.keep hb7 hd4)
     have Hb:=qq (Hb.out.keep hb7 hd5)
     have HB:=qq (za3 HB.out hb7)
     have Hown7:=qq hown7
     have hb3f:=Ha.out.free 3
     clear hb7 hlg c0 c1 c2 c3 c4 c5 v2 hown7
     have c0:=Ha.out.cell 0 _ rfl
     have c1:=Ha.out.cell 1 _ rfl
     have c2:=Ha.out.cell 2 _ rfl
     have c3:=Ha.out.cell 3 _ rfl
     have c4:=Ha.out.cell 4 _ rfl
     have c5:=Ha.out.cell 5 _ rfl
     have Ha9:=qq (show OwnL (w7.setCell ⟨w.heap.size,3,none⟩ (.slice (some ⟨g7,0,none⟩) m c7)) w.heap.size [.int .i64 h.pw,.int .i64 h.np,.slice p n c,.slice (some ⟨g7,0,none⟩) m c7,.int .i64 h.space,.int .i64 h.bump] from Ha.out.set 3 (.slice (some ⟨g7,0,none⟩) m c7) (by simp))
     have Hb9:=qq (Hb.out.other ⟨w.heap.size,3,none⟩ (.slice (some ⟨g7,0,none⟩) m c7) (by simp))
     have Hown9:=qq (zd0 Hown7.out ⟨w.heap.size,3,none⟩ (.slice (some ⟨g7,0,none⟩) m c7) (by simp only;omega))
     have HB9:=qq (HB.out.setCell (p:=⟨w.heap.size,3,none⟩) (Nat.le_refl _) (.slice (some ⟨g7,0,none⟩) m c7))
     have e1:IntKind.i64.wrap (F*h.pw)=FP:=by rw [HFP.out];exact IntWalk.i64_in _ (by omega)
     have e2:IntKind.i64.wrap (4096+FP)=4096+FP:=IntWalk.i64_in _ (by omega)
     have z0:=Hb.out.cell 0 _ rfl
     have z1:=Hb.out.cell 1 _ rfl
     have z2:=Hb.out.cell 2 _ rfl
     have z3:=Hb.out.cell 3 _ rfl
     have z4:=Hb.out.cell 4 _ rfl
     have z5:=Hb.out.cell 5 _ rfl
     have y0:=Hb.out.free 0
     have y1:=Hb.out.free 1
     have y2:=Hb.out.free 2
     have y3:=Hb.out.free 3
     have y4:=Hb.out.free 4
     have y5:=Hb.out.free 5
     go_wp2
     generalize hW:World.setCell w7 ⟨w.heap.size,3,none⟩ _=W at Ha9 Hb9 Hown9 HB9 ⊢
     clear hW z0 z1 z2 z3 z4 z5 y0 y1 y2 y3 y4 y5 c0 c1 c2 c3 c4 c5 Ha Hb
     have c0:=Ha9.out.cell 0 _ rfl
     have c1:=Ha9.out.cell 1 _ rfl
     have c2:=Ha9.out.cell 2 _ rfl
     have c3:=Ha9.out.cell 3 _ rfl
     have c4:=Ha9.out.cell 4 _ rfl
     have c5:=Ha9.out.cell 5 _ rfl
     have z0:=Hb9.out.cell 0 _ rfl
     have z1:=Hb9.out.cell 1 _ rfl
     have z2:=Hb9.out.cell 2 _ rfl
     have z3:=Hb9.out.cell 3 _ rfl
     have z4:=Hb9.out.cell 4 _ rfl
     have z5:=Hb9.out.cell 5 _ rfl
     have y0:=Hb9.out.free 0
     have y1:=Hb9.out.free 1
     have y2:=Hb9.out.free 2
     have y3:=Hb9.out.free 3
     have y4:=Hb9.out.free 4
     have y5:=Hb9.out.free 5
     go_region
     all_goals
      go_wp2
      refine bodyPost_ret (v:=.tuple #[.agg #[.int .i64 h.pw,.int .i64 h.np,.slice p n c,.slice (some ⟨g7,0,none⟩) m c7,.int .i64 h.space,.int .i64 h.bump],.int .u64 (4096+FP),.bool true]) (by simp [results,Tryz.results122,go_sem,z0,z1,z2,z3,z4,z5]) rfl ?_
      have hB9:=zd2 (x0:=.int .i64 h.pw) (x1:=.int .i64 h.np) (x2:=.slice p n c) (x3:=.slice (some ⟨g7,0,none⟩) m c7) (x4:=.int .i64 h.space) (x5:=.int .i64 h.bump) HB9.out (show w.heap.size<=w.heap.size+1 by omega)
      refine ⟨?_,hB9.drew⟩
      rw [E3.out,eH.out,eA.out,HFP.out]
      obtain ⟨q9,c9,hv9,hrow9⟩:=PRow.of_own (own_other6 Hown9.out (show g7≠w.heap.size+1 by omega) (.int .i64 h.pw) (.int .i64 h.np) (.slice p n c) (.slice (some ⟨g7,0,none⟩) m c7) (.int .i64 h.space) (.int .i64 h.bump))
      injection hv9 with v1 v2 v3
      subst v1 v3
      exact ⟨_,rfl,p,n,c,some ⟨g7,0,none⟩,m,c7,rfl,Hs.out _ hB9.drew,hrow9.keep (Below.drew (Below.refl _ _)),hwb,fresh_some (by omega)⟩
def newAsk (h:Hp) (k n m:Int):Bool:=okH h && asksB h.pw h.np k n m
def newBig (h:Hp) (k n m:Int):Bool:=decide (0 < zb6 h.pw h.np (zd8 k n m))
def zs5 (h:Hp) (k n m:Int):Bool:=if newBig h k n m then zn9 h (zb6 h.pw h.np (zd8 k n m)) else zf5 h (zd8 k n m)
def zw3 (h:Hp) (k n m:Int):Hp:=if newBig h k n m then largeH h (zd8 k n m) (zb6 h.pw h.np (zd8 k n m)) else zq5 h (zd8 k n m)
def zu5 (h:Hp) (k n m:Int):Int:=if newBig h k n m then zt4 h (zb6 h.pw h.np (zd8 k n m)) else zq6 h (zd8 k n m)
def zl4 (h:Hp) (k n m:Int):Int:=if newAsk h k n m then (if zs5 h k n m then 0 else 3) else 1
def zw7 (h:Hp) (k n m:Int):Hp:=if zl4 h k n m=0 then zo3 (zw3 h k n m) (zu5 h k n m) k n m else Hp.zero
def zw8 (h:Hp) (k n m:Int):Int:=if zl4 h k n m=0 then zu5 h k n m else 0
def RetA (h:Hp) (a er:Int) (e:Ending) (w':World):Prop:=∃ v,e = .returned (.tuple #[v,.int .u64 a,.int .i64 er])/\HV w' v h
theorem zx9 {h:Hp} {k n m:Int} {E:Int} (e:zl4 h k n m=E) (h0:¬E=0):zw7 h k n m=Hp.zero/\zw8 h k n m=0:=by
 unfold zw7 zw8;rw [e,if_neg h0,if_neg h0];exact ⟨rfl,rfl⟩
def HVN (w:World) (b r:Nat) (v:Value) (h:Hp):Prop:=∃ p n c q m d,v = .agg #[.int .i64 h.pw,.int .i64 h.np,.slice p n c,.slice q m d,.int .i64 h.space,.int .i64 h.bump]/\SRow w .u64 p n c h.words/\PRow w q m d h.pages/\WB h.words/\∀ ad,q=some ad->ad.block≠b/\ad.block≠r
theorem HVN.hv {w:World} {b r:Nat} {v:Value} {h:Hp} (x:HVN w b r v h):HV w v h:=by
 obtain ⟨p,n,c,q,m,d,e,a,b,c',-⟩:=x;exact ⟨p,n,c,q,m,d,e,a,b,c'⟩
theorem HVN.keep {w w':World} {b r:Nat} {v:Value} {h:Hp} (x:HVN w b r v h) (hb:Below w.heap.size w w'):HVN w' b r v h:=by
 obtain ⟨p,n,c,q,m,d,e,x1,x2,x3,x4⟩:=x;exact ⟨p,n,c,q,m,d,e,x1.keep hb,x2.keep hb,x3,x4⟩
theorem HVF.ne {w:World} {B b r:Nat} {v:Value} {h:Hp} (x:HVF w B v h) (hb:b < B) (hr:r < B):HVN w b r v h:=by
 obtain ⟨p,n,c,q,m,d,e,x1,x2,x3,x4⟩:=x
 exact ⟨p,n,c,q,m,d,e,x1,x2,x3,fun ad hq=>by have:=x4 ad hq;constructor <;> omega⟩
theorem HVF.old {w:World} {B b r:Nat} {v:Value} {h:Hp} (x:HVF w B v h) (hp:h.pages≠[]) (hb:w.heap.size<=b) (hr:r < B):HVN w b r v h:=by
 obtain ⟨p,n,c,q,m,d,e,x1,x2,x3,x4⟩:=x
 have hm:0 < m:=by
  have:=x2.len
  rcases hq:h.pages with _ | ⟨y,r⟩
  · exact absurd hq hp
  · rw [hq,List.length_cons] at this;omega
 obtain ⟨y,bb,off,-,rfl,c0,-⟩:=x2.at_ hm
 exact ⟨p,n,c,_,m,d,e,x1,x2,x3,fun ad hq=>by have:=x4 ad hq;cases hq;have:=zb4 c0;simp only at *;constructor <;> omega⟩
theorem OwnL.own6 {w:World} {b:Nat} {x0 x1 x2 x3 x4 x5:Value} (h:OwnL w b [x0,x1,x2,x3,x4,x5]):Own6 w b x0 x1 x2 x3 x4 x5 :=
 ⟨h.cell 0 _ rfl,h.cell 1 _ rfl,h.cell 2 _ rfl,h.cell 3 _ rfl,h.cell 4 _ rfl,h.cell 5 _ rfl,h.free 0,h.free 1,h.free 2,h.free 3,h.free 4,h.free 5⟩
theorem OwnL.set6 {w:World} {b:Nat} {y0 y1 y2 y3 y4 y5:Value} (h:OwnL w b [y0,y1,y2,y3,y4,y5]) (x0 x1 x2 x3 x4 x5:Value) :
 OwnL ((((((w.setCell ⟨b,0,none⟩ x0).setCell ⟨b,1,none⟩ x1).setCell ⟨b,2,none⟩ x2).setCell ⟨b,3,none⟩ x3).setCell ⟨b,4,none⟩ x4).setCell ⟨b,5,none⟩ x5) b [x0,x1,x2,x3,x4,x5] :=
 (((((h.set 0 x0 (by simp)).set 1 x1 (by simp)).set 2 x2 (by simp)).set 3 x3 (by simp)).set 4 x4 (by simp)).set 5 x5 (by simp)
theorem OwnL.other6 {w:World} {b b':Nat} {vs:List Value} (h:OwnL w b vs) (hne:b'≠b) (x0 x1 x2 x3 x4 x5:Value) :
 OwnL ((((((w.setCell ⟨b',0,none⟩ x0).setCell ⟨b',1,none⟩ x1).setCell ⟨b',2,none⟩ x2).setCell ⟨b',3,none⟩ x3).setCell ⟨b',4,none⟩ x4).setCell ⟨b',5,none⟩ x5) b vs :=
 (((((h.other _ x0 hne).other _ x1 hne).other _ x2 hne).other _ x3 hne).other _ x4 hne).other _ x5 hne
theorem HVN.set6 {w:World} {b r:Nat} {v:Value} {h:Hp} (x:HVN w b r v h) {a0 a1 a4 a5:Int} {P Q:Option Addr} {n9 c9 m9 d9:Nat} (hb:OwnL w b [.int .i64 a0,.int .i64 a1,.slice P n9 c9,.slice Q m9 d9,.int .i64 a4,.int .i64 a5]) (x0 x1 x2 x3 x4 x5:Value) :
 HVN ((((((w.setCell ⟨b,0,none⟩ x0).setCell ⟨b,1,none⟩ x1).setCell ⟨b,2,none⟩ x2).setCell ⟨b,3,none⟩ x3).setCell ⟨b,4,none⟩ x4).setCell ⟨b,5,none⟩ x5) b r v h:=by
 obtain ⟨p,n,c,q,m,d,e,h1,h2,h3,h4⟩:=x
 exact ⟨p,n,c,q,m,d,e,SRow.set6 h1 hb.own6 (fun x e=>by cases e) (fun x e=>by cases e) (fun x e=>by cases e) (fun x e=>by cases e) (fun x e=>by cases e) (fun x e=>by cases e) _ _ _ _ _ _,prow_other6 h2 (fun ad e=>(h4 ad e).1) _ _ _ _ _ _,h3,h4⟩
theorem HVN.swap {w:World} {b r:Nat} {v:Value} {h:Hp} (x:HVN w b r v h):HVN w r b v h:=by
 obtain ⟨p,n,c,q,m,d,e,h1,h2,h3,h4⟩:=x
 exact ⟨p,n,c,q,m,d,e,h1,h2,h3,fun ad e=>(h4 ad e).symm⟩
theorem init_valN {u:Value} {h:Hp} (bb rr:Nat) (a k l b:Int) (w:World) (hu:HVN w bb rr u h) (ha:0<=a) (ha2:a < 18446744073709551616) (hb:0<=b) (hb2:b < 4294967296) :
 Calls Tryz.prog 41 #[u,.int .u64 a,.agg #[.int .i64 k,.int .i64 l,.int .u32 b]] w fun e w'=>(∃ v,e = .returned (.tuple #[v,.int .i64 (initE h a k l b)])/\HVN w' bb rr v (zo3 h a k l b))/\Below w.heap.size w w':=by
 obtain ⟨p,n,c,q,m,d,rfl,h1,h2,h3,hne⟩:=hu
 have hz:∀ w',HVN w' bb rr (.agg #[.int .i64 0,.int .i64 0,.slice none 0 0,.slice none 0 0,.int .i64 0,.int .i64 0]) Hp.zero:=fun w'=>⟨none,0,0,none,0,0,rfl,SRow.nil _ _ _,PRow.nil _ _,WB.nil,fun ad h=>by cases h⟩
 by_cases he:zb3 k l b=true/\okH h=true
 · have e1:initE h a k l b=zh4 h.words a (zq0 k l b):=by unfold initE;exact if_pos he
   refine (init_run h p q n c m d a k l b w h1 h2 ha ha2 hb hb2 he.1 he.2 _ rfl (Classical.em _)).mono ?_
   rintro e w' ⟨hc,hB⟩
   refine ⟨?_,hB⟩
   rcases hc with ⟨h0,p',n',c',rfl,hr⟩ | ⟨h0,rfl⟩
   · have e2:zo3 h a k l b={ h with words:=zc8 h.words a (zq0 k l b) }:=by unfold zo3;rw [e1];exact if_pos h0
     rw [e1,e2,h0]
     exact ⟨_,rfl,p',n',c',q,m,d,rfl,hr,h2.keep hB,zt1 h3 (initL_wb he.1 hb),hne⟩
   · have e2:zo3 h a k l b=Hp.zero:=by unfold zo3;rw [e1];exact if_neg h0
     rw [e1,e2]
     exact ⟨_,rfl,hz _⟩
 · have e1:initE h a k l b=1:=by unfold initE;exact if_neg he
   have e2:zo3 h a k l b=Hp.zero:=by unfold zo3;rw [e1];exact if_neg (by decide)
   refine (init_bad h p q n c m d a k l b w h1 h2 hb hb2 he).mono ?_
   rintro e w' ⟨rfl,hB⟩
   rw [e1,e2]
   exact ⟨⟨_,rfl,hz _⟩,hB⟩
theorem small_room {h:Hp} {n:Int} (h1:okH h=true) (hok:zf5 h n=true):(zq5 h n).pages≠[]:=by
 obtain ⟨j,x,s1,s2,s3,s4,-⟩:=ya4 h1 hok
 intro e
 have hl:(zq5 h n).pages.length=h.pages.length:=by unfold zq5 useAt;simp only [List.length_set];exact s3
 rw [e] at hl
 simp at hl
 omega
theorem smallA_bd {h:Hp} {n:Int} (h1:okH h=true) (hok:zf5 h n=true):0<=zq6 h n/\zq6 h n < 18446744073709551616:=by
 obtain ⟨j,x,s1,s2,s3,s4,s5,s6,s7,-⟩:=ya4 h1 hok
 obtain ⟨g1,-,g3,-⟩:=zc2 h1
 have hp:=zj2 g1 (show (0:Int)<=j by omega) (show (j:Int) < h.np by omega)
 have:=zd6 g1
 have:=(zb1 g1).2.1
 unfold zq6
 rw [s1,Int.toNat_natCast,zc6 s4]
 omega
theorem largeA_bd {h:Hp} {n k:Int} (h1:okH h=true) (hk:zb6 h.pw h.np n=k) (hok:zn9 h k=true):0<=zt4 h k/\zt4 h k < 18446744073709551616:=by
 obtain ⟨j,kk,s1,s2,s3,s4,-⟩:=large_spec h1 hk hok
 obtain ⟨g1,-,g3,-⟩:=zc2 h1
 have hp:=zj2 g1 (show (0:Int)<=j by omega) (show (j:Int) < h.np by omega)
 have:=zd6 g1
 have:=(zb1 g1).1
 unfold zt4
 rw [s1]
 omega
theorem refNew7_val {u:Value} {h:Hp} (K N M:Int) (w:World) (hu:HV w u h) (hm0:0<=M) (hm1:M < 4294967296) :
 Calls Tryz.prog 106 #[u,.agg #[.int .i64 K,.int .i64 N,.int .u32 M]] w fun e w'=>RetA (zw7 h K N M) (zw8 h K N M) (zl4 h K N M) e w'/\Below w.heap.size w w':=by
 obtain ⟨p,n,c,q,m,d,rfl,hs,hr,hwb⟩:=hu
 have hb0:Below w.heap.size w (((w.alloc (.cells #[.int .i64 h.pw,.int .i64 h.np,.slice p n c,.slice q m d,.int .i64 h.space,.int .i64 h.bump] 27)).alloc (.cells #[.int .i64 K,.int .i64 N,.int .u32 M] 54)).alloc (.cells #[.int .i64 0,.int .i64 0,.slice none 0 0,.slice none 0 0,.int .i64 0,.int .i64 0] 27)):=za3 (za3 za1 za1) za1
 have hHV:=qq (fun w' (hb:Below w.heap.size w w')=>(⟨p,n,c,q,m,d,rfl,hs.keep hb,hr.keep hb,hwb⟩:HV w' (.agg #[.int .i64 h.pw,.int .i64 h.np,.slice p n c,.slice q m d,.int .i64 h.space,.int .i64 h.bump]) h))
 have hpr:=qq (fun w' (hb:Below w.heap.size w w')=>zz1 w' (hHV.out w' hb))
 have hak:=qq (fun w=>refAsks_any h.pw h.np K N M w hm0 hm1)
 have hsz:=qq (fun w=>zn3 K N M w hm0 hm1)
 have hnd:=qq (fun w=>zy1 h.pw h.np (zd8 K N M) w)
 have Ha:=qq (((show OwnL (w.alloc (.cells #[.int .i64 h.pw,.int .i64 h.np,.slice p n c,.slice q m d,.int .i64 h.space,.int .i64 h.bump] 27)) w.heap.size [.int .i64 h.pw,.int .i64 h.np,.slice p n c,.slice q m d,.int .i64 h.space,.int .i64 h.bump] from OwnL.new _ _ _).keep (za1 (o:=(.cells #[.int .i64 K,.int .i64 N,.int .u32 M] 54))) (by simp)).keep (za1 (o:=(.cells #[.int .i64 0,.int .i64 0,.slice none 0 0,.slice none 0 0,.int .i64 0,.int .i64 0] 27))) (by simp;omega))
 have Hd:=qq ((show OwnL ((w.alloc (.cells #[.int .i64 h.pw,.int .i64 h.np,.slice p n c,.slice q m d,.int .i64 h.space,.int .i64 h.bump] 27)).alloc (.cells #[.int .i64 K,.int .i64 N,.int .u32 M] 54)) (w.heap.size+1) [.int .i64 K,.int .i64 N,.int .u32 M] from by
  have:=OwnL.new (w.alloc (.cells #[.int .i64 h.pw,.int .i64 h.np,.slice p n c,.slice q m d,.int .i64 h.space,.int .i64 h.bump] 27)) [.int .i64 K,.int .i64 N,.int .u32 M] 54
  simpa using this).keep (za1 (o:=(.cells #[.int .i64 0,.int .i64 0,.slice none 0 0,.slice none 0 0,.int .i64 0,.int .i64 0] 27))) (by simp))
 have Hb:=qq (show OwnL (((w.alloc (.cells #[.int .i64 h.pw,.int .i64 h.np,.slice p n c,.slice q m d,.int .i64 h.space,.int .i64 h.bump] 27)).alloc (.cells #[.int .i64 K,.int .i64 N,.int .u32 M] 54)).alloc (.cells #[.int .i64 0,.int .i64 0,.slice none 0 0,.slice none 0 0,.int .i64 0,.int .i64 0] 27)) (w.heap.size+1+1) [.int .i64 0,.int .i64 0,.slice none 0 0,.slice none 0 0,.int .i64 0,.int .i64 0] from by
  have:=OwnL.new ((w.alloc (.cells #[.int .i64 h.pw,.int .i64 h.np,.slice p n c,.slice q m d,.int .i64 h.space,.int .i64 h.bump] 27)).alloc (.cells #[.int .i64 K,.int .i64 N,.int .u32 M] 54)) [.int .i64 0,.int .i64 0,.slice none 0 0,.slice none 0 0,.int .i64 0,.int .i64 0] 27
  simpa using this)
 have HB:=qq hb0
 have ha4:w.heap.size < (((w.alloc (.cells #[.int .i64 h.pw,.int .i64 h.np,.slice p n c,.slice q m d,.int .i64 h.space,.int .i64 h.bump] 27)).alloc (.cells #[.int .i64 K,.int .i64 N,.int .u32 M] 54)).alloc (.cells #[.int .i64 0,.int .i64 0,.slice none 0 0,.slice none 0 0,.int .i64 0,.int .i64 0] 27)).heap.size:=by simp;omega
 have ha5:w.heap.size+1 < (((w.alloc (.cells #[.int .i64 h.pw,.int .i64 h.np,.slice p n c,.slice q m d,.int .i64 h.space,.int .i64 h.bump] 27)).alloc (.cells #[.int .i64 K,.int .i64 N,.int .u32 M] 54)).alloc (.cells #[.int .i64 0,.int .i64 0,.slice none 0 0,.slice none 0 0,.int .i64 0,.int .i64 0] 27)).heap.size:=by simp
 have ha6:w.heap.size+1+1 < (((w.alloc (.cells #[.int .i64 h.pw,.int .i64 h.np,.slice p n c,.slice q m d,.int .i64 h.space,.int .i64 h.bump] 27)).alloc (.cells #[.int .i64 K,.int .i64 N,.int .u32 M] 54)).alloc (.cells #[.int .i64 0,.int .i64 0,.slice none 0 0,.slice none 0 0,.int .i64 0,.int .i64 0] 27)).heap.size:=by simp
 obtain ⟨EV,hEV⟩:∃ EV,Hid (zl4 h K N M=EV):=⟨_,rfl⟩
 clear hs hr hb0
 have c0:=Ha.out.cell 0 _ rfl
 have c1:=Ha.out.cell 1 _ rfl
 have c2:=Ha.out.cell 2 _ rfl
 have c3:=Ha.out.cell 3 _ rfl
 have c4:=Ha.out.cell 4 _ rfl
 have c5:=Ha.out.cell 5 _ rfl
 have d0:=Hd.out.cell 0 _ rfl
 have d1:=Hd.out.cell 1 _ rfl
 have d2:=Hd.out.cell 2 _ rfl
 cases hok:okH h
 · rw [show ze8 h.pw h.np h.words.length h.pages h.space h.bump=false from hok] at hpr
   have e1:zl4 h K N M=1:=by unfold zl4 newAsk;rw [hok];rfl
   have EE:=qq e1
   have E:=qq (zx9 e1 (by decide)).1
   have EA:=qq (zx9 e1 (by decide)).2
   clear hok e1 hHV
   go_enter Tryz.func106,Tryz.ntmps106
   go_wp2_with fail
   refine (hpr.out _ HB.out).mono ?_
   rintro e w1 ⟨rfl,hb1⟩
   have Hb:=qq (Hb.out.keep hb1 ha6)
   have HB:=qq (za3 HB.out hb1)
   clear hb1 hpr
   have z0:=Hb.out.cell 0 _ rfl
   have z1:=Hb.out.cell 1 _ rfl
   have z2:=Hb.out.cell 2 _ rfl
   have z3:=Hb.out.cell 3 _ rfl
   have z4:=Hb.out.cell 4 _ rfl
   have z5:=Hb.out.cell 5 _ rfl
   have y0:=Hb.out.free 0
   have y1:=Hb.out.free 1
   have y2:=Hb.out.free 2
   have y3:=Hb.out.free 3
   have y4:=Hb.out.free 4
   have y5:=Hb.out.free 5
   go_wp2
   refine bodyPost_ret (v:=.tuple #[.agg #[.int .i64 0,.int .i64 0,.slice none 0 0,.slice none 0 0,.int .i64 0,.int .i64 0],.int .u64 0,.int .i64 1]) (by simp [results,Tryz.results106,go_sem,z0,z1,z2,z3,z4,z5]) rfl ?_
   rw [E.out,EA.out,EE.out]
   exact ⟨⟨_,rfl,HV.zero _⟩,zd2 HB.out (by omega)⟩
 · rw [show ze8 h.pw h.np h.words.length h.pages h.space h.bump=true from hok] at hpr
   cases has:asksB h.pw h.np K N M
   · have e1:zl4 h K N M=1:=by unfold zl4 newAsk;rw [hok,has];rfl
     have EE:=qq e1
     have E:=qq (zx9 e1 (by decide)).1
     have EA:=qq (zx9 e1 (by decide)).2
     rw [has] at hak
     clear hok e1 hHV has
     go_enter Tryz.func106,Tryz.ntmps106
     go_wp2_with fail
     refine (hpr.out _ HB.out).mono ?_
     rintro e w1 ⟨rfl,hb1⟩
     have Ha:=qq (Ha.out.keep hb1 ha4)
     have Hd:=qq (Hd.out.keep hb1 ha5)
     have Hb:=qq (Hb.out.keep hb1 ha6)
     have HB:=qq (za3 HB.out hb1)
     have hb6:w.heap.size+1+1 < w1.heap.size:=Hb.out.lt rfl
     clear hb1 hpr c0 c1 c2 c3 c4 c5 d0 d1 d2
     have c0:=Ha.out.cell 0 _ rfl
     have c1:=Ha.out.cell 1 _ rfl
     have c2:=Ha.out.cell 2 _ rfl
     have c3:=Ha.out.cell 3 _ rfl
     have c4:=Ha.out.cell 4 _ rfl
     have c5:=Ha.out.cell 5 _ rfl
     have d0:=Hd.out.cell 0 _ rfl
     have d1:=Hd.out.cell 1 _ rfl
     have d2:=Hd.out.cell 2 _ rfl
     go_wp2_with fail
     refine (hak.out _).mono ?_
     rintro e w2 ⟨rfl,hb2⟩
     have Hb:=qq (Hb.out.keep hb2 hb6)
     have HB:=qq (za3 HB.out hb2)
     clear hb2 hak
     have z0:=Hb.out.cell 0 _ rfl
     have z1:=Hb.out.cell 1 _ rfl
     have z2:=Hb.out.cell 2 _ rfl
     have z3:=Hb.out.cell 3 _ rfl
     have z4:=Hb.out.cell 4 _ rfl
     have z5:=Hb.out.cell 5 _ rfl
     have y0:=Hb.out.free 0
     have y1:=Hb.out.free 1
     have y2:=Hb.out.free 2
     have y3:=Hb.out.free 3
     have y4:=Hb.out.free 4
     have y5:=Hb.out.free 5
     go_wp2
     refine bodyPost_ret (v:=.tuple #[.agg #[.int .i64 0,.int .i64 0,.slice none 0 0,.slice none 0 0,.int .i64 0,.int .i64 0],.int .u64 0,.int .i64 1]) (by simp [results,Tryz.results106,go_sem,z0,z1,z2,z3,z4,z5]) rfl ?_
     rw [E.out,EA.out,EE.out]
     exact ⟨⟨_,rfl,HV.zero _⟩,zd2 HB.out (by omega)⟩
   · rw [has] at hak
     have hask:newAsk h K N M=true:=by unfold newAsk;rw [hok,has];rfl
     unfold asksB at has
     simp only [Bool.and_eq_true,decide_eq_true_eq] at has
     obtain ⟨⟨hv,hk0⟩,hnn⟩:=has
     have hvp:=ze3 hv
     have hS:=zu2 hv
     obtain ⟨S,hSS⟩:∃ S,Hid (zd8 K N M=S):=⟨_,rfl⟩
     have hS0:1<=S:=by have:=hSS.out;omega
     have hS9:S<=256:=by have:=hSS.out;omega
     obtain ⟨NV,hNV⟩:∃ NV,Hid (zb6 h.pw h.np S=NV):=⟨_,rfl⟩
     rw [hSS.out] at hsz hnd hnn
     rw [hNV.out] at hnd hnn
     have hsm:=qq (fun w' (hb:Below w.heap.size w w')=>refSmall7_val S w' (hHV.out w' hb) hok (by omega) (by omega))
     have hlg:=qq (fun w' (hb:Below w.heap.size w w')=>refLarge7_val S NV w' (hHV.out w' hb) hok hNV.out)
     have hvV:=qq hv
     have hNB:newBig h K N M=decide (0 < NV):=by unfold newBig;rw [hSS.out,hNV.out]
     have hnv0:0<=NV:=by have:=needV_ge h.pw h.np S;rw [hNV.out] at this;omega
     have HAE:=qq (show zl4 h K N M=if zs5 h K N M then 0 else 3 from by unfold zl4;rw [hask];rfl)
     clear hHV hv hvp hS hk0 hnn hask
     go_enter Tryz.func106,Tryz.ntmps106
     go_wp2_with fail
     refine (hpr.out _ HB.out).mono ?_
     rintro e w1 ⟨rfl,hb1⟩
     have Ha:=qq (Ha.out.keep hb1 ha4)
     have Hd:=qq (Hd.out.keep hb1 ha5)
     have Hb:=qq (Hb.out.keep hb1 ha6)
     have HB:=qq (za3 HB.out hb1)
     have hl4:w.heap.size < w1.heap.size:=Ha.out.lt rfl
     have hl5:w.heap.size+1 < w1.heap.size:=Hd.out.lt rfl
     have hl6:w.heap.size+1+1 < w1.heap.size:=Hb.out.lt rfl
     clear hb1 hpr c0 c1 c2 c3 c4 c5 d0 d1 d2 ha4 ha5 ha6
     have c0:=Ha.out.cell 0 _ rfl
     have c1:=Ha.out.cell 1 _ rfl
     have c2:=Ha.out.cell 2 _ rfl
     have c3:=Ha.out.cell 3 _ rfl
     have c4:=Ha.out.cell 4 _ rfl
     have c5:=Ha.out.cell 5 _ rfl
     have d0:=Hd.out.cell 0 _ rfl
     have d1:=Hd.out.cell 1 _ rfl
     have d2:=Hd.out.cell 2 _ rfl
     go_wp2_with fail
     refine (hak.out _).mono ?_
     rintro e w2 ⟨rfl,hb2⟩
     have Ha:=qq (Ha.out.keep hb2 hl4)
     have Hd:=qq (Hd.out.keep hb2 hl5)
     have Hb:=qq (Hb.out.keep hb2 hl6)
     have HB:=qq (za3 HB.out hb2)
     clear hl4 hl5 hl6
     have hl4:w.heap.size < w2.heap.size:=Ha.out.lt rfl
     have hl5:w.heap.size+1 < w2.heap.size:=Hd.out.lt rfl
     have hl6:w.heap.size+1+1 < w2.heap.size:=Hb.out.lt rfl
     clear hb2 hak c0 c1 c2 c3 c4 c5 d0 d1 d2
     have c0:=Ha.out.cell 0 _ rfl
     have c1:=Ha.out.cell 1 _ rfl
     have c2:=Ha.out.cell 2 _ rfl
     have c3:=Ha.out.cell 3 _ rfl
     have c4:=Ha.out.cell 4 _ rfl
     have c5:=Ha.out.cell 5 _ rfl
     have d0:=Hd.out.cell 0 _ rfl
     have d1:=Hd.out.cell 1 _ rfl
     have d2:=Hd.out.cell 2 _ rfl
     go_wp2_with fail
     refine (hsz.out _).mono ?_
     rintro e w3 ⟨rfl,hb3⟩
     have Ha:=qq (Ha.out.keep hb3 hl4)
     have Hd:=qq (Hd.out.keep hb3 hl5)
     have Hb:=qq (Hb.out.keep hb3 hl6)
     have HB:=qq (za3 HB.out hb3)
     clear hl4 hl5 hl6
     have hl4:w.heap.size < w3.heap.size:=Ha.out.lt rfl
     have hl5:w.heap.size+1 < w3.heap.size:=Hd.out.lt rfl
     have hl6:w.heap.size+1+1 < w3.heap.size:=Hb.out.lt rfl
     clear hb3 hsz c0 c1 c2 c3 c4 c5 d0 d1 d2
     have c0:=Ha.out.cell 0 _ rfl
     have c1:=Ha.out.cell 1 _ rfl
     have c2:=Ha.out.cell 2 _ rfl
     have c3:=Ha.out.cell 3 _ rfl
     have c4:=Ha.out.cell 4 _ rfl
     have c5:=Ha.out.cell 5 _ rfl
     have d0:=Hd.out.cell 0 _ rfl
     have d1:=Hd.out.cell 1 _ rfl
     have d2:=Hd.out.cell 2 _ rfl
     go_wp2_with fail
     refine (hnd.out _).mono ?_
     rintro e w4 ⟨rfl,hb4⟩
     have Ha:=qq (Ha.out.keep hb4 hl4)
     have Hd:=qq (Hd.out.keep hb4 hl5)
     have Hb:=qq (Hb.out.keep hb4 hl6)
     have HB:=qq (za3 HB.out hb4)
     clear hl4 hl5 hl6
     have hl4:w.heap.size < w4.heap.size:=Ha.out.lt rfl
     have hl5:w.heap.size+1 < w4.heap.size:=Hd.out.lt rfl
     have hl6:w.heap.size+1+1 < w4.heap.size:=Hb.out.lt rfl
     clear hb4 hnd c0 c1 c2 c3 c4 c5 d0 d1 d2
     have c0:=Ha.out.cell 0 _ rfl
     have c1:=Ha.out.cell 1 _ rfl
     have c2:=Ha.out.cell 2 _ rfl
     have c3:=Ha.out.cell 3 _ rfl
     have c4:=Ha.out.cell 4 _ rfl
     have c5:=Ha.out.cell 5 _ rfl
     have d0:=Hd.out.cell 0 _ rfl
     have d1:=Hd.out.cell 1 _ rfl
     have d2:=Hd.out.cell 2 _ rfl
     go_wp2_with fail
     refine (hsm.out _ HB.out).mono ?_
     rintro e w5 ⟨⟨v5,rfl,hv5⟩,hb5⟩
     have hr4:=hl6
     have Ha:=qq (Ha.out.keep hb5 hl4)
     have Hd:=qq (Hd.out.keep hb5 hl5)
     have Hb:=qq (Hb.out.keep hb5 hl6)
     have HB:=qq (za3 HB.out hb5)
     clear hl4 hl5 hl6
     have hl4:w.heap.size < w5.heap.size:=Ha.out.lt rfl
     have hl5:w.heap.size+1 < w5.heap.size:=Hd.out.lt rfl
     have hl6:w.heap.size+1+1 < w5.heap.size:=Hb.out.lt rfl
     clear hb5 hsm c0 c1 c2 c3 c4 c5 d0 d1 d2
     have hpz:=@small_room h S
     generalize hO:zf5 h S=O5 at hv5
     have HO:=qq hO
     obtain ⟨X5,hX⟩:∃ X5,Hid ((if O5=true then zq5 h S else Hp.zero)=X5):=⟨_,rfl⟩
     obtain ⟨A5,hA⟩:∃ A5,Hid ((if O5=true then zq6 h S else 0)=A5):=⟨_,rfl⟩
     rw [hX.out] at hv5
     rw [hA.out]
     have HVF5:=qq hv5
     obtain ⟨p5,n5,k5,q5,m5,l5,rfl,hs5,hr5,hwb5,hfr5⟩:=hv5
     have H9:=qq (show OwnL (w5.alloc (.cells #[.int .i64 X5.pw,.int .i64 X5.np,.slice p5 n5 k5,.slice q5 m5 l5,.int .i64 X5.space,.int .i64 X5.bump] 27)) w5.heap.size [.int .i64 X5.pw,.int .i64 X5.np,.slice p5 n5 k5,.slice q5 m5 l5,.int .i64 X5.space,.int .i64 X5.bump] from OwnL.new _ _ _)
     have Hd:=qq (Hd.out.keep (za1 (o:=(.cells #[.int .i64 X5.pw,.int .i64 X5.np,.slice p5 n5 k5,.slice q5 m5 l5,.int .i64 X5.space,.int .i64 X5.bump] 27))) hl5)
     have Hb:=qq (Hb.out.keep (za1 (o:=(.cells #[.int .i64 X5.pw,.int .i64 X5.np,.slice p5 n5 k5,.slice q5 m5 l5,.int .i64 X5.space,.int .i64 X5.bump] 27))) hl6)
     have Ha:=qq (Ha.out.keep (za1 (o:=(.cells #[.int .i64 X5.pw,.int .i64 X5.np,.slice p5 n5 k5,.slice q5 m5 l5,.int .i64 X5.space,.int .i64 X5.bump] 27))) hl4)
     have HB:=qq (za3 HB.out (za1 (o:=(.cells #[.int .i64 X5.pw,.int .i64 X5.np,.slice p5 n5 k5,.slice q5 m5 l5,.int .i64 X5.space,.int .i64 X5.bump] 27))))
     have hN5:=qq (fun (hp:X5.pages≠[])=>(HVF5.out.old hp (Nat.le_refl _) hr4).keep (za1 (o:=(.cells #[.int .i64 X5.pw,.int .i64 X5.np,.slice p5 n5 k5,.slice q5 m5 l5,.int .i64 X5.space,.int .i64 X5.bump] 27))))
     clear hO hs5 hr5 hwb5 hfr5 HVF5
     have c0:=Ha.out.cell 0 _ rfl
     have c1:=Ha.out.cell 1 _ rfl
     have c2:=Ha.out.cell 2 _ rfl
     have c3:=Ha.out.cell 3 _ rfl
     have c4:=Ha.out.cell 4 _ rfl
     have c5:=Ha.out.cell 5 _ rfl
     have d0:=Hd.out.cell 0 _ rfl
     have d1:=Hd.out.cell 1 _ rfl
     have d2:=Hd.out.cell 2 _ rfl
     have e9:=H9.out.cell 0 _ rfl
     go_upto_if 37 with fail
     go_cut [10,11] (fun t10 t11 wx=>∃ RM X A p n c q m d,zs5 h K N M=RM/\t11 = .bool RM/\t10 = .int .u64 A/\OwnL wx w5.heap.size [.int .i64 X.pw,.int .i64 X.np,.slice p n c,.slice q m d,.int .i64 X.space,.int .i64 X.bump]/\(RM=true->X=zw3 h K N M/\A=zu5 h K N M/\HVN wx w5.heap.size (w.heap.size+1+1) (.agg #[.int .i64 X.pw,.int .i64 X.np,.slice p n c,.slice q m d,.int .i64 X.space,.int .i64 X.bump]) X/\0<=A/\A < 18446744073709551616)/\OwnL wx (w.heap.size+1) [.int .i64 K,.int .i64 N,.int .u32 M]/\OwnL wx (w.heap.size+1+1) [.int .i64 0,.int .i64 0,.slice none 0 0,.slice none 0 0,.int .i64 0,.int .i64 0]/\Below w.heap.size w wx/\w5.heap.size < wx.heap.size)
     case first =>
      by_cases hbig:0 < NV
      · have eNB:=qq (show newBig h K N M=true from by rw [hNB];exact decide_eq_true hbig)
        generalize hO7:zn9 h NV=O7 at hlg
        obtain ⟨X7,hX7⟩:∃ X7,Hid ((if O7=true then largeH h S NV else Hp.zero)=X7):=⟨_,rfl⟩
        obtain ⟨A7,hA7⟩:∃ A7,Hid ((if O7=true then zt4 h NV else 0)=A7):=⟨_,rfl⟩
        have eR:=qq (show zs5 h K N M=O7 from by unfold zs5;rw [eNB.out,hSS.out,hNV.out];exact hO7)
        have eX:=qq (fun (h':O7=true)=>show X7=zw3 h K N M from by unfold zw3;rw [eNB.out,hSS.out,hNV.out,<-hX7.out,if_pos h'];rfl)
        have eA:=qq (fun (h':O7=true)=>show A7=zu5 h K N M from by unfold zu5;rw [eNB.out,hSS.out,hNV.out,<-hA7.out,if_pos h'];rfl)
        have eB:=qq (fun (h':O7=true)=>show 0<=A7/\A7 < 18446744073709551616 from by rw [<-hA7.out,if_pos h'];exact largeA_bd hok hNV.out (by rw [hO7];exact h'))
        have hl9:w5.heap.size < (w5.alloc (.cells #[.int .i64 X5.pw,.int .i64 X5.np,.slice p5 n5 k5,.slice q5 m5 l5,.int .i64 X5.space,.int .i64 X5.bump] 27)).heap.size:=by simp
        have hl5':w.heap.size+1 < (w5.alloc (.cells #[.int .i64 X5.pw,.int .i64 X5.np,.slice p5 n5 k5,.slice q5 m5 l5,.int .i64 X5.space,.int .i64 X5.bump] 27)).heap.size:=Hd.out.lt rfl
        have hl6':w.heap.size+1+1 < (w5.alloc (.cells #[.int .i64 X5.pw,.int .i64 X5.np,.slice p5 n5 k5,.slice q5 m5 l5,.int .i64 X5.space,.int .i64 X5.bump] 27)).heap.size:=Hb.out.lt rfl
        clear hN5 hX hA HO hO7
        go_wp2_with fail
        refine (hlg.out _ HB.out).mono ?_
        rintro e w7 ⟨⟨v7,rfl,hv7⟩,hb7⟩
        rw [hX7.out] at hv7
        rw [hA7.out]
        have hN7:=hv7.ne (b:=w5.heap.size) (r:=w.heap.size+1+1) (by simp) hl6'
        have HN7:=qq hN7
        obtain ⟨p7,n7,k7,q7,m7,l7,rfl,-⟩:=hN7
        have H9:=qq (H9.out.keep hb7 hl9)
        have Hd:=qq (Hd.out.keep hb7 hl5')
        have Hb:=qq (Hb.out.keep hb7 hl6')
        have HB:=qq (za3 HB.out hb7)
        have hs7:w5.heap.size < w7.heap.size:=H9.out.lt rfl
        have hsd:w.heap.size+1 < w7.heap.size:=Hd.out.lt rfl
        clear hb7 hlg hv7 c0 c1 c2 c3 c4 c5 d0 d1 d2 e9 hX7 hA7
        have c0:=H9.out.cell 0 _ rfl
        have c1:=H9.out.cell 1 _ rfl
        have c2:=H9.out.cell 2 _ rfl
        have c3:=H9.out.cell 3 _ rfl
        have c4:=H9.out.cell 4 _ rfl
        have c5:=H9.out.cell 5 _ rfl
        have f0:=H9.out.free 0
        have f1:=H9.out.free 1
        have f2:=H9.out.free 2
        have f3:=H9.out.free 3
        have f4:=H9.out.free 4
        have f5:=H9.out.free 5
        have HX9:=qq (H9.out.set6 (.int .i64 X7.pw) (.int .i64 X7.np) (.slice p7 n7 k7) (.slice q7 m7 l7) (.int .i64 X7.space) (.int .i64 X7.bump))
        have HXN:=qq (HN7.out.set6 H9.out (.int .i64 X7.pw) (.int .i64 X7.np) (.slice p7 n7 k7) (.slice q7 m7 l7) (.int .i64 X7.space) (.int .i64 X7.bump))
        have HXd:=qq (Hd.out.other6 (b':=w5.heap.size) (by omega) (.int .i64 X7.pw) (.int .i64 X7.np) (.slice p7 n7 k7) (.slice q7 m7 l7) (.int .i64 X7.space) (.int .i64 X7.bump))
        have HXb:=qq (Hb.out.other6 (b':=w5.heap.size) (by omega) (.int .i64 X7.pw) (.int .i64 X7.np) (.slice p7 n7 k7) (.slice q7 m7 l7) (.int .i64 X7.space) (.int .i64 X7.bump))
        have HXB:=qq (zd2 (x0:=.int .i64 X7.pw) (x1:=.int .i64 X7.np) (x2:=.slice p7 n7 k7) (x3:=.slice q7 m7 l7) (x4:=.int .i64 X7.space) (x5:=.int .i64 X7.bump) HB.out (show w.heap.size<=w5.heap.size by omega))
        go_wp2_with fail
        go_meet
        exact ⟨O7,X7,A7,_,_,_,_,_,_,eR.out,rfl,rfl,HX9.out,fun h'=>⟨eX.out h',eA.out h',HXN.out,eB.out h'⟩,HXd.out,HXb.out,HXB.out,by simp;omega⟩
      · have hNV0:NV=0:=by omega
        have eR:=qq (show zs5 h K N M=O5 from by unfold zs5;rw [hNB,decide_eq_false hbig,hSS.out];exact HO.out)
        have eX:=qq (fun (h':O5=true)=>show X5=zw3 h K N M from by unfold zw3;rw [hNB,decide_eq_false hbig,hSS.out,<-hX.out,if_pos h'];rfl)
        have eA:=qq (fun (h':O5=true)=>show A5=zu5 h K N M from by unfold zu5;rw [hNB,decide_eq_false hbig,hSS.out,<-hA.out,if_pos h'];rfl)
        have eN:=qq (fun (h':O5=true)=>hN5.out (by rw [<-hX.out,if_pos h'];exact hpz hok (by rw [HO.out];exact h')))
        have eB:=qq (fun (h':O5=true)=>show 0<=A5/\A5 < 18446744073709551616 from by rw [<-hA.out,if_pos h'];exact smallA_bd hok (by rw [HO.out];exact h'))
        subst hNV0
        clear hbig hN5 hX hA HO
        go_wp2_with fail
        go_meet
        exact ⟨O5,X5,A5,_,_,_,_,_,_,eR.out,rfl,rfl,H9.out,fun h'=>⟨eX.out h',eA.out h',eN.out h',eB.out h'⟩,Hd.out,Hb.out,HB.out,by simp⟩
     case rest =>
      obtain ⟨RM,X,A,p,n,c,q,m,d,eR,rfl,rfl,h9,hall,hd,hb,hB,hl9⟩:=hcut
      have H9:=qq h9
      have Hd:=qq hd
      have Hb:=qq hb
      have HB:=qq hB
      have hld:w.heap.size+1 < wc.heap.size:=Hd.out.lt rfl
      have hlb:w.heap.size+1+1 < wc.heap.size:=Hb.out.lt rfl
      have hAE:=HAE.out
      rw [eR] at hAE
      clear hlg hN5 hX hA HO HAE h9 hd hb hB c0 c1 c2 c3 c4 c5 d0 d1 d2 e9
      cases RM
      · have EE:=qq (show zl4 h K N M=3 from hAE)
        have E:=qq (zx9 hAE (by decide)).1
        have EA:=qq (zx9 hAE (by decide)).2
        clear hall hAE eR
        have z0:=Hb.out.cell 0 _ rfl
        have z1:=Hb.out.cell 1 _ rfl
        have z2:=Hb.out.cell 2 _ rfl
        have z3:=Hb.out.cell 3 _ rfl
        have z4:=Hb.out.cell 4 _ rfl
        have z5:=Hb.out.cell 5 _ rfl
        have y0:=Hb.out.free 0
        have y1:=Hb.out.free 1
        have y2:=Hb.out.free 2
        have y3:=Hb.out.free 3
        have y4:=Hb.out.free 4
        have y5:=Hb.out.free 5
        go_wp2
        refine bodyPost_ret (v:=.tuple #[.agg #[.int .i64 0,.int .i64 0,.slice none 0 0,.slice none 0 0,.int .i64 0,.int .i64 0],.int .u64 0,.int .i64 3]) (by simp [results,Tryz.results106,go_sem,z0,z1,z2,z3,z4,z5]) rfl ?_
        rw [E.out,EA.out,EE.out]
        exact ⟨⟨_,rfl,HV.zero _⟩,zd2 HB.out (by omega)⟩
      · obtain ⟨x1,x2,x3,x4,x5⟩:=hall rfl
        have e0:zl4 h K N M=0:=hAE
        have EE:=qq e0
        have E:=qq (show zw7 h K N M=zo3 X A K N M from by unfold zw7;rw [if_pos e0,x1,x2])
        have EA:=qq (show zw8 h K N M=A from by unfold zw8;rw [if_pos e0,x2])
        have hin:=qq (init_valN w5.heap.size (w.heap.size+1+1) A K N M wc x3 x4 x5 hm0 hm1)
        clear hall hAE eR x1 x2 x3 e0
        have c0:=H9.out.cell 0 _ rfl
        have c1:=H9.out.cell 1 _ rfl
        have c2:=H9.out.cell 2 _ rfl
        have c3:=H9.out.cell 3 _ rfl
        have c4:=H9.out.cell 4 _ rfl
        have c5:=H9.out.cell 5 _ rfl
        have d0:=Hd.out.cell 0 _ rfl
        have d1:=Hd.out.cell 1 _ rfl
        have d2:=Hd.out.cell 2 _ rfl
        go_wp2_with fail
        refine hin.out.mono ?_
        rintro e w8 ⟨⟨v8,rfl,hv8⟩,hb8⟩
        have HN8:=qq hv8
        obtain ⟨p8,n8,k8,q8,m8,l8,rfl,-⟩:=hv8
        obtain ⟨X8,hX8⟩:∃ X8,Hid (zo3 X A K N M=X8):=⟨_,rfl⟩
        rw [hX8.out] at HN8 ⊢
        have H9:=qq (H9.out.keep hb8 hl9)
        have Hb:=qq (Hb.out.keep hb8 hlb)
        have HB:=qq (za3 HB.out hb8)
        clear hb8 hin c0 c1 c2 c3 c4 c5 d0 d1 d2
        have c0:=H9.out.cell 0 _ rfl
        have c1:=H9.out.cell 1 _ rfl
        have c2:=H9.out.cell 2 _ rfl
        have c3:=H9.out.cell 3 _ rfl
        have c4:=H9.out.cell 4 _ rfl
        have c5:=H9.out.cell 5 _ rfl
        have f0:=H9.out.free 0
        have f1:=H9.out.free 1
        have f2:=H9.out.free 2
        have f3:=H9.out.free 3
        have f4:=H9.out.free 4
        have f5:=H9.out.free 5
        have HX9:=qq (H9.out.set6 (.int .i64 X8.pw) (.int .i64 X8.np) (.slice p8 n8 k8) (.slice q8 m8 l8) (.int .i64 X8.space) (.int .i64 X8.bump))
        have HXN:=qq (HN8.out.set6 H9.out (.int .i64 X8.pw) (.int .i64 X8.np) (.slice p8 n8 k8) (.slice q8 m8 l8) (.int .i64 X8.space) (.int .i64 X8.bump))
        have HXb:=qq (Hb.out.other6 (b':=w5.heap.size) (by omega) (.int .i64 X8.pw) (.int .i64 X8.np) (.slice p8 n8 k8) (.slice q8 m8 l8) (.int .i64 X8.space) (.int .i64 X8.bump))
        have HXB:=qq (zd2 (x0:=.int .i64 X8.pw) (x1:=.int .i64 X8.np) (x2:=.slice p8 n8 k8) (x3:=.slice q8 m8 l8) (x4:=.int .i64 X8.space) (x5:=.int .i64 X8.bump) HB.out (show w.heap.size<=w5.heap.size by omega))
        have z0:=Hb.out.cell 0 _ rfl
        have z1:=Hb.out.cell 1 _ rfl
        have z2:=Hb.out.cell 2 _ rfl
        have z3:=Hb.out.cell 3 _ rfl
        have z4:=Hb.out.cell 4 _ rfl
        have z5:=Hb.out.cell 5 _ rfl
        have y0:=Hb.out.free 0
        have y1:=Hb.out.free 1
        have y2:=Hb.out.free 2
        have y3:=Hb.out.free 3
        have y4:=Hb.out.free 4
        have y5:=Hb.out.free 5
        have hXr:=qq (HXN.out.swap.set6 HXb.out (.int .i64 X8.pw) (.int .i64 X8.np) (.slice p8 n8 k8) (.slice q8 m8 l8) (.int .i64 X8.space) (.int .i64 X8.bump))
        have hXB:=qq (zd2 (x0:=.int .i64 X8.pw) (x1:=.int .i64 X8.np) (x2:=.slice p8 n8 k8) (x3:=.slice q8 m8 l8) (x4:=.int .i64 X8.space) (x5:=.int .i64 X8.bump) HXB.out (show w.heap.size<=w.heap.size+1+1 by omega))
        go_wp2
        refine bodyPost_ret (v:=.tuple #[.agg #[.int .i64 X8.pw,.int .i64 X8.np,.slice p8 n8 k8,.slice q8 m8 l8,.int .i64 X8.space,.int .i64 X8.bump],.int .u64 A,.int .i64 0]) (by simp [results,Tryz.results106,go_sem,z0,z1,z2,z3,z4,z5]) rfl ?_
        rw [E.out,EA.out,EE.out,hX8.out]
        exact ⟨⟨_,rfl,hXr.out.hv⟩,hXB.out⟩
structure Wk where
 h:Hp
 old:List Int
 taken:List Int
 queue:List Int
 sc:Int
 r0:Int
 r1:Int
 r2:Int
 r3:Int
 r4:Int
 r5:Int
def Wk.zero:Wk:=⟨Hp.zero,[],[],[],0,0,0,0,0,0,0⟩
structure WR (w:World) (S:Nat->Prop) (x:Wk) (p q po pt pq:Option Addr) (n c m d no co nt ct nq cq:Nat):Prop where
 words:SRow w .u64 p n c x.h.words
 pages:PRow w q m d x.h.pages
 wb:WB x.h.words
 old:SRow w .u64 po no co x.old
 taken:SRow w .i64 pt nt ct x.taken
 queue:SRow w .u64 pq nq cq x.queue
 ap:x.h.pages≠[]->∀ ad,q=some ad->¬S ad.block
 at_:x.taken≠[]->∀ ad,pt=some ad->¬S ad.block
 aw:x.h.words≠[]->∀ ad,p=some ad->¬S ad.block
 ao:x.old≠[]->∀ ad,po=some ad->¬S ad.block
 aq:x.queue≠[]->∀ ad,pq=some ad->¬S ad.block
theorem WR.keep {w w':World} {S:Nat->Prop} {x:Wk} {p q po pt pq:Option Addr} {n c m d no co nt ct nq cq:Nat} (h:WR w S x p q po pt pq n c m d no co nt ct nq cq) (hb:Below w.heap.size w w'):WR w' S x p q po pt pq n c m d no co nt ct nq cq :=
 ⟨h.words.keep hb,h.pages.keep hb,h.wb,h.old.keep hb,h.taken.keep hb,h.queue.keep hb,h.ap,h.at_,h.aw,h.ao,h.aq⟩
def WV (w:World) (S:Nat->Prop) (v:Value) (x:Wk):Prop:=∃ p q po pt pq n c m d no co nt ct nq cq,v=(.agg #[.int .i64 x.h.pw,.int .i64 x.h.np,.slice p n c,.slice q m d,.int .i64 x.h.space,.int .i64 x.h.bump,.slice po no co,.slice pt nt ct,.slice pq nq cq,.int .i64 x.sc,.int .i64 x.r0,.int .i64 x.r1,.int .i64 x.r2,.int .i64 x.r3,.int .i64 x.r4,.int .i64 x.r5])/\WR w S x p q po pt pq n c m d no co nt ct nq cq
theorem WV.keep {w w':World} {S:Nat->Prop} {v:Value} {x:Wk} (h:WV w S v x) (hb:Below w.heap.size w w'):WV w' S v x:=by
 obtain ⟨p,q,po,pt,pq,n,c,m,d,no,co,nt,ct,nq,cq,e,h⟩:=h
 exact ⟨p,q,po,pt,pq,n,c,m,d,no,co,nt,ct,nq,cq,e,h.keep hb⟩
theorem WV.zero (w:World) (S:Nat->Prop):WV w S (.agg #[.int .i64 0,.int .i64 0,.slice none 0 0,.slice none 0 0,.int .i64 0,.int .i64 0,.slice none 0 0,.slice none 0 0,.slice none 0 0,.int .i64 0,.int .i64 0,.int .i64 0,.int .i64 0,.int .i64 0,.int .i64 0,.int .i64 0]) Wk.zero :=
 ⟨none,none,none,none,none,0,0,0,0,0,0,0,0,0,0,rfl,SRow.nil _ _ _,PRow.nil _ _,WB.nil,SRow.nil _ _ _,SRow.nil _ _ _,SRow.nil _ _ _,fun h=>absurd rfl h,fun h=>absurd rfl h,fun h=>absurd rfl h,fun h=>absurd rfl h,fun h=>absurd rfl h⟩
theorem reftaken_any (x:Wk) (p q po pt pq:Option Addr) (n c m d no co nt ct nq cq:Nat) (i:Int) (w:World) (hr:SRow w .i64 pt nt ct x.taken) :
 Calls Tryz.prog 151 #[(.agg #[.int .i64 x.h.pw,.int .i64 x.h.np,.slice p n c,.slice q m d,.int .i64 x.h.space,.int .i64 x.h.bump,.slice po no co,.slice pt nt ct,.slice pq nq cq,.int .i64 x.sc,.int .i64 x.r0,.int .i64 x.r1,.int .i64 x.r2,.int .i64 x.r3,.int .i64 x.r4,.int .i64 x.r5]),.int .i64 i] w fun e w'=>e = .returned (.bool (decide (i∈x.taken)))/\Below w.heap.size w w':=by
 have Hb:=qq (OwnL.new w [.int .i64 x.h.pw,.int .i64 x.h.np,.slice p n c,.slice q m d,.int .i64 x.h.space,.int .i64 x.h.bump,.slice po no co,.slice pt nt ct,.slice pq nq cq,.int .i64 x.sc,.int .i64 x.r0,.int .i64 x.r1,.int .i64 x.r2,.int .i64 x.r3,.int .i64 x.r4,.int .i64 x.r5] 146)
 have hb0:Below w.heap.size w (w.alloc (.cells #[.int .i64 x.h.pw,.int .i64 x.h.np,.slice p n c,.slice q m d,.int .i64 x.h.space,.int .i64 x.h.bump,.slice po no co,.slice pt nt ct,.slice pq nq cq,.int .i64 x.sc,.int .i64 x.r0,.int .i64 x.r1,.int .i64 x.r2,.int .i64 x.r3,.int .i64 x.r4,.int .i64 x.r5] 146)):=za1
 have Hs:=qq (hr.keep hb0)
 have hl:=hr.i63.2
 have c7:(w.alloc (.cells #[.int .i64 x.h.pw,.int .i64 x.h.np,.slice p n c,.slice q m d,.int .i64 x.h.space,.int .i64 x.h.bump,.slice po no co,.slice pt nt ct,.slice pq nq cq,.int .i64 x.sc,.int .i64 x.r0,.int .i64 x.r1,.int .i64 x.r2,.int .i64 x.r3,.int .i64 x.r4,.int .i64 x.r5] 146)).cell? ⟨w.heap.size,7,none⟩=some (.slice pt nt ct):=Hb.out.cell 7 _ rfl
 clear hr
 go_enter Tryz.func151,Tryz.ntmps151
 go_wp2
 go_loopw [5] (fun u wr=>∃ k:Nat,k<=nt/\u = .int .i64 k/\(∀ j,j < k->x.taken[j]?≠some i)/\wr=w.alloc (.cells #[.int .i64 x.h.pw,.int .i64 x.h.np,.slice p n c,.slice q m d,.int .i64 x.h.space,.int .i64 x.h.bump,.slice po no co,.slice pt nt ct,.slice pq nq cq,.int .i64 x.sc,.int .i64 x.r0,.int .i64 x.r1,.int .i64 x.r2,.int .i64 x.r3,.int .i64 x.r4,.int .i64 x.r5] 146)) (fun u _=>nt - (intOf u).toNat)
 case atStart=>exact ⟨0,by omega,rfl,fun j hj=>by omega,rfl⟩
 case round =>
  obtain ⟨k,hk,rfl,hno,rfl⟩:=hrel
  have HN:=qq hno
  clear hno
  by_cases hlt:k < nt
  · obtain ⟨v,b,off,hx,rfl,d0⟩:=Hs.out.at_ hlt
    have HX:=qq hx
    have hlt2:(k:Int) < nt:=by omega
    clear hx
    by_cases he:v=i
    · subst he
      go_wp2
      go_ret
      exact ⟨by rw [decide_eq_true (List.mem_of_getElem? HX.out)];rfl,hb0⟩
    · have hd:(v == i)=false:=beq_eq_false_iff_ne.2 he
      have HE:=qq he
      clear he
      go_wp2
      go_roundw
      case rel =>
       refine ⟨k+1,by omega,by go_num,fun j hj=>?_,by first | trivial | rfl⟩
       by_cases hjk:j < k
       · exact HN.out j hjk
       · obtain rfl:j=k:=by omega
         rw [HX.out];intro e;exact HE.out (Option.some.inj e)
      case measure=>simp [intOf];omega
  · go_wp2
    go_ret
    refine ⟨?_,hb0⟩
    have hno:¬i∈x.taken:=?_
    · rw [decide_eq_false hno];rfl
    intro hm
    obtain ⟨j,hj⟩:=List.mem_iff_getElem?.1 hm
    have hjl:j < nt:=by rw [<-Hs.out.len];exact (List.getElem?_eq_some_iff.1 hj).1
    exact HN.out j (by omega) hj
def zi2 (x:Wk) (i:Int):Bool:=match x.h.pages[i.toNat]? with
 | some g=>decide (0<=i) && (decide (g.kind=1) && !decide (g.space=x.h.space) && !decide (i∈x.taken))
 | none=>false
theorem zv3 (x:Wk) (p q po pt pq:Option Addr) (n c m d no co nt ct nq cq:Nat) (i:Int) (w:World) (hr:SRow w .i64 pt nt ct x.taken) (hp:PRow w q m d x.h.pages) :
 Calls Tryz.prog 141 #[(.agg #[.int .i64 x.h.pw,.int .i64 x.h.np,.slice p n c,.slice q m d,.int .i64 x.h.space,.int .i64 x.h.bump,.slice po no co,.slice pt nt ct,.slice pq nq cq,.int .i64 x.sc,.int .i64 x.r0,.int .i64 x.r1,.int .i64 x.r2,.int .i64 x.r3,.int .i64 x.r4,.int .i64 x.r5]),.int .i64 i] w fun e w'=>e = .returned (.bool (zi2 x i))/\Below w.heap.size w w':=by
 have Hb:=qq (OwnL.new w [.int .i64 x.h.pw,.int .i64 x.h.np,.slice p n c,.slice q m d,.int .i64 x.h.space,.int .i64 x.h.bump,.slice po no co,.slice pt nt ct,.slice pq nq cq,.int .i64 x.sc,.int .i64 x.r0,.int .i64 x.r1,.int .i64 x.r2,.int .i64 x.r3,.int .i64 x.r4,.int .i64 x.r5] 146)
 have hb0:Below w.heap.size w (w.alloc (.cells #[.int .i64 x.h.pw,.int .i64 x.h.np,.slice p n c,.slice q m d,.int .i64 x.h.space,.int .i64 x.h.bump,.slice po no co,.slice pt nt ct,.slice pq nq cq,.int .i64 x.sc,.int .i64 x.r0,.int .i64 x.r1,.int .i64 x.r2,.int .i64 x.r3,.int .i64 x.r4,.int .i64 x.r5] 146)):=za1
 have hb1:∀ o,Below w.heap.size w ((w.alloc (.cells #[.int .i64 x.h.pw,.int .i64 x.h.np,.slice p n c,.slice q m d,.int .i64 x.h.space,.int .i64 x.h.bump,.slice po no co,.slice pt nt ct,.slice pq nq cq,.int .i64 x.sc,.int .i64 x.r0,.int .i64 x.r1,.int .i64 x.r2,.int .i64 x.r3,.int .i64 x.r4,.int .i64 x.r5] 146)).alloc o):=fun o=>za3 hb0 za1
 have hc:=qq (fun w' (hb:Below w.heap.size w w')=>reftaken_any x p q po pt pq n c m d no co nt ct nq cq i w' (hr.keep hb))
 have hl:=hp.i63.2
 have hlen:=hp.len
 have c3:=Hb.out.cell 3 _ rfl
 have c4:=Hb.out.cell 4 _ rfl
 have c7:=Hb.out.cell 7 _ rfl
 by_cases hi:0<=i/\i < m
 · obtain ⟨hi0,him⟩:=hi
   obtain ⟨k,rfl⟩:∃ k:Nat,i=k:=⟨i.toNat,by omega⟩
   have hkm:k < m:=by omega
   obtain ⟨g,b,off,hx,rfl,g0,g1,g2,g3⟩:=(hp.keep hb0).at_ hkm
   have EP:=qq (show zi2 x (k:Int)=(decide (g.kind=1) && !decide (g.space=x.h.space) && !decide ((k:Int)∈x.taken)) from by
    unfold zi2;rw [Int.toNat_natCast,hx];simp)
   obtain ⟨F,hF⟩:∃ F,Hid (decide ((k:Int)∈x.taken)=F):=⟨_,rfl⟩
   rw [hF.out] at hc EP
   have HB:=qq hb1
   clear hr hp hx hb0 hb1
   by_cases hk:g.kind=1
   · rw [decide_eq_true hk] at EP
     by_cases hs:g.space=x.h.space
     · rw [decide_eq_true hs] at EP
       go_enter Tryz.func141,Tryz.ntmps141
       go_wp2
       rw [EP.out]
       go_ret
       exact ⟨rfl,HB.out _⟩
     · rw [decide_eq_false hs] at EP
       have hs2:(g.space != x.h.space)=true:=bne_iff_ne.2 hs
       clear hs
       go_enter Tryz.func141,Tryz.ntmps141
       go_wp2_with fail
       refine (hc.out _ (HB.out _)).mono ?_
       rintro e w2 ⟨rfl,hb2⟩
       have HB2:=qq (za3 (HB.out _) hb2)
       clear hb2
       go_wp2
       rw [EP.out]
       go_ret
       exact ⟨by cases F <;> rfl,HB2.out⟩
   · rw [decide_eq_false hk] at EP
     have hk2:(g.kind == 1)=false:=beq_eq_false_iff_ne.2 hk
     clear hk
     go_enter Tryz.func141,Tryz.ntmps141
     go_wp2
     rw [EP.out]
     go_ret
     exact ⟨rfl,HB.out _⟩
 · have EP:=qq (show zi2 x i=false from by
    unfold zi2
    split
    · rename_i g hg
      have:=(List.getElem?_eq_some_iff.1 hg).1
      rw [decide_eq_false (by omega)];rfl
    · rfl)
   clear hp hr
   by_cases h0:i < 0
   · go_enter Tryz.func141,Tryz.ntmps141
     go_wp2
     rw [EP.out]
     go_ret
     exact ⟨rfl,hb0⟩
   · have h1:(m:Int)<=i:=by omega
     go_enter Tryz.func141,Tryz.ntmps141
     go_wp2
     rw [EP.out]
     go_ret
     exact ⟨rfl,hb0⟩
end Go.Proofs.YtipjdbhocjpmdaaGreat
