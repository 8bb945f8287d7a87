import Derived.Test.YtipjdbhocjpmdaaGreatQ01
import Derived.Test.YtipjdbhocjpmdaaGreatQ08
import Derived.Test.YtipjdbhocjpmdaaGreatQ27
import Derived.Deep.DeepCutAuto
set_option linter.unusedSimpArgs false
set_option linter.unusedVariables false
set_option maxRecDepth 100000
set_option maxHeartbeats 12800000
namespace Go.Proofs.YtipjdbhocjpmdaaGreat
open Go.RowKit
theorem one_rowi (w:World) (T:TypeId) (v:Int):SRow (w.alloc (.cells #[.int .i64 v] T)) .i64 (some ⟨w.heap.size,0,none⟩) 1 1 [v] :=
 ⟨rfl,Nat.le_refl _,by unfold maxLen;omega,fun i x hx=>by
  match i with
  | 0=>simp at hx;subst hx;exact ⟨_,_,rfl,by simp⟩
  | i+1=>simp at hx⟩
def RetPl (S:Nat->Prop) (ok:Bool) (x:Wk) (a:Int) (e:Ending) (w':World):Prop:=∃ v,e = .returned (.tuple #[v,.int .u64 (if ok then a else 0),.bool ok])/\WV w' S v (if ok then x else Wk.zero)
theorem refplace_any (S:Nat->Prop) (x:Wk) (p q po pt pq:Option Addr) (n c m d no co nt ct nq cq:Nat) (nn:Int) (w:World) (hr:WR w S x p q po pt pq n c m d no co nt ct nq cq) (hS:∀ b,S b->b < w.heap.size) (hx:PlOK x) (hn0:0<=nn) (hn9:nn<=1000) :
 Calls Tryz.prog 147 #[(.agg #[.int .i64 x.h.pw,.int .i64 x.h.np,.slice p n c,.slice q m d,.int .i64 x.h.space,.int .i64 x.h.bump,.slice po no co,.slice pt nt ct,.slice pq nq cq,.int .i64 x.sc,.int .i64 x.r0,.int .i64 x.r1,.int .i64 x.r2,.int .i64 x.r3,.int .i64 x.r4,.int .i64 x.r5]),.int .i64 nn] w fun e w'=>RetPl S (plB x nn) (plW x nn) (plA x nn) e w'/\Below w.heap.size w w':=by
 obtain ⟨i0,hin,hz0,hz1,hz2⟩:=info_parts zr6
 obtain ⟨i1,hi1,hi2,hi3,hi4⟩:=info_parts infoInt
 have hb0:Below w.heap.size w ((w.alloc (.cells #[.int .i64 x.h.pw,.int .i64 x.h.np,.slice p n c,.slice q m d,.int .i64 x.h.space,.int .i64 x.h.bump,.slice po no co,.slice pt nt ct,.slice pq nq cq,.int .i64 x.sc,.int .i64 x.r0,.int .i64 x.r1,.int .i64 x.r2,.int .i64 x.r3,.int .i64 x.r4,.int .i64 x.r5] 146)).alloc (.cells #[.int .i64 0,.int .i64 0,.slice none 0 0,.slice none 0 0,.int .i64 0,.int .i64 0,.slice none 0 0,.slice none 0 0,.slice none 0 0,.int .i64 0,.int .i64 0,.int .i64 0,.int .i64 0,.int .i64 0,.int .i64 0,.int .i64 0] 146)):=za3 za1 za1
 have Hr:=qq (fun w' (hb:Below w.heap.size w w')=>hr.keep hb)
 have Hq:=qq (hr.pages.keep (za3 hb0 (za1 (o:=.cells #[] 77))))
 have hml:=hr.pages.len
 have hmt:=hr.taken.len
 have hm0:1<=m:=by have:=hx.np0;omega
 have hm64:m<=64:=by have:=hx.np1;omega
 have hnt:nt<=1000:=by have:=hx.tk;omega
 have hown0:(((w.alloc (.cells #[.int .i64 x.h.pw,.int .i64 x.h.np,.slice p n c,.slice q m d,.int .i64 x.h.space,.int .i64 x.h.bump,.slice po no co,.slice pt nt ct,.slice pq nq cq,.int .i64 x.sc,.int .i64 x.r0,.int .i64 x.r1,.int .i64 x.r2,.int .i64 x.r3,.int .i64 x.r4,.int .i64 x.r5] 146)).alloc (.cells #[.int .i64 0,.int .i64 0,.slice none 0 0,.slice none 0 0,.int .i64 0,.int .i64 0,.slice none 0 0,.slice none 0 0,.slice none 0 0,.int .i64 0,.int .i64 0,.int .i64 0,.int .i64 0,.int .i64 0,.int .i64 0,.int .i64 0] 146)).alloc (.cells #[] 77)).ownsRow (w.heap.size+1+1) 77 4 (.slice (some ⟨w.heap.size+1+1,0,none⟩) 0 0) 0 []:=by
  simpa using zf9 ((w.alloc (.cells #[.int .i64 x.h.pw,.int .i64 x.h.np,.slice p n c,.slice q m d,.int .i64 x.h.space,.int .i64 x.h.bump,.slice po no co,.slice pt nt ct,.slice pq nq cq,.int .i64 x.sc,.int .i64 x.r0,.int .i64 x.r1,.int .i64 x.r2,.int .i64 x.r3,.int .i64 x.r4,.int .i64 x.r5] 146)).alloc (.cells #[.int .i64 0,.int .i64 0,.slice none 0 0,.slice none 0 0,.int .i64 0,.int .i64 0,.slice none 0 0,.slice none 0 0,.slice none 0 0,.int .i64 0,.int .i64 0,.int .i64 0,.int .i64 0,.int .i64 0,.int .i64 0,.int .i64 0] 146)) 77 4
 have Ha:=qq ((show OwnL (w.alloc (.cells #[.int .i64 x.h.pw,.int .i64 x.h.np,.slice p n c,.slice q m d,.int .i64 x.h.space,.int .i64 x.h.bump,.slice po no co,.slice pt nt ct,.slice pq nq cq,.int .i64 x.sc,.int .i64 x.r0,.int .i64 x.r1,.int .i64 x.r2,.int .i64 x.r3,.int .i64 x.r4,.int .i64 x.r5] 146)) w.heap.size [.int .i64 x.h.pw,.int .i64 x.h.np,.slice p n c,.slice q m d,.int .i64 x.h.space,.int .i64 x.h.bump,.slice po no co,.slice pt nt ct,.slice pq nq cq,.int .i64 x.sc,.int .i64 x.r0,.int .i64 x.r1,.int .i64 x.r2,.int .i64 x.r3,.int .i64 x.r4,.int .i64 x.r5] from OwnL.new _ _ _).keep (za1 (o:=(.cells #[.int .i64 0,.int .i64 0,.slice none 0 0,.slice none 0 0,.int .i64 0,.int .i64 0,.slice none 0 0,.slice none 0 0,.slice none 0 0,.int .i64 0,.int .i64 0,.int .i64 0,.int .i64 0,.int .i64 0,.int .i64 0,.int .i64 0] 146))) (by simp))
 have Hb:=qq (show OwnL ((w.alloc (.cells #[.int .i64 x.h.pw,.int .i64 x.h.np,.slice p n c,.slice q m d,.int .i64 x.h.space,.int .i64 x.h.bump,.slice po no co,.slice pt nt ct,.slice pq nq cq,.int .i64 x.sc,.int .i64 x.r0,.int .i64 x.r1,.int .i64 x.r2,.int .i64 x.r3,.int .i64 x.r4,.int .i64 x.r5] 146)).alloc (.cells #[.int .i64 0,.int .i64 0,.slice none 0 0,.slice none 0 0,.int .i64 0,.int .i64 0,.slice none 0 0,.slice none 0 0,.slice none 0 0,.int .i64 0,.int .i64 0,.int .i64 0,.int .i64 0,.int .i64 0,.int .i64 0,.int .i64 0] 146)) (w.heap.size+1) [.int .i64 0,.int .i64 0,.slice none 0 0,.slice none 0 0,.int .i64 0,.int .i64 0,.slice none 0 0,.slice none 0 0,.slice none 0 0,.int .i64 0,.int .i64 0,.int .i64 0,.int .i64 0,.int .i64 0,.int .i64 0,.int .i64 0] from by
  have:=OwnL.new (w.alloc (.cells #[.int .i64 x.h.pw,.int .i64 x.h.np,.slice p n c,.slice q m d,.int .i64 x.h.space,.int .i64 x.h.bump,.slice po no co,.slice pt nt ct,.slice pq nq cq,.int .i64 x.sc,.int .i64 x.r0,.int .i64 x.r1,.int .i64 x.r2,.int .i64 x.r3,.int .i64 x.r4,.int .i64 x.r5] 146)) [.int .i64 0,.int .i64 0,.slice none 0 0,.slice none 0 0,.int .i64 0,.int .i64 0,.slice none 0 0,.slice none 0 0,.slice none 0 0,.int .i64 0,.int .i64 0,.int .i64 0,.int .i64 0,.int .i64 0,.int .i64 0,.int .i64 0] 146
  simpa using this)
 have HB0:=qq hb0
 have c3:=Ha.out.cell 3 _ rfl
 clear hr hb0
 go_enter Tryz.func147,Tryz.ntmps147
 go_wp2_with (at_builtin;refine zg3 rfl _ _ 25 rfl (w.heap.size+1+1) 77 i0 _ 4 32 Tryz.underlying25 hin hz0 hz1 hz2 rfl (by decide) (.slice (some ⟨w.heap.size+1+1,0,none⟩) 0 0) 0 [] rfl hown0 q m d (zc4 x.h.pages) rfl ?src (zr1 x.h.pages) ?c3 ?c4 ?c5 ?_)
 case src=>exact Hq.out
 case c3=>unfold maxLen;omega
 case c4=>omega
 case c5=>simp
 intro v' w2 hown hgrow
 have hb2:Below (w.heap.size+1+1) ((w.alloc (.cells #[.int .i64 x.h.pw,.int .i64 x.h.np,.slice p n c,.slice q m d,.int .i64 x.h.space,.int .i64 x.h.bump,.slice po no co,.slice pt nt ct,.slice pq nq cq,.int .i64 x.sc,.int .i64 x.r0,.int .i64 x.r1,.int .i64 x.r2,.int .i64 x.r3,.int .i64 x.r4,.int .i64 x.r5] 146)).alloc (.cells #[.int .i64 0,.int .i64 0,.slice none 0 0,.slice none 0 0,.int .i64 0,.int .i64 0,.slice none 0 0,.slice none 0 0,.slice none 0 0,.int .i64 0,.int .i64 0,.int .i64 0,.int .i64 0,.int .i64 0,.int .i64 0,.int .i64 0] 146)) w2 :=
  ((Below.refl _ _).alloc (by simp) _).grown hgrow (by simp) (fun k h=>by simp [Value.ownBlock] at h;omega)
 obtain ⟨g,cc,rfl,hg,hgl⟩:=World.ownsRow.form hown (by omega)
 replace Hown:=qq hown
 replace Ha:=qq (Ha.out.keep (by simpa using hb2) (by simp;omega))
 replace Hb:=qq (Hb.out.keep (by simpa using hb2) (by simp))
 have HB2:=qq (HB0.out.trans (hb2.mono (by omega)))
 have hl2:w.heap.size+1 < w2.heap.size:=Hb.out.lt rfl
 clear hgrow hown hb2 hown0 HB0 c3
 have c0:=Ha.out.cell 0 _ rfl
 have c1:=Ha.out.cell 1 _ rfl
 have c2:=Ha.out.cell 2 _ rfl
 have c3:=Ha.out.cell 3 _ rfl
 have c4:=Ha.out.cell 4 _ rfl
 have c5:=Ha.out.cell 5 _ rfl
 have c6:=Ha.out.cell 6 _ rfl
 have c7:=Ha.out.cell 7 _ rfl
 have c8:=Ha.out.cell 8 _ rfl
 have c9:=Ha.out.cell 9 _ rfl
 have c10:=Ha.out.cell 10 _ rfl
 have c11:=Ha.out.cell 11 _ rfl
 have c12:=Ha.out.cell 12 _ rfl
 have c13:=Ha.out.cell 13 _ rfl
 have c14:=Ha.out.cell 14 _ rfl
 have c15:=Ha.out.cell 15 _ rfl
 have f3:=Ha.out.free 3
 obtain ⟨w3,hw3⟩:∃ w3,Hid (w2.setCell ⟨w.heap.size,3,none⟩ (.slice (some ⟨g,0,none⟩) m cc)=w3):=⟨_,rfl⟩
 replace Ha:=qq (show OwnL w3 w.heap.size [.int .i64 x.h.pw,.int .i64 x.h.np,.slice p n c,.slice (some ⟨g,0,none⟩) m cc,.int .i64 x.h.space,.int .i64 x.h.bump,.slice po no co,.slice pt nt ct,.slice pq nq cq,.int .i64 x.sc,.int .i64 x.r0,.int .i64 x.r1,.int .i64 x.r2,.int .i64 x.r3,.int .i64 x.r4,.int .i64 x.r5] from by rw [<-hw3.out];exact Ha.out.set 3 (.slice (some ⟨g,0,none⟩) m cc) (by simp))
 replace Hb:=qq (show OwnL w3 (w.heap.size+1) [.int .i64 0,.int .i64 0,.slice none 0 0,.slice none 0 0,.int .i64 0,.int .i64 0,.slice none 0 0,.slice none 0 0,.slice none 0 0,.int .i64 0,.int .i64 0,.int .i64 0,.int .i64 0,.int .i64 0,.int .i64 0,.int .i64 0] from by rw [<-hw3.out];exact Hb.out.other ⟨w.heap.size,3,none⟩ (.slice (some ⟨g,0,none⟩) m cc) (by simp))
 replace Hown:=qq (show w3.ownsRow (w.heap.size+1+1) 77 4 (.slice (some ⟨g,0,none⟩) m cc) m (zc4 x.h.pages) from by rw [<-hw3.out];exact zd0 Hown.out ⟨w.heap.size,3,none⟩ (.slice (some ⟨g,0,none⟩) m cc) (by simp only;omega))
 replace HB:=qq (show Below w.heap.size w w3 from by rw [<-hw3.out];exact HB2.out.setCell (p:=⟨w.heap.size,3,none⟩) (Nat.le_refl _) (.slice (some ⟨g,0,none⟩) m cc))
 replace Hrow:=qq (show PRow w3 (some ⟨g,0,none⟩) m cc x.h.pages from by
  obtain ⟨q',c',hv,hrow⟩:=PRow.of_own Hown.out
  injection hv with v1 v2 v3
  subst v1 v3
  exact hrow)
 replace HR:=qq (Hr.out _ HB.out)
 have hl3:w.heap.size+1 < w3.heap.size:=Hb.out.lt rfl
 clear HB2 Hq
 go_upto_region 4 with fail
 clear c0 c1 c2 c3 c4 c5 c6 c7 c8 c9 c10 c11 c12 c13 c14 c15 f3
 rw [hw3.out]
 have c0:=Ha.out.cell 0 _ rfl
 have c1:=Ha.out.cell 1 _ rfl
 have c2:=Ha.out.cell 2 _ rfl
 have c3:=Ha.out.cell 3 _ rfl
 have c4:=Ha.out.cell 4 _ rfl
 have c5:=Ha.out.cell 5 _ rfl
 have c6:=Ha.out.cell 6 _ rfl
 have c7:=Ha.out.cell 7 _ rfl
 have c8:=Ha.out.cell 8 _ rfl
 have c9:=Ha.out.cell 9 _ rfl
 have c10:=Ha.out.cell 10 _ rfl
 have c11:=Ha.out.cell 11 _ rfl
 have c12:=Ha.out.cell 12 _ rfl
 have c13:=Ha.out.cell 13 _ rfl
 have c14:=Ha.out.cell 14 _ rfl
 have c15:=Ha.out.cell 15 _ rfl
 obtain ⟨RB,hRB⟩:∃ RB,Hid (zs2 x nn=RB):=⟨_,rfl⟩
 go_cut [42] (fun t wx=>t = .bool RB/\∃ dd,wx=w3.drewN dd)
 case first =>
  by_cases h0:nt=0
  · have E:=qq (show false=RB from by
     rw [<-hRB.out];unfold zs2
     have:x.taken=[]:=List.length_eq_zero_iff.1 (by omega)
     rw [this];rfl)
    subst h0
    clear hRB
    go_quiet (fail)
    go_wp2_with fail
    go_meet
    exact ⟨by rw [<-E.out],_,rfl⟩
  · obtain ⟨k,hk⟩:∃ k:Nat,nt=k+1:=⟨nt - 1,by omega⟩
    obtain ⟨v,b,off,hv,rfl,d0⟩:=HR.out.taken.at_ (k:=k) (by omega)
    have hgl:x.taken.getLast?=some v:=by rw [List.getLast?_eq_getElem?,hmt,hk,Nat.add_sub_cancel];exact hv
    obtain ⟨kk,rfl,g9,g91,g92,g93⟩:=hx.last v hgl
    have hkm:kk < m:=by have:=(List.getElem?_eq_some_iff.1 g91).1;omega
    obtain ⟨x',b9,o9,hx',ha9,y0,y1,y2,y3⟩:=Hrow.out.at_ hkm
    obtain rfl:g9=x':=by rw [g91] at hx';exact Option.some.inj hx'
    injection ha9 with ha9
    injection ha9 with a1 a2
    subst a1 a2
    rw [Nat.zero_add] at y0 y1 y2 y3
    have hkl:(kk:Int) < m:=by omega
    have hkn:(k:Int) < nt:=by omega
    have hp1:=hx.pw1
    have e1:IntKind.i64.wrap ((nt:Int) - 1)=(k:Int):=by rw [hk];rw [IntWalk.i64_in _ (by omega)];omega
    have e2:IntKind.i64.wrap (g9.used+nn)=g9.used+nn:=IntWalk.i64_in _ (by omega)
    have hd:decide (0 < nt)=true:=decide_eq_true (by omega)
    have E:=qq (show decide (g9.used+nn<=x.h.pw)=RB from by
     rw [<-hRB.out];unfold zs2;rw [hgl];simp only [Int.toNat_natCast,zc6 g91])
    clear hk hv hgl g91 hx' hRB h0
    go_quiet (fail)
    go_wp2_with fail
    go_meet
    exact ⟨by rw [<-E.out],_,rfl⟩
 case rest =>
  obtain ⟨rfl,dd,hwc⟩:=hcut
  have hbd:Below w3.heap.size w3 wc:=by rw [hwc];exact below_drewN (Below.refl _ _) _
  replace Ha:=qq (Ha.out.keep hbd (by omega))
  replace Hb:=qq (Hb.out.keep hbd hl3)
  replace Hown:=qq (zb5 Hown.out hbd)
  replace Hrow:=qq (Hrow.out.keep hbd)
  replace HB:=qq (za3 HB.out hbd)
  replace HR:=qq (HR.out.keep hbd)
  have hc4:w.heap.size < wc.heap.size:=Ha.out.lt rfl
  have hc5:w.heap.size+1 < wc.heap.size:=Hb.out.lt rfl
  have hgg:w.heap.size+1+1<=g/\g < wc.heap.size:=Hown.out.lt g rfl
  clear hbd hwc c0 c1 c2 c3 c4 c5 c6 c7 c8 c9 c10 c11 c12 c13 c14 c15 hl3 hl2 hw3 hg hgl
  have c0:=Ha.out.cell 0 _ rfl
  have c1:=Ha.out.cell 1 _ rfl
  have c2:=Ha.out.cell 2 _ rfl
  have c3:=Ha.out.cell 3 _ rfl
  have c4:=Ha.out.cell 4 _ rfl
  have c5:=Ha.out.cell 5 _ rfl
  have c6:=Ha.out.cell 6 _ rfl
  have c7:=Ha.out.cell 7 _ rfl
  have c8:=Ha.out.cell 8 _ rfl
  have c9:=Ha.out.cell 9 _ rfl
  have c10:=Ha.out.cell 10 _ rfl
  have c11:=Ha.out.cell 11 _ rfl
  have c12:=Ha.out.cell 12 _ rfl
  have c13:=Ha.out.cell 13 _ rfl
  have c14:=Ha.out.cell 14 _ rfl
  have c15:=Ha.out.cell 15 _ rfl
  go_upto_if 42 with fail
  go_cut [7] (fun t wx=>∃ g' c' pt' nt' ct',t = .int .i64 (plJ x nn)/\plB x nn=true/\OwnL wx w.heap.size [.int .i64 x.h.pw,.int .i64 x.h.np,.slice p n c,.slice (some ⟨g',0,none⟩) m c',.int .i64 x.h.space,.int .i64 x.h.bump,.slice po no co,.slice pt' nt' ct',.slice pq nq cq,.int .i64 x.sc,.int .i64 x.r0,.int .i64 x.r1,.int .i64 x.r2,.int .i64 x.r3,.int .i64 x.r4,.int .i64 x.r5]/\OwnL wx (w.heap.size+1) [.int .i64 0,.int .i64 0,.slice none 0 0,.slice none 0 0,.int .i64 0,.int .i64 0,.slice none 0 0,.slice none 0 0,.slice none 0 0,.int .i64 0,.int .i64 0,.int .i64 0,.int .i64 0,.int .i64 0,.int .i64 0,.int .i64 0]/\wx.ownsRow (w.heap.size+1+1) 77 4 (.slice (some ⟨g',0,none⟩) m c') m (zc4 (plPs x nn))/\SRow wx .i64 pt' nt' ct' (plT x nn)/\(plT x nn≠[]->∀ ad,pt'=some ad->ad.block≠g'/\(ad.block < w.heap.size\/w.heap.size+1 < ad.block)/\¬S ad.block)/\Below w.heap.size w wx)
  case first =>
   cases RB
   · obtain ⟨F,hF⟩:∃ F,Hid (zc7 x.h.pages 1=F):=⟨_,rfl⟩
     have hfs:=qq (fun w' (hr:PRow w' (some ⟨g,0,none⟩) m cc x.h.pages)=>yb4 (some ⟨g,0,none⟩) m cc x.h.pages 1 w' hr (by omega))
     rw [hF.out] at hfs
     have hc4':w.heap.size < wc.heap.size:=hc4
     go_wp2_with fail
     refine (hfs.out _ Hrow.out).mono ?_
     rintro e w6 ⟨rfl,hb6⟩
     replace Ha:=qq (Ha.out.keep hb6 hc4)
     replace Hb:=qq (Hb.out.keep hb6 hc5)
     replace Hrow:=qq (Hrow.out.keep hb6)
     replace HB:=qq (za3 HB.out hb6)
     replace HR:=qq (HR.out.keep hb6)
     have hd4:w.heap.size < w6.heap.size:=Ha.out.lt rfl
     have hd5:w.heap.size+1 < w6.heap.size:=Hb.out.lt rfl
     clear hb6 hfs Hown c0 c1 c2 c3 c4 c5 c6 c7 c8 c9 c10 c11 c12 c13 c14 c15 hc4'
     have c0:=Ha.out.cell 0 _ rfl
     have c1:=Ha.out.cell 1 _ rfl
     have c2:=Ha.out.cell 2 _ rfl
     have c3:=Ha.out.cell 3 _ rfl
     have c4:=Ha.out.cell 4 _ rfl
     have c5:=Ha.out.cell 5 _ rfl
     have c6:=Ha.out.cell 6 _ rfl
     have c7:=Ha.out.cell 7 _ rfl
     have c8:=Ha.out.cell 8 _ rfl
     have c9:=Ha.out.cell 9 _ rfl
     have c10:=Ha.out.cell 10 _ rfl
     have c11:=Ha.out.cell 11 _ rfl
     have c12:=Ha.out.cell 12 _ rfl
     have c13:=Ha.out.cell 13 _ rfl
     have c14:=Ha.out.cell 14 _ rfl
     have c15:=Ha.out.cell 15 _ rfl
     by_cases hF0:F < 0
     · have EP:=qq (show plB x nn=false from by unfold plB;rw [hRB.out,hF.out,decide_eq_false (by omega)];rfl)
       have hl9:=Hb.out.lt rfl
       go_wp2_with (first | ((with_reducible show wpList _ _ _ _ _ _);refine za6 (op:=⟨none,.store 146 _ _,_,_,_,_⟩) rfl _ _ _ rfl _ ?hx [.int .i64 0,.int .i64 0,.slice none 0 0,.slice none 0 0,.int .i64 0,.int .i64 0,.slice none 0 0,.slice none 0 0,.slice none 0 0,.int .i64 0,.int .i64 0,.int .i64 0,.int .i64 0,.int .i64 0,.int .i64 0,.int .i64 0] _ ?hy Hb.out rfl rfl za8 ?_))
       case hx=>rfl
       case hy=>rfl
       intro w9 ho hbt hst
       have HZ:=qq ho
       have HXB:=qq (HB.out.trans (hbt.low (by omega) (by omega)))
       clear ho hbt
       go_wp2
       refine bodyPost_ret (ze5 rfl rfl HZ.out za8) rfl ?_
       rw [EP.out]
       exact ⟨⟨_,rfl,WV.zero _ _⟩,HXB.out⟩
     · have hF1:0<=F:=by omega
       have EP:=qq (show plB x nn=true from by unfold plB;rw [hF.out,decide_eq_true hF1,Bool.or_true])
       have E1:=qq (show plJ x nn=F from by unfold plJ;rw [hRB.out,hF.out];rfl)
       have E2:=qq (show plPs x nn=zj3 x.h.pages F (1 - x.h.space) from by unfold plPs;rw [hRB.out,hF.out];rfl)
       have E4:=qq (show plT x nn=x.taken ++ [F] from by unfold plT;rw [hRB.out,hF.out];rfl)
       obtain ⟨j,y,s1,s2,s3,-⟩:=ya7 hx EP.out
       have hsm:=qq (fun w' (hr:PRow w' (some ⟨g,0,none⟩) m cc x.h.pages)=>ye5 (some ⟨g,0,none⟩) m cc x.h.pages F (1 - x.h.space) w' hr (by omega))
       rw [<-E2.out] at hsm
       generalize zk9 x.h.pages F (1 - x.h.space)=SE at hsm
       have HS3:=qq s3
       have q0:=hx.sp0
       have q1:=hx.sp1
       have e1:IntKind.i64.wrap (1 - x.h.space)=1 - x.h.space:=IntWalk.i64_in _ (by omega)
       clear s1 s2 s3
       go_wp2_with fail
       refine (hsm.out _ Hrow.out).mono ?_
       rintro e w7 ⟨⟨q7,m7,l7,rfl,hown7⟩,hb7⟩
       have hm7:m=m7:=by have:=hown7.1;rw [zr0,HS3.out] at this;omega
       subst hm7
       obtain ⟨g7,c7',hv7,hg7,hgl7⟩:=World.ownsRow.form hown7 (by omega)
       injection hv7 with v1 v2 v3
       subst v1 v3
       replace Ha:=qq (Ha.out.keep hb7 hd4)
       replace Hb:=qq (Hb.out.keep hb7 hd5)
       replace HB:=qq (za3 HB.out hb7)
       replace HR:=qq (HR.out.keep hb7)
       have Hown7:=qq (zg6 hown7 (show w.heap.size+1+1<=w6.heap.size by omega))
       have hh4:w.heap.size < w7.heap.size:=Ha.out.lt rfl
       have hh5:w.heap.size+1 < w7.heap.size:=Hb.out.lt rfl
       have hgg7:=Hown7.out.lt g7 rfl
       clear hb7 hsm c0 c1 c2 c3 c4 c5 c6 c7 c8 c9 c10 c11 c12 c13 c14 c15 v2 hown7 e1
       have c0:=Ha.out.cell 0 _ rfl
       have c1:=Ha.out.cell 1 _ rfl
       have c2:=Ha.out.cell 2 _ rfl
       have c3:=Ha.out.cell 3 _ rfl
       have c4:=Ha.out.cell 4 _ rfl
       have c5:=Ha.out.cell 5 _ rfl
       have c6:=Ha.out.cell 6 _ rfl
       have c7:=Ha.out.cell 7 _ rfl
       have c8:=Ha.out.cell 8 _ rfl
       have c9:=Ha.out.cell 9 _ rfl
       have c10:=Ha.out.cell 10 _ rfl
       have c11:=Ha.out.cell 11 _ rfl
       have c12:=Ha.out.cell 12 _ rfl
       have c13:=Ha.out.cell 13 _ rfl
       have c14:=Ha.out.cell 14 _ rfl
       have c15:=Ha.out.cell 15 _ rfl
       have k3:=Ha.out.free 3
       have Ha8:=qq (Ha.out.set 3 (.slice (some ⟨g7,0,none⟩) m l7) (by simp))
       have Hb8:=qq (Hb.out.other ⟨w.heap.size,3,none⟩ (.slice (some ⟨g7,0,none⟩) m l7) (by simp))
       have Hown8:=qq (zd0 Hown7.out ⟨w.heap.size,3,none⟩ (.slice (some ⟨g7,0,none⟩) m l7) (by simp only;omega))
       have HB8:=qq (HB.out.setCell (p:=⟨w.heap.size,3,none⟩) (Nat.le_refl _) (.slice (some ⟨g7,0,none⟩) m l7))
       have hown8:((w7.setCell ⟨w.heap.size,3,none⟩ (.slice (some ⟨g7,0,none⟩) m l7)).alloc (.cells #[] 3)).ownsRow w7.heap.size 3 1 (.slice (some ⟨w7.heap.size,0,none⟩) 0 0) 0 []:=by
        simpa using zf9 (w7.setCell ⟨w.heap.size,3,none⟩ (.slice (some ⟨g7,0,none⟩) m l7)) 3 1
       have HR8:=qq ((Hr.out _ HB8.out).taken.keep (za1 (o:=.cells #[] 3)))
       go_wp2_with (at_builtin;refine zd7 rfl _ _ 28 rfl w7.heap.size 3 i1 (.int .i64 0) 8 Tryz.underlying28 hi1 hi2 hi3 hi4 rfl (.slice (some ⟨w7.heap.size,0,none⟩) 0 0) 0 [] rfl hown8 pt nt ct .i64 x.taken rfl ?src ?c3 ?c4 ?c5 ?_)
       case src=>exact HR8.out
       case c3=>unfold maxLen;omega
       case c4=>omega
       case c5=>simp
       intro v9 w9 hown9 hgrow9
       have hb9:Below w7.heap.size (w7.setCell ⟨w.heap.size,3,none⟩ (.slice (some ⟨g7,0,none⟩) m l7)) w9 :=
        ((Below.refl _ _).alloc (by simp) _).grown hgrow9 (by simp) (fun k h=>by simp [Value.ownBlock] at h;omega)
       have hs9:=hb9.size
       have Hown9:=qq hown9
       simp at hs9
       clear hgrow9 hown8 hown9
       go_wp2_with (at_builtin;refine zd7 rfl _ _ 28 rfl w7.heap.size 3 i1 (.int .i64 0) 8 Tryz.underlying28 hi1 hi2 hi3 hi4 rfl v9 _ _ rfl (Hown9.out.alloc _) (some ⟨w9.heap.size,0,none⟩) 1 1 .i64 [F] rfl (one_rowi w9 3 F) ?c3 ?c4 ?c5 ?_)
       case c3=>unfold maxLen;omega
       case c4=>omega
       case c5=>simp;omega
       intro v10 w10 hown10 hgrow10
       have hb10:Below w7.heap.size (w7.setCell ⟨w.heap.size,3,none⟩ (.slice (some ⟨g7,0,none⟩) m l7)) w10:=(hb9.alloc hs9 _).grown hgrow10 (by simp;omega) (fun j hj=>(Hown9.out.lt j hj).1)
       rw [ze4] at hown10
       obtain ⟨g10,l10,rfl,hg10,hgl10⟩:=World.ownsRow.form hown10 (by omega)
       have Hown10:=qq hown10
       replace Ha:=qq (Ha8.out.keep (by simpa using hb10) (by simpa using hh4))
       replace Hb:=qq (Hb8.out.keep (by simpa using hb10) (by simpa using hh5))
       replace Hown:=qq (zb5 Hown8.out (by simpa using hb10))
       replace HB:=qq (HB8.out.trans (hb10.mono (by omega)))
       clear hb9 hb10 hgrow10 hown10 Hown9 HB8 Hown8 Hown7 Ha8 Hb8 c0 c1 c2 c3 c4 c5 c6 c7 c8 c9 c10 c11 c12 c13 c14 c15 k3
       have k7:=Ha.out.free 7
       have c7:=Ha.out.cell 7 _ rfl
       go_wp2_with fail
       go_meet
       obtain ⟨p9,n9,e9,h9⟩:=SRow.of_own (zd0 Hown10.out ⟨w.heap.size,7,none⟩ (.slice (some ⟨g10,0,none⟩) (nt+1) l10) (by simp only;omega))
       injection e9 with e91 e92 e93
       subst e91 e93
       rw [E1.out,E2.out,E4.out]
       rw [<-E2.out]
       refine ⟨g7,l7,some ⟨g10,0,none⟩,nt+1,l10,rfl,EP.out,Ha.out.set 7 (.slice (some ⟨g10,0,none⟩) (nt+1) l10) (by simp),Hb.out.other ⟨w.heap.size,7,none⟩ _ (by simp),zd0 Hown.out ⟨w.heap.size,7,none⟩ _ (by simp only;omega),h9,fun _ ad ead=>?_,HB.out.setCell (p:=⟨w.heap.size,7,none⟩) (Nat.le_refl _) _⟩
       cases ead
       exact ⟨by simp only;omega,Or.inr (by simp only;omega),fun hs=>by have:=hS _ hs;simp only at this;omega⟩
   · have hre:=hRB.out
     unfold zs2 at hre
     cases hgl:x.taken.getLast? with
     | none=>rw [hgl] at hre;cases hre
     | some v =>
      have hnn:nt≠0:=by
       intro h0
       have:x.taken=[]:=List.length_eq_zero_iff.1 (by omega)
       rw [this] at hgl;cases hgl
      obtain ⟨k,hk⟩:∃ k:Nat,nt=k+1:=⟨nt - 1,by omega⟩
      have htk0:=(Hr.out w (Below.refl _ _)).taken
      obtain ⟨v2,b,off,hv,hpt,d0⟩:=HR.out.taken.at_ (k:=k) (by omega)
      obtain ⟨v3,b3,off3,-,hpt3,d3⟩:=htk0.at_ (k:=k) (by omega)
      have hbw:b < w.heap.size:=by
       rw [hpt] at hpt3
       injection hpt3 with h1
       injection h1 with h2 h3
       subst h2
       exact zb4 d3
      have hv2:v2=v:=by rw [List.getLast?_eq_getElem?,hmt,hk,Nat.add_sub_cancel,hv] at hgl;exact Option.some.inj hgl
      subst hv2
      have EP:=qq (show plB x nn=true from by unfold plB;rw [hRB.out];rfl)
      have E1:=qq (show plJ x nn=v2 from by unfold plJ;rw [hRB.out,hgl];rfl)
      have E2:=qq (show plPs x nn=x.h.pages from by unfold plPs;rw [hRB.out];rfl)
      have E4:=qq (show plT x nn=x.taken from by unfold plT;rw [hRB.out];rfl)
      have hkn:(k:Int) < nt:=by omega
      have e1:IntKind.i64.wrap ((nt:Int) - 1)=(k:Int):=by rw [hk];rw [IntWalk.i64_in _ (by omega)];omega
      clear hre hgl hv hk htk0 hpt3 d3
      subst hpt
      go_wp2_with fail
      go_meet
      refine ⟨g,cc,some ⟨b,off,none⟩,nt,ct,by rw [E1.out],EP.out,Ha.out,Hb.out,by rw [E2.out];exact Hown.out,by rw [E4.out];exact HR.out.taken,fun hne ad e=>?_,HB.out⟩
      rw [E4.out] at hne
      have hns:=HR.out.at_ hne ad e
      cases e
      exact ⟨by simp only;omega,Or.inl hbw,hns⟩
  case rest =>
   obtain ⟨g',c',pt',nt',ct',rfl,hok,ha,hb,hown,htk,hta,hB⟩:=hcut
   have hok2:=qq hok
   obtain ⟨j,y,s1,s2,s3,s4,s5,s6,-⟩:=ya7 hx hok
   have eW:=qq (show plW x nn={ x with h:={ x.h with pages:=(plPs x nn).set j ⟨y.kind,y.space,y.used+nn,y.pins⟩ },taken:=plT x nn } from by unfold plW useAt;rw [s1,Int.toNat_natCast,zc6 s4])
   have eA:=qq (show plA x nn=4096+(j:Int)*x.h.pw+y.used from by unfold plA;rw [s1,Int.toNat_natCast,zc6 s4])
   have hset:=qq (pvals_used (plPs x nn) j y (y.used+nn) s4)
   rw [s1]
   have hjm:j < m:=by omega
   have hjl:(j:Int) < m:=by omega
   obtain ⟨p0,p1,p2,p3⟩:=zp4 _ _ _ s4
   have q2:=hown.cellAt (j*4+2) (by omega)
   have fq:=hown.frozenAt (j*4+2)
   rw [p2] at q2
   have k1:=hx.pw0
   have k2:=hx.pw1
   have k3:=hx.np1
   obtain ⟨JP,hJP⟩:∃ JP,(j:Int)*x.h.pw=JP:=⟨_,rfl⟩
   have hJ0:0<=JP:=by rw [<-hJP];exact Int.mul_nonneg (by omega) (by omega)
   have hJ1:JP<=64*64:=by rw [<-hJP];exact Int.mul_le_mul (by omega) k2 (by omega) (by omega)
   have e1:IntKind.i64.wrap ((j:Int)*x.h.pw)=JP:=by rw [hJP];exact IntWalk.i64_in _ (by omega)
   have e2:IntKind.i64.wrap (4096+JP)=4096+JP:=IntWalk.i64_in _ (by omega)
   have e3:IntKind.i64.wrap (4096+JP+y.used)=4096+JP+y.used:=IntWalk.i64_in _ (by omega)
   replace Ha:=qq ha
   replace Hb:=qq hb
   replace Hown:=qq hown
   replace HB:=qq hB
   have HT:=qq htk
   have HTA:=qq hta
   have HJP:=qq hJP
   have hu64:y.used<=64:=by omega
   clear s1 s2 s3 s4 p0 p1 p2 p3 ha hb hown hB hJP hok htk hta c0 c1 c2 c3 c4 c5 c6 c7 c8 c9 c10 c11 c12 c13 c14 c15 HR Hrow hgg hc4 hc5
   have c0:=Ha.out.cell 0 _ rfl
   have c1:=Ha.out.cell 1 _ rfl
   have c2:=Ha.out.cell 2 _ rfl
   have c3:=Ha.out.cell 3 _ rfl
   have c4:=Ha.out.cell 4 _ rfl
   have c5:=Ha.out.cell 5 _ rfl
   have c6:=Ha.out.cell 6 _ rfl
   have c7:=Ha.out.cell 7 _ rfl
   have c8:=Ha.out.cell 8 _ rfl
   have c9:=Ha.out.cell 9 _ rfl
   have c10:=Ha.out.cell 10 _ rfl
   have c11:=Ha.out.cell 11 _ rfl
   have c12:=Ha.out.cell 12 _ rfl
   have c13:=Ha.out.cell 13 _ rfl
   have c14:=Ha.out.cell 14 _ rfl
   have c15:=Ha.out.cell 15 _ rfl
   go_wp2
   go_quiet (fail)
   clear e1 e2 e3
   obtain ⟨w6,hw6⟩:∃ w6,Hid (wc.drewN nq=w6):=⟨_,rfl⟩
   rw [hw6.out]
   have hbd:Below wc.heap.size wc w6:=by rw [<-hw6.out];exact below_drewN (Below.refl _ _) _
   replace q2:=za0 hbd q2
   have fq2:w6.frozen? ⟨g',j*4+2,none⟩=false:=by rw [<-hw6.out];simpa using fq
   have he4:w.heap.size < wc.heap.size:=Ha.out.lt rfl
   have he5:w.heap.size+1 < wc.heap.size:=Hb.out.lt rfl
   replace Ha:=qq (Ha.out.keep hbd he4)
   replace Hb:=qq (Hb.out.keep hbd he5)
   replace Hown:=qq (zb5 Hown.out hbd)
   replace HB:=qq (za3 HB.out hbd)
   replace HT:=qq (HT.out.keep hbd)
   have hgr:w.heap.size+1+1<=g':=(Hown.out.lt g' rfl).1
   clear hbd c0 c1 c2 c3 c4 c5 c6 c7 c8 c9 c10 c11 c12 c13 c14 c15 he4 he5 hw6 fq
   clear nq
   have c0:=Ha.out.cell 0 _ rfl
   have c1:=Ha.out.cell 1 _ rfl
   have c2:=Ha.out.cell 2 _ rfl
   have c3:=Ha.out.cell 3 _ rfl
   have c4:=Ha.out.cell 4 _ rfl
   have c5:=Ha.out.cell 5 _ rfl
   have c6:=Ha.out.cell 6 _ rfl
   have c7:=Ha.out.cell 7 _ rfl
   have c8:=Ha.out.cell 8 _ rfl
   have c9:=Ha.out.cell 9 _ rfl
   have c10:=Ha.out.cell 10 _ rfl
   have c11:=Ha.out.cell 11 _ rfl
   have c12:=Ha.out.cell 12 _ rfl
   have c13:=Ha.out.cell 13 _ rfl
   have c14:=Ha.out.cell 14 _ rfl
   have c15:=Ha.out.cell 15 _ rfl
   have hst:=(Hown.out.stored (j*4+2) (.int .i64 (y.used+nn))).1
   rw [hset.out] at hst
   have Hst:=qq hst
   clear hst
   have hgn:g'≠w.heap.size:=by omega
   have hgn2:g'≠w.heap.size+1:=by omega
   go_wp2
   go_region
   generalize hW:World.drew _=W
   have hWd:Below (w6.setCell ⟨g',j*4+2,none⟩ (.int .i64 (y.used+nn))).heap.size (w6.setCell ⟨g',j*4+2,none⟩ (.int .i64 (y.used+nn))) W:=by rw [<-hW];exact (Below.refl _ _).drew
   have hl4:w.heap.size < w6.heap.size:=Ha.out.lt rfl
   have hl5:w.heap.size+1 < w6.heap.size:=Hb.out.lt rfl
   replace Ha:=qq ((Ha.out.other ⟨g',j*4+2,none⟩ (.int .i64 (y.used+nn)) hgn).keep hWd (by simpa using hl4))
   replace Hb:=qq ((Hb.out.other ⟨g',j*4+2,none⟩ (.int .i64 (y.used+nn)) hgn2).keep hWd (by simpa using hl5))
   replace Hown:=qq (zb5 Hst.out hWd)
   replace HB:=qq ((HB.out.setCell (p:=⟨g',j*4+2,none⟩) (by simp only;omega) (.int .i64 (y.used+nn))).trans (hWd.mono (by have:=HB.out.size;simpa using this)))
   replace HT:=qq ((ya6 (b:=g') (fun hne ad e=>(HTA.out hne ad e).1) [.int .i64 (y.used+nn)] (j*4+2) w6 HT.out).keep hWd)
   clear hWd hW c0 c1 c2 c3 c4 c5 c6 c7 c8 c9 c10 c11 c12 c13 c14 c15 q2 fq2 Hst
   have hl9:=Hb.out.lt rfl
   go_wp2_with (first | ((with_reducible show wpList _ _ _ _ _ _);refine za7 (op:=⟨some 109,.load 146 _,_,_,_,_⟩) rfl _ _ rfl _ rfl _ Ha.out za8 ?_) | ((with_reducible show wpList _ _ _ _ _ _);refine za6 (op:=⟨none,.store 146 _ _,_,_,_,_⟩) rfl _ _ _ rfl _ ?hx [.int .i64 x.h.pw,.int .i64 x.h.np,.slice p n c,.slice (some ⟨g',0,none⟩) m c',.int .i64 x.h.space,.int .i64 x.h.bump,.slice po no co,.slice pt' nt' ct',.slice pq nq cq,.int .i64 x.sc,.int .i64 x.r0,.int .i64 x.r1,.int .i64 x.r2,.int .i64 x.r3,.int .i64 x.r4,.int .i64 x.r5] _ ?hy Hb.out rfl rfl za8 ?_))
   case hx=>rfl
   case hy=>rfl
   intro w9 ho hbt hst
   have HZ:=qq ho
   have HXB:=qq (HB.out.trans (hbt.low (by omega) (by omega)))
   clear ho
   have HXo:=qq (zq7 Hown.out hbt hgn2)
   have HXT:=qq (HT.out.butNe hbt (fun hne ad e=>by have:=(HTA.out hne ad e).2.1;omega))
   have HXr:=qq (Hr.out _ HXB.out)
   go_wp2
   refine bodyPost_ret (ze5 rfl rfl HZ.out za8) rfl ?_
   refine ⟨?_,HXB.out⟩
   rw [hok2.out,eW.out,eA.out,HJP.out]
   obtain ⟨p9,c9,e9,h9⟩:=PRow.of_own HXo.out
   injection e9 with e91 e92 e93
   subst e91 e93
   exact ⟨_,rfl,p,some ⟨g',0,none⟩,po,pt',pq,n,c,m,c',no,co,nt',ct',nq,cq,rfl,HXr.out.words,h9,HXr.out.wb,HXr.out.old,HXT.out,HXr.out.queue,fun _ ad e=>by cases e;exact fun hs=>by have:=hS _ hs;simp only at this;omega,fun hne ad e=>(HTA.out hne ad e).2.2,HXr.out.aw,HXr.out.ao,HXr.out.aq⟩
end Go.Proofs.YtipjdbhocjpmdaaGreat
