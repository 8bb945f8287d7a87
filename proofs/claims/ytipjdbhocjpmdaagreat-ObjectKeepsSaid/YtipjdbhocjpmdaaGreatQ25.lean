import Derived.Test.YtipjdbhocjpmdaaGreatQ01
import Derived.Test.YtipjdbhocjpmdaaGreatQ24
import Derived.Deep.DeepCutAuto
set_option linter.unusedSimpArgs false
set_option linter.unusedVariables false
set_option maxRecDepth 100000
set_option maxHeartbeats 12800000
namespace Go.Proofs.YtipjdbhocjpmdaaGreat
open Go.RowKit
theorem pvals_used (ps:List Pg) (j:Nat) (x:Pg) (u:Int) (hx:ps[j]?=some x):(zc4 ps).set (j*4+2) (.int .i64 u)=zc4 (ps.set j ⟨x.kind,x.space,u,x.pins⟩):=by
 rw [<-zy6 ps j ⟨x.kind,x.space,u,x.pins⟩]
 obtain ⟨h0,h1,h2,h3⟩:=zp4 ps j x hx
 apply List.ext_getElem?
 intro i
 simp only [List.getElem?_set,List.length_set]
 by_cases i3:j*4+3=i
 · subst i3;rw [if_neg (by omega),if_pos rfl,h3];have:=(List.getElem?_eq_some_iff.1 h3).1;rw [if_pos this]
 · rw [if_neg i3]
   by_cases i2:j*4+2=i
   · rw [if_pos i2,if_pos i2]
   · rw [if_neg i2,if_neg i2]
     by_cases i1:j*4+1=i
     · subst i1;rw [if_pos rfl,h1];have:=(List.getElem?_eq_some_iff.1 h1).1;rw [if_pos this]
     · rw [if_neg i1]
       by_cases i0:j*4=i
       · subst i0;rw [if_pos rfl,h0];have:=(List.getElem?_eq_some_iff.1 h0).1;rw [if_pos this]
       · rw [if_neg i0]
theorem own_other6 {w:World} {B e s g n c b:Nat} {xs:List Value} (h:w.ownsRow B e s (.slice (some ⟨g,0,none⟩) n c) n xs) (hne:g≠b) (x0 x1 x2 x3 x4 x5:Value) :
 ((((((w.setCell ⟨b,0,none⟩ x0).setCell ⟨b,1,none⟩ x1).setCell ⟨b,2,none⟩ x2).setCell ⟨b,3,none⟩ x3).setCell ⟨b,4,none⟩ x4).setCell ⟨b,5,none⟩ x5).ownsRow B e s (.slice (some ⟨g,0,none⟩) n c) n xs :=
 zd0 (zd0 (zd0 (zd0 (zd0 (zd0 h _ x0 hne) _ x1 hne) _ x2 hne) _ x3 hne) _ x4 hne) _ x5 hne
def HVF (w:World) (B:Nat) (v:Value) (h:Hp):Prop:=∃ p n c q m d,v = .agg #[.int .i64 h.pw,.int .i64 h.np,.slice p n c,.slice q m d,.int .i64 h.space,.int .i64 h.bump]/\SRow w .u64 p n c h.words/\PRow w q m d h.pages/\WB h.words/\Fresh B q
theorem HVF.zero (w:World) (B:Nat):HVF w B (.agg #[.int .i64 0,.int .i64 0,.slice none 0 0,.slice none 0 0,.int .i64 0,.int .i64 0]) Hp.zero:=⟨none,0,0,none,0,0,rfl,SRow.nil _ _ _,PRow.nil _ _,WB.nil,fresh_none _⟩
theorem HVF.hv {w:World} {B:Nat} {v:Value} {h:Hp} (x:HVF w B v h):HV w v h:=by
 obtain ⟨p,n,c,q,m,d,e,a,b,c',-⟩:=x;exact ⟨p,n,c,q,m,d,e,a,b,c'⟩
theorem zu4 {w:World} {s:Nat} {p:Option Addr} {n cap:Nat} {vs:List Value} (h:VRow w s p n cap vs) (a:Addr) (x:Value) (hf:∀ ad,p=some ad->ad.block≠a.block):VRow (w.setCell a x) s p n cap vs:=by
 refine ⟨h.len,h.le,h.max,fun i v hv=>?_⟩
 obtain ⟨b,off,hp,hc⟩:=h.row i v hv
 refine ⟨b,off,hp,?_⟩
 rw [World.cell?_setCell_other _ _ _ _ (fun e=>hf _ hp (by rw [e]))];exact hc
theorem prow_other6 {w:World} {p:Option Addr} {n cap b:Nat} {ps:List Pg} (h:PRow w p n cap ps) (hf:∀ ad,p=some ad->ad.block≠b) (x0 x1 x2 x3 x4 x5:Value) :
 PRow ((((((w.setCell ⟨b,0,none⟩ x0).setCell ⟨b,1,none⟩ x1).setCell ⟨b,2,none⟩ x2).setCell ⟨b,3,none⟩ x3).setCell ⟨b,4,none⟩ x4).setCell ⟨b,5,none⟩ x5) p n cap ps :=
 zu4 (zu4 (zu4 (zu4 (zu4 (zu4 h _ x0 hf) _ x1 hf) _ x2 hf) _ x3 hf) _ x4 hf) _ x5 hf
def RetK (B:Nat) (ok:Bool) (h:Hp) (a:Int) (e:Ending) (w':World):Prop:=∃ v,e = .returned (.tuple #[v,.int .u64 (if ok then a else 0),.bool ok])/\HVF w' B v (if ok then h else Hp.zero)
theorem refSmall7_val {u:Value} {h:Hp} (nn:Int) (w:World) (hu:HV w u h) (h1:okH h=true) (hn0:0<=nn) (hn9:nn<=1000) :
 Calls Tryz.prog 121 #[u,.int .i64 nn] w fun e w'=>RetK w.heap.size (zf5 h nn) (zq5 h nn) (zq6 h nn) e w'/\Below w.heap.size w w':=by
 obtain ⟨p,n,c,q,m,d,rfl,hs,hr,hwb⟩:=hu
 obtain ⟨i0,hin,hz0,hz1,hz2⟩:=info_parts zr6
 have hb0:Below w.heap.size w ((w.alloc (.cells #[.int .i64 h.pw,.int .i64 h.np,.slice p n c,.slice q m d,.int .i64 h.space,.int .i64 h.bump] 27)).alloc (.cells #[.int .i64 0,.int .i64 0,.slice none 0 0,.slice none 0 0,.int .i64 0,.int .i64 0] 27)):=za3 za1 za1
 have Hr:=qq (hr.keep (za3 hb0 (za1 (o:=.cells #[] 77))))
 have Hs:=qq (fun w' (hb:Below w.heap.size w w')=>hs.keep hb)
 have Hm:=qq hr.len
 obtain ⟨g1,-,g3,-⟩:=zc2 h1
 obtain ⟨k1,k2,-,k4,k5⟩:=zb1 g1
 have hm64:m<=64:=by have:=hr.len;omega
 have hm8:8<=m:=by have:=hr.len;omega
 have hown0:(((w.alloc (.cells #[.int .i64 h.pw,.int .i64 h.np,.slice p n c,.slice q m d,.int .i64 h.space,.int .i64 h.bump] 27)).alloc (.cells #[.int .i64 0,.int .i64 0,.slice none 0 0,.slice none 0 0,.int .i64 0,.int .i64 0] 27)).alloc (.cells #[] 77)).ownsRow (w.heap.size+1+1) 77 4 (.slice (some ⟨w.heap.size+1+1,0,none⟩) 0 0) 0 []:=by
  simpa using zf9 ((w.alloc (.cells #[.int .i64 h.pw,.int .i64 h.np,.slice p n c,.slice q m d,.int .i64 h.space,.int .i64 h.bump] 27)).alloc (.cells #[.int .i64 0,.int .i64 0,.slice none 0 0,.slice none 0 0,.int .i64 0,.int .i64 0] 27)) 77 4
 have Ha:=qq (show OwnL (w.alloc (.cells #[.int .i64 h.pw,.int .i64 h.np,.slice p n c,.slice q m d,.int .i64 h.space,.int .i64 h.bump] 27)) w.heap.size [.int .i64 h.pw,.int .i64 h.np,.slice p n c,.slice q m d,.int .i64 h.space,.int .i64 h.bump] from OwnL.new _ _ _)
 have Hb:=qq (show OwnL ((w.alloc (.cells #[.int .i64 h.pw,.int .i64 h.np,.slice p n c,.slice q m d,.int .i64 h.space,.int .i64 h.bump] 27)).alloc (.cells #[.int .i64 0,.int .i64 0,.slice none 0 0,.slice none 0 0,.int .i64 0,.int .i64 0] 27)) (w.heap.size+1) [.int .i64 0,.int .i64 0,.slice none 0 0,.slice none 0 0,.int .i64 0,.int .i64 0] from by
  have:=OwnL.new (w.alloc (.cells #[.int .i64 h.pw,.int .i64 h.np,.slice p n c,.slice q m d,.int .i64 h.space,.int .i64 h.bump] 27)) [.int .i64 0,.int .i64 0,.slice none 0 0,.slice none 0 0,.int .i64 0,.int .i64 0] 27
  simpa using this)
 have HB0:=qq hb0
 clear hs hr hb0 g1 g3
 go_enter Tryz.func121,Tryz.ntmps121
 go_wp2_with (at_builtin;refine zg3 rfl _ _ 25 rfl (w.heap.size+1+1) 77 i0 _ 4 32 Tryz.underlying25 hin hz0 hz1 hz2 rfl (by decide) (.slice (some ⟨w.heap.size+1+1,0,none⟩) 0 0) 0 [] rfl hown0 q m d (zc4 h.pages) rfl ?src (zr1 h.pages) ?c3 ?c4 ?c5 ?_)
 case src=>exact Hr.out
 case c3=>unfold maxLen;omega
 case c4=>omega
 case c5=>simp
 intro v' w2 hown hgrow
 have hb2:Below (w.heap.size+1+1) ((w.alloc (.cells #[.int .i64 h.pw,.int .i64 h.np,.slice p n c,.slice q m d,.int .i64 h.space,.int .i64 h.bump] 27)).alloc (.cells #[.int .i64 0,.int .i64 0,.slice none 0 0,.slice none 0 0,.int .i64 0,.int .i64 0] 27)) w2 :=
  ((Below.refl _ _).alloc (by simp) _).grown hgrow (by simp) (fun k h=>by simp [Value.ownBlock] at h;omega)
 obtain ⟨g,cc,rfl,hg,hgl⟩:=World.ownsRow.form hown (by omega)
 have Hown:=qq hown
 have Ha:=qq ((Ha.out.keep za1 (by simp)).keep (by simpa using hb2) (by simp;omega))
 have Hb:=qq (Hb.out.keep (by simpa using hb2) (by simp))
 have HB2:=qq (HB0.out.trans (hb2.mono (by omega)))
 have c0:=Ha.out.cell 0 _ rfl
 have c1:=Ha.out.cell 1 _ rfl
 have c2:=Ha.out.cell 2 _ rfl
 have c3:=Ha.out.cell 3 _ rfl
 have c4:=Ha.out.cell 4 _ rfl
 have c5:=Ha.out.cell 5 _ rfl
 have f3:=Ha.out.free 3
 have hb1l:w.heap.size+1 < w2.heap.size:=Hb.out.lt rfl
 have Ha3:=qq (show OwnL (w2.setCell ⟨w.heap.size,3,none⟩ (.slice (some ⟨g,0,none⟩) m cc)) w.heap.size [.int .i64 h.pw,.int .i64 h.np,.slice p n c,.slice (some ⟨g,0,none⟩) m cc,.int .i64 h.space,.int .i64 h.bump] from Ha.out.set 3 (.slice (some ⟨g,0,none⟩) m cc) (by simp))
 have Hb3:=qq (Hb.out.other ⟨w.heap.size,3,none⟩ (.slice (some ⟨g,0,none⟩) m cc) (by simp))
 have Hown3:=qq (zd0 Hown.out ⟨w.heap.size,3,none⟩ (.slice (some ⟨g,0,none⟩) m cc) (by simp only;omega))
 have HB3:=qq (HB2.out.setCell (p:=⟨w.heap.size,3,none⟩) (Nat.le_refl _) (.slice (some ⟨g,0,none⟩) m cc))
 have hlm:=qq (fun w=>refLimit_any h.pw h.np w)
 obtain ⟨LV,hLV⟩:∃ LV,Hid (zq3 h.pw h.np=LV):=⟨_,rfl⟩
 rw [hLV.out] at hlm
 clear hgrow hown hb2 hown0 HB0 Ha Hb Hown HB2
 go_wp2_with fail
 refine (hlm.out _).mono ?_
 rintro e w4 ⟨rfl,hb4⟩
 have Ha:=qq (Ha3.out.keep hb4 (by simp;omega))
 have Hb:=qq (Hb3.out.keep hb4 (by simpa using hb1l))
 have Hown:=qq (zb5 Hown3.out hb4)
 have HB:=qq (za3 HB3.out hb4)
 clear hb4 hlm Ha3 Hb3 Hown3 HB3 c0 c1 c2 c3 c4 c5 f3
 have c0:=Ha.out.cell 0 _ rfl
 have c1:=Ha.out.cell 1 _ rfl
 have c2:=Ha.out.cell 2 _ rfl
 have c3:=Ha.out.cell 3 _ rfl
 have c4:=Ha.out.cell 4 _ rfl
 have c5:=Ha.out.cell 5 _ rfl
 have hrow:=PRow.of_own Hown.out
 obtain ⟨q',c',hv,hrow⟩:=hrow
 injection hv with v1 v2 v3
 subst v1 v3
 have Hrow:=qq hrow
 have hiu:=qq (refInUse_any (some ⟨g,0,none⟩) m cc h.pages w4 hrow)
 have hul:=inUse_le h.pages
 obtain ⟨U,hU⟩:∃ U,Hid (ze6 h.pages=U):=⟨_,rfl⟩
 rw [hU.out] at hiu hul
 have hUm:U<=m:=by have:=Hm.out;omega
 clear hrow v2
 go_wp2_with fail
 refine hiu.out.mono ?_
 rintro e w5 ⟨rfl,rfl⟩
 go_wp2_with fail
 obtain ⟨NB,hNB⟩:∃ NB,Hid (newB h nn=NB):=⟨_,rfl⟩
 have hND:=qq (show decide (h.bump < 0\/¬(zs1 h).space=h.space\/h.pw < (zs1 h).used+nn\/LV < U)=NB from by rw [<-hLV.out,<-hU.out];exact hNB.out)
 obtain ⟨g1,g2,g3,g4,g5,g6,g7⟩:=zc2 h1
 have hbc:h.bump < 0\/∃ k:Nat,∃ x,h.bump=k/\k < m/\h.pages[k]?=some x/\zs1 h=x/\0<=x.used/\x.used<=h.pw:=by
  rcases bump_cases h.pages h.bump with a | ⟨-,a⟩ | ⟨a0,a⟩ | ⟨k,x,a,hx⟩
  · exact Or.inl (by omega)
  · exact Or.inl a
  · exfalso
    have:=of_decide_eq_true g6
    omega
  · refine Or.inr ⟨k,x,a,by have:=(List.getElem?_eq_some_iff.1 hx).1;have:=Hm.out;omega,hx,by unfold zs1;rw [a,Int.toNat_natCast];exact zc6 hx,?_⟩
    rw [a,bumpB_at hx] at g6
    exact (zn2 _ _ _ _ g7 x (List.mem_of_getElem? hx)).2.2.2.2.2.1 (of_decide_eq_true g6)
 have hbc:=qq hbc
 clear g1 g2 g3 g4 g5 g6 g7 hul hiu
 go_upto_region 5 with fail
 go_cut [0,9,23,55] (fun t0 t9 t23 t wx=>t0 = .agg #[.int .i64 h.pw,.int .i64 h.np,.slice p n c,.slice q m d,.int .i64 h.space,.int .i64 h.bump]/\t9 = .int .i64 h.bump/\t23 = .int .i64 h.bump/\t = .bool NB/\∃ dd,wx=w4.drewN dd)
 case first =>
  rcases hbc.out with hlt | ⟨k,x,hk,hkm,hx,hbp,hu0,hu1⟩
  · have E:=qq (show true=NB from by rw [<-hND.out];exact (decide_eq_true (Or.inl hlt)).symm)
    have hd:decide (h.bump < 0)=true:=decide_eq_true hlt
    clear hND
    go_quiet (fail)
    go_wp2_with fail
    go_meet
    exact ⟨rfl,rfl,rfl,by rw [<-E.out],_,rfl⟩
  · obtain ⟨x',b9,o9,hx',ha9,y0,y1,y2,y3⟩:=Hrow.out.at_ hkm
    obtain rfl:x=x':=by rw [hx] at hx';exact Option.some.inj hx'
    injection ha9 with ha9
    injection ha9 with a1 a2
    subst a1 a2
    rw [Nat.zero_add] at y0 y1 y2 y3
    have hkl:(k:Int) < m:=by omega
    have hkn:¬((k:Int) < 0):=by omega
    have hd:decide (h.bump < 0)=false:=decide_eq_false (by omega)
    have hd2:decide ((k:Int) < 0)=false:=decide_eq_false (by omega)
    rw [hbp] at hND
    have hw1:IntKind.i64.wrap (x.used+nn)=x.used+nn:=IntWalk.i64_in _ (by omega)
    clear hx hx' hbp hkm
    by_cases hsp:x.space=h.space
    · have bs:(x.space != h.space)=false:=by rw [hsp];simp
      by_cases hfu:h.pw < x.used+nn
      · have E:=qq (show true=NB from by rw [<-hND.out];exact (decide_eq_true (Or.inr (Or.inr (Or.inl hfu)))).symm)
        have hd3:decide (h.pw < x.used+nn)=true:=decide_eq_true hfu
        clear hND hsp
        go_quiet (fail)
        go_wp2_with fail
        go_meet
        exact ⟨by rw [hk],by rw [hk],by rw [hk],by rw [<-E.out],_,rfl⟩
      · have hd3:decide (h.pw < x.used+nn)=false:=decide_eq_false hfu
        have E:=qq (show decide (LV < U)=NB from by rw [<-hND.out];exact decide_eq_decide.2 ⟨fun a=>Or.inr (Or.inr (Or.inr a)),fun a=>by rcases a with a | a | a | a;omega;exact absurd hsp a;exact absurd a hfu;exact a⟩)
        clear hND hsp hfu
        go_quiet (fail)
        go_wp2_with fail
        go_meet
        exact ⟨by rw [hk],by rw [hk],by rw [hk],by rw [<-E.out],_,rfl⟩
    · have bs:(x.space != h.space)=true:=bne_iff_ne.2 hsp
      have E:=qq (show true=NB from by rw [<-hND.out];exact (decide_eq_true (Or.inr (Or.inl hsp))).symm)
      clear hND hsp
      go_quiet (fail)
      go_wp2_with fail
      go_meet
      exact ⟨by rw [hk],by rw [hk],by rw [hk],by rw [<-E.out],_,rfl⟩
 case rest =>
  obtain ⟨rfl,rfl,rfl,rfl,dd,hwc⟩:=hcut
  have hbd:Below w4.heap.size w4 wc:=by rw [hwc];exact below_drewN (Below.refl _ _) _
  have hb4:w.heap.size < w4.heap.size:=Ha.out.lt rfl
  have hb5:w.heap.size+1 < w4.heap.size:=Hb.out.lt rfl
  have Ha:=qq (Ha.out.keep hbd hb4)
  have Hb:=qq (Hb.out.keep hbd hb5)
  have Hown:=qq (zb5 Hown.out hbd)
  have Hrow:=qq (Hrow.out.keep hbd)
  have HB:=qq (za3 HB.out hbd)
  have hc4:w.heap.size < wc.heap.size:=Ha.out.lt rfl
  have hc5:w.heap.size+1 < wc.heap.size:=Hb.out.lt rfl
  clear hbd hwc hbc c0 c1 c2 c3 c4 c5 hND hb4 hb5
  go_upto_if 55 with fail
  go_cut [9] (fun t wx=>∃ g' c',t = .int .i64 (zl3 h nn)/\zf5 h nn=true/\OwnL wx w.heap.size [.int .i64 h.pw,.int .i64 h.np,.slice p n c,.slice (some ⟨g',0,none⟩) m c',.int .i64 h.space,.int .i64 (zl3 h nn)]/\OwnL wx (w.heap.size+1) [.int .i64 0,.int .i64 0,.slice none 0 0,.slice none 0 0,.int .i64 0,.int .i64 0]/\wx.ownsRow (w.heap.size+1+1) 77 4 (.slice (some ⟨g',0,none⟩) m c') m (zc4 (zf8 h nn))/\Below w.heap.size w wx)
  case first =>
   cases NB
   · have E1:=qq (show zl3 h nn=h.bump from by unfold zl3;rw [hNB.out];rfl)
     have E2:=qq (show zf8 h nn=h.pages from by unfold zf8;rw [hNB.out];rfl)
     have E3:=qq (show zf5 h nn=true from by unfold zf5;rw [hNB.out];rfl)
     go_wp2_with fail
     go_meet
     exact ⟨g,cc,by rw [E1.out],E3.out,by rw [E1.out];exact Ha.out,Hb.out,by rw [E2.out];exact Hown.out,HB.out⟩
   · obtain ⟨F,hF⟩:∃ F,Hid (zc7 h.pages 1=F):=⟨_,rfl⟩
     have hfs:=qq (fun w' (hr:PRow w' (some ⟨g,0,none⟩) m cc h.pages)=>yb4 (some ⟨g,0,none⟩) m cc h.pages 1 w' hr (by omega))
     rw [hF.out] at hfs
     have hFd:=qq (show zt3 h=decide (F < 0\/LV<=U) from by unfold zt3;rw [hF.out,hLV.out,hU.out])
     have c0:=Ha.out.cell 0 _ rfl
     have c1:=Ha.out.cell 1 _ rfl
     have c2:=Ha.out.cell 2 _ rfl
     have c3:=Ha.out.cell 3 _ rfl
     have c4:=Ha.out.cell 4 _ rfl
     have c5:=Ha.out.cell 5 _ rfl
     go_wp2_with fail
     refine (hfs.out _ Hrow.out).mono ?_
     rintro e w6 ⟨rfl,hb6⟩
     have Ha:=qq (Ha.out.keep hb6 hc4)
     have Hb:=qq (Hb.out.keep hb6 hc5)
     have Hrow:=qq (Hrow.out.keep hb6)
     have HB:=qq (za3 HB.out hb6)
     have hd4:w.heap.size < w6.heap.size:=Ha.out.lt rfl
     have hd5:w.heap.size+1 < w6.heap.size:=Hb.out.lt rfl
     clear hb6 hfs c0 c1 c2 c3 c4 c5 Hown
     have c0:=Ha.out.cell 0 _ rfl
     have c1:=Ha.out.cell 1 _ rfl
     have c2:=Ha.out.cell 2 _ rfl
     have c3:=Ha.out.cell 3 _ rfl
     have c4:=Ha.out.cell 4 _ rfl
     have c5:=Ha.out.cell 5 _ rfl
     by_cases hfull:F < 0\/LV<=U
     · have E3:=qq (show zf5 h nn=false from by unfold zf5;rw [hNB.out,hFd.out,decide_eq_true hfull];rfl)
       have z0:=Hb.out.cell 0 _ rfl
       have z1:=Hb.out.cell 1 _ rfl
       have z2:=Hb.out.cell 2 _ rfl
       have z3:=Hb.out.cell 3 _ rfl
       have z4:=Hb.out.cell 4 _ rfl
       have z5:=Hb.out.cell 5 _ rfl
       have y0:=Hb.out.free 0
       have y1:=Hb.out.free 1
       have y2:=Hb.out.free 2
       have y3:=Hb.out.free 3
       have y4:=Hb.out.free 4
       have y5:=Hb.out.free 5
       by_cases hF0:F < 0
       · clear hfull
         go_wp2
         refine bodyPost_ret (v:=.tuple #[.agg #[.int .i64 0,.int .i64 0,.slice none 0 0,.slice none 0 0,.int .i64 0,.int .i64 0],.int .u64 0,.bool false]) (by simp [results,Tryz.results121,go_sem,z0,z1,z2,z3,z4,z5]) rfl ?_
         rw [E3.out]
         exact ⟨⟨_,rfl,HVF.zero _ _⟩,zd2 HB.out (by omega)⟩
       · have hUL:LV<=U:=by omega
         clear hfull
         go_wp2
         refine bodyPost_ret (v:=.tuple #[.agg #[.int .i64 0,.int .i64 0,.slice none 0 0,.slice none 0 0,.int .i64 0,.int .i64 0],.int .u64 0,.bool false]) (by simp [results,Tryz.results121,go_sem,z0,z1,z2,z3,z4,z5]) rfl ?_
         rw [E3.out]
         exact ⟨⟨_,rfl,HVF.zero _ _⟩,zd2 HB.out (by omega)⟩
     · have hF0:0<=F:=by omega
       have hUL:(U:Int) < LV:=by omega
       have E3:=qq (show zf5 h nn=true from by unfold zf5;rw [hNB.out,hFd.out,decide_eq_false hfull];rfl)
       have E1:=qq (show zl3 h nn=F from by unfold zl3;rw [hNB.out,hF.out];rfl)
       have E2:=qq (show zf8 h nn=zj3 h.pages F h.space from by unfold zf8;rw [hNB.out,hF.out];rfl)
       obtain ⟨j,x,s1,s2,s3,-⟩:=ya4 h1 E3.out
       have hsm:=qq (fun w' (hr:PRow w' (some ⟨g,0,none⟩) m cc h.pages)=>ye5 (some ⟨g,0,none⟩) m cc h.pages F h.space w' hr (by omega))
       rw [<-E2.out] at hsm
       generalize zk9 h.pages F h.space=SE at hsm
       have HS3:=qq s3
       clear hfull s1 s2 s3
       go_wp2_with fail
       refine (hsm.out _ Hrow.out).mono ?_
       rintro e w7 ⟨⟨q7,m7,c7,rfl,hown7⟩,hb7⟩
       have hm7:m=m7:=by have:=hown7.1;rw [zr0,HS3.out,Hm.out] at this;omega
       subst hm7
       obtain ⟨g7,c7',hv7,hg7,hgl7⟩:=World.ownsRow.form hown7 (by omega)
       injection hv7 with v1 v2 v3
       subst v1 v3
       have Ha:=qq (Ha.out.keep hb7 hd4)
       have Hb:=qq (Hb.out.keep hb7 hd5)
       have HB:=qq (za3 HB.out hb7)
       have Hown7:=qq hown7
       clear hb7 hsm c0 c1 c2 c3 c4 c5 v2 hown7
       have c0:=Ha.out.cell 0 _ rfl
       have c1:=Ha.out.cell 1 _ rfl
       have c2:=Ha.out.cell 2 _ rfl
       have c3:=Ha.out.cell 3 _ rfl
       have c4:=Ha.out.cell 4 _ rfl
       have c5:=Ha.out.cell 5 _ rfl
       have f3:=Ha.out.free 3
       have f5:=Ha.out.free 5
       go_wp2_with fail
       go_meet
       exact ⟨g7,c7,by rw [E1.out],E3.out,by rw [E1.out];exact (Ha.out.set 3 (.slice (some ⟨g7,0,none⟩) m c7) (by simp)).set 5 (.int .i64 F) (by simp),(Hb.out.other ⟨w.heap.size,3,none⟩ _ (by simp)).other ⟨w.heap.size,5,none⟩ _ (by simp),zg6 (zd0 (zd0 Hown7.out ⟨w.heap.size,3,none⟩ _ (by simp only;omega)) ⟨w.heap.size,5,none⟩ _ (by simp only;omega)) (by omega),(HB.out.setCell (p:=⟨w.heap.size,3,none⟩) (Nat.le_refl _) _).setCell (p:=⟨w.heap.size,5,none⟩) (Nat.le_refl _) _⟩
  case rest =>
   obtain ⟨g',c',rfl,hok,ha,hb,hown,hB⟩:=hcut
   have hok2:=qq hok
   obtain ⟨j,x,s1,s2,s3,s4,s5,s6,s7,-⟩:=ya4 h1 hok
   have eH:=qq (show zq5 h nn={ h with pages:=(zf8 h nn).set j ⟨x.kind,x.space,x.used+nn,x.pins⟩,bump:=(j:Int) } from by unfold zq5 useAt;rw [s1,Int.toNat_natCast,zc6 s4])
   have eA:=qq (show zq6 h nn=4096+(j:Int)*h.pw+x.used from by unfold zq6;rw [s1,Int.toNat_natCast,zc6 s4])
   have hset:=qq (pvals_used (zf8 h nn) j x (x.used+nn) s4)
   rw [s1] at ha ⊢
   have hjm:j < m:=by have:=Hm.out;omega
   have hjl:(j:Int) < m:=by omega
   obtain ⟨p0,p1,p2,p3⟩:=zp4 _ _ _ s4
   have q2:=hown.cellAt (j*4+2) (by omega)
   have fq:=hown.frozenAt (j*4+2)
   rw [p2] at q2
   obtain ⟨JP,hJP⟩:∃ JP,(j:Int)*h.pw=JP:=⟨_,rfl⟩
   have hJ0:0<=JP:=by rw [<-hJP];exact Int.mul_nonneg (by omega) (by omega)
   have hJ1:JP<=64*64:=by rw [<-hJP];exact Int.mul_le_mul (by omega) k2 (by omega) (by omega)
   have e1:IntKind.i64.wrap ((j:Int)*h.pw)=JP:=by rw [hJP];exact IntWalk.i64_in _ (by omega)
   have e2:IntKind.i64.wrap (4096+JP)=4096+JP:=IntWalk.i64_in _ (by omega)
   have e3:IntKind.i64.wrap (4096+JP+x.used)=4096+JP+x.used:=IntWalk.i64_in _ (by omega)
   have Ha:=qq ha
   have Hb:=qq hb
   have Hown:=qq hown
   have HB:=qq hB
   have HJP:=qq hJP
   have hu64:x.used<=64:=by omega
   have c0:=Ha.out.cell 0 _ rfl
   have c1:=Ha.out.cell 1 _ rfl
   have c2:=Ha.out.cell 2 _ rfl
   have c3:=Ha.out.cell 3 _ rfl
   have c4:=Ha.out.cell 4 _ rfl
   have c5:=Ha.out.cell 5 _ rfl
   clear s1 s2 s3 s4 s5 s7 p0 p1 p2 p3 ha hb hown hB hJP hok
   go_wp2
   go_quiet (fail)
   clear e1 e2 e3
   obtain ⟨w6,hw6⟩:∃ w6,Hid (wc.drewN nq=w6):=⟨_,rfl⟩
   rw [hw6.out]
   have hbd:Below wc.heap.size wc w6:=by rw [<-hw6.out];exact below_drewN (Below.refl _ _) _
   have q2:=za0 hbd q2
   have fq:w6.frozen? ⟨g',j*4+2,none⟩=false:=by rw [<-hw6.out];simpa using fq
   have he4:w.heap.size < wc.heap.size:=Ha.out.lt rfl
   have he5:w.heap.size+1 < wc.heap.size:=Hb.out.lt rfl
   have Ha:=qq (Ha.out.keep hbd he4)
   have Hb:=qq (Hb.out.keep hbd he5)
   have Hown:=qq (zb5 Hown.out hbd)
   have HB:=qq (za3 HB.out hbd)
   have hgr:w.heap.size+1+1<=g':=(Hown.out.lt g' rfl).1
   clear hbd c0 c1 c2 c3 c4 c5 he4 he5 hw6
   have c0:=Ha.out.cell 0 _ rfl
   have c1:=Ha.out.cell 1 _ rfl
   have c2:=Ha.out.cell 2 _ rfl
   have c3:=Ha.out.cell 3 _ rfl
   have c4:=Ha.out.cell 4 _ rfl
   have c5:=Ha.out.cell 5 _ rfl
   have z0:=Hb.out.cell 0 _ rfl
   have z1:=Hb.out.cell 1 _ rfl
   have z2:=Hb.out.cell 2 _ rfl
   have z3:=Hb.out.cell 3 _ rfl
   have z4:=Hb.out.cell 4 _ rfl
   have z5:=Hb.out.cell 5 _ rfl
   have y0:=Hb.out.free 0
   have y1:=Hb.out.free 1
   have y2:=Hb.out.free 2
   have y3:=Hb.out.free 3
   have y4:=Hb.out.free 4
   have y5:=Hb.out.free 5
   have hst:=(Hown.out.stored (j*4+2) (.int .i64 (x.used+nn))).1
   rw [hset.out] at hst
   have Hst:=qq hst
   clear hst
   have hgn:g'≠w.heap.size:=by omega
   have hgn2:g'≠w.heap.size+1:=by omega
   go_wp2
   go_region
   generalize hW:World.drew _=W
   have hWd:Below (w6.setCell ⟨g',j*4+2,none⟩ (.int .i64 (x.used+nn))).heap.size (w6.setCell ⟨g',j*4+2,none⟩ (.int .i64 (x.used+nn))) W:=by rw [<-hW];exact (Below.refl _ _).drew
   have hl4:w.heap.size < w6.heap.size:=Ha.out.lt rfl
   have hl5:w.heap.size+1 < w6.heap.size:=Hb.out.lt rfl
   have Ha:=qq ((Ha.out.other ⟨g',j*4+2,none⟩ (.int .i64 (x.used+nn)) hgn).keep hWd (by simpa using hl4))
   have Hb:=qq ((Hb.out.other ⟨g',j*4+2,none⟩ (.int .i64 (x.used+nn)) hgn2).keep hWd (by simpa using hl5))
   have Hown:=qq (zb5 Hst.out hWd)
   have HB:=qq ((HB.out.setCell (p:=⟨g',j*4+2,none⟩) (by simp only;omega) (.int .i64 (x.used+nn))).trans (hWd.mono (by have:=HB.out.size;simpa using this)))
   clear hWd hW c0 c1 c2 c3 c4 c5 z0 z1 z2 z3 z4 z5 y0 y1 y2 y3 y4 y5 q2 fq Hst
   have c0:=Ha.out.cell 0 _ rfl
   have c1:=Ha.out.cell 1 _ rfl
   have c2:=Ha.out.cell 2 _ rfl
   have c3:=Ha.out.cell 3 _ rfl
   have c4:=Ha.out.cell 4 _ rfl
   have c5:=Ha.out.cell 5 _ rfl
   have z0:=Hb.out.cell 0 _ rfl
   have z1:=Hb.out.cell 1 _ rfl
   have z2:=Hb.out.cell 2 _ rfl
   have z3:=Hb.out.cell 3 _ rfl
   have z4:=Hb.out.cell 4 _ rfl
   have z5:=Hb.out.cell 5 _ rfl
   have y0:=Hb.out.free 0
   have y1:=Hb.out.free 1
   have y2:=Hb.out.free 2
   have y3:=Hb.out.free 3
   have y4:=Hb.out.free 4
   have y5:=Hb.out.free 5
   go_wp2
   refine bodyPost_ret (v:=.tuple #[.agg #[.int .i64 h.pw,.int .i64 h.np,.slice p n c,.slice (some ⟨g',0,none⟩) m c',.int .i64 h.space,.int .i64 j],.int .u64 (4096+JP+x.used),.bool true]) (by simp [results,Tryz.results121,go_sem,z0,z1,z2,z3,z4,z5]) rfl ?_
   refine ⟨?_,zd2 HB.out (by omega)⟩
   rw [hok2.out,eH.out,eA.out,HJP.out]
   have hB9:=zd2 (x0:=.int .i64 h.pw) (x1:=.int .i64 h.np) (x2:=.slice p n c) (x3:=.slice (some ⟨g',0,none⟩) m c') (x4:=.int .i64 h.space) (x5:=.int .i64 j) HB.out (show w.heap.size<=w.heap.size+1 by omega)
   obtain ⟨q9,c9,hv9,hrow9⟩:=PRow.of_own (own_other6 Hown.out hgn2 (.int .i64 h.pw) (.int .i64 h.np) (.slice p n c) (.slice (some ⟨g',0,none⟩) m c') (.int .i64 h.space) (.int .i64 j))
   injection hv9 with v1 v2 v3
   subst v1 v3
   exact ⟨_,rfl,p,n,c,some ⟨g',0,none⟩,m,c',rfl,Hs.out _ hB9,hrow9,hwb,fresh_some (by omega)⟩
end Go.Proofs.YtipjdbhocjpmdaaGreat
