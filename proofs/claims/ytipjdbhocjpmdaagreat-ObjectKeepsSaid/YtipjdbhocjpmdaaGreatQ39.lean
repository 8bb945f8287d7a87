import Derived.Test.YtipjdbhocjpmdaaGreatQ01
import Derived.Test.YtipjdbhocjpmdaaGreatQ10
import Derived.Test.YtipjdbhocjpmdaaGreatQ31
import Derived.Test.YtipjdbhocjpmdaaGreatQ32
import Derived.Test.YtipjdbhocjpmdaaGreatQ35
import Derived.Deep.DeepCutAuto
set_option linter.unusedSimpArgs false
set_option linter.unusedVariables false
set_option maxRecDepth 100000
set_option maxHeartbeats 12800000
namespace Go.Proofs.YtipjdbhocjpmdaaGreat
open Go.RowKit
def bgB (h:Hp) (k:Nat):Bool:=decide ((h.pages.getD k Pg.zero).kind=1) && decide (0 < (h.pages.getD k Pg.zero).pins)
def bgPs (h:Hp):Nat->List Pg
 | 0=>h.pages
 | k+1=>if bgB h k then (bgPs h k).set k ⟨(h.pages.getD k Pg.zero).kind,1 - h.space,(h.pages.getD k Pg.zero).used,(h.pages.getD k Pg.zero).pins⟩ else bgPs h k
theorem bgPs_len (h:Hp):∀ k,(bgPs h k).length=h.pages.length
 | 0=>rfl
 | k+1=>by rw [bgPs];split <;> simp [bgPs_len h k]
theorem bgPs_at (h:Hp):∀ (k j:Nat) (g:Pg),h.pages[j]?=some g->(bgPs h k)[j]?=some (if j < k/\g.kind=1/\0 < g.pins then ⟨g.kind,1 - h.space,g.used,g.pins⟩ else g)
 | 0,j,g,hg=>by rw [if_neg (by omega)];exact hg
 | k+1,j,g,hg=>by
  have ih:=bgPs_at h k j g hg
  have hj:=(List.getElem?_eq_some_iff.1 hg).1
  rw [bgPs]
  by_cases hb:bgB h k=true
  · rw [if_pos hb,List.getElem?_set,bgPs_len]
    unfold bgB at hb
    simp only [Bool.and_eq_true,decide_eq_true_eq] at hb
    by_cases e:k=j
    · subst e
      rw [zc6 hg] at hb ⊢
      rw [if_pos rfl,if_pos hj,if_pos ⟨by omega,hb.1,hb.2⟩]
    · rw [if_neg e,ih]
      by_cases c:j < k/\g.kind=1/\0 < g.pins
      · rw [if_pos c,if_pos ⟨by omega,c.2⟩]
      · rw [if_neg c,if_neg (fun c2=>c ⟨by omega,c2.2⟩)]
  · rw [if_neg hb,ih]
    by_cases c:j < k/\g.kind=1/\0 < g.pins
    · rw [if_pos c,if_pos ⟨by omega,c.2⟩]
    · rw [if_neg c,if_neg]
      rintro ⟨c1,c2⟩
      by_cases e:j=k
      · subst e
        apply hb
        unfold bgB
        rw [zc6 hg];simp [c2]
      · exact c ⟨by omega,c2⟩
theorem bgPs_all (h:Hp):bgPs h h.pages.length=(zp1 h).h.pages:=by
 apply List.ext_getElem?
 intro j
 show _=(List.map _ h.pages)[j]?
 rw [List.getElem?_map]
 cases hg:h.pages[j]? with
 | none =>
  have:(bgPs h h.pages.length)[j]?=none:=by
   rw [List.getElem?_eq_none_iff,bgPs_len];exact List.getElem?_eq_none_iff.1 hg
  rw [this];rfl
 | some g =>
  rw [bgPs_at h _ j g hg]
  have hj:=(List.getElem?_eq_some_iff.1 hg).1
  simp only [Option.map_some]
  by_cases c:g.kind=1/\0 < g.pins
  · rw [if_pos ⟨hj,c⟩,if_pos c]
  · rw [if_neg (fun c2=>c c2.2),if_neg c]
theorem good_ok {h:Hp} (hg:goodB h=true):okH h=true:=by
 cases hk:okH h with
 | true=>rfl
 | false =>
  unfold goodB zp0 at hg
  rw [hk] at hg
  simp at hg
theorem noU_cv (h:Hp) (p:Option Addr) (n c:Nat) (a b:Value) (ha:∀ x,a≠.int .u64 x) (hb:∀ x,b≠.int .u64 x):noU [.int .i64 h.pw,.int .i64 h.np,.slice p n c,a,.int .i64 h.space,.int .i64 h.bump,b,.slice none 0 0,.slice none 0 0,.int .i64 0,.int .i64 0,.int .i64 0,.int .i64 0,.int .i64 0,.int .i64 0,.int .i64 0]:=by
 intro j y hy x
 rcases j with _ | _ | _ | _ | _ | _ | _ | _ | _ | _ | _ | _ | _ | _ | _ | _ | j <;> simp at hy
 all_goals (subst hy;first | exact ha x | exact hb x | (intro e;cases e))
theorem pvals_space' (ps:List Pg) (j:Nat) (x:Pg) (u:Int) (hx:ps[j]?=some x):(zc4 ps).set (j*4+1) (.int .i64 u)=zc4 (ps.set j ⟨x.kind,u,x.used,x.pins⟩):=by
 rw [<-zy6 ps j ⟨x.kind,u,x.used,x.pins⟩]
 obtain ⟨h0,h1,h2,h3⟩:=zp4 ps j x hx
 apply List.ext_getElem?
 intro i
 simp only [List.getElem?_set,List.length_set]
 by_cases i3:j*4+3=i
 · subst i3;rw [if_neg (by omega),if_pos rfl,h3];have:=(List.getElem?_eq_some_iff.1 h3).1;rw [if_pos this]
 · rw [if_neg i3]
   by_cases i2:j*4+2=i
   · subst i2;rw [if_neg (by omega),if_pos rfl,h2];have:=(List.getElem?_eq_some_iff.1 h2).1;rw [if_pos this]
   · rw [if_neg i2]
     by_cases i1:j*4+1=i
     · rw [if_pos i1,if_pos i1]
     · rw [if_neg i1,if_neg i1]
       by_cases i0:j*4=i
       · subst i0;rw [if_pos rfl,h0];have:=(List.getElem?_eq_some_iff.1 h0).1;rw [if_pos this]
       · rw [if_neg i0]
theorem begin_any (h:Hp) (p q:Option Addr) (n c m d:Nat) (w:World) (hs:SRow w .u64 p n c h.words) (hr:PRow w q m d h.pages) (hwb:WB h.words) (hg:goodB h=true) :
 Calls Tryz.prog 124 #[(.agg #[.int .i64 h.pw,.int .i64 h.np,.slice p n c,.slice q m d,.int .i64 h.space,.int .i64 h.bump])] w fun e w'=>(∃ v,e = .returned (.tuple #[v,.int .i64 0])/\WV w' (fun _=>False) v (zp1 h))/\Below w.heap.size w w':=by
 have hok:=good_ok hg
 have hHV:=qq (fun w' (hb:Below w.heap.size w w')=>(⟨p,n,c,q,m,d,rfl,hs.keep hb,hr.keep hb,hwb⟩:HV w' (.agg #[.int .i64 h.pw,.int .i64 h.np,.slice p n c,.slice q m d,.int .i64 h.space,.int .i64 h.bump]) h))
 obtain ⟨w1,hw1,hbx⟩:=boxes2y w 27 146 [.int .i64 h.pw,.int .i64 h.np,.slice p n c,.slice q m d,.int .i64 h.space,.int .i64 h.bump] [.int .i64 0,.int .i64 0,.slice none 0 0,.slice none 0 0,.int .i64 0,.int .i64 0,.slice none 0 0,.slice none 0 0,.slice none 0 0,.int .i64 0,.int .i64 0,.int .i64 0,.int .i64 0,.int .i64 0,.int .i64 0,.int .i64 0]
 have Ha:=qq hbx.1
 have Hb:=qq hbx.2.1
 have HB:=qq hbx.2.2
 clear hbx
 have hml:m<=64:=by have h1:=zc2 hok;have h2:=zb1 h1.1;have h3:h.pages.length=m:=PRow.len hr;omega
 have hm0:1<=m:=by have h1:=zc2 hok;have h2:=zb1 h1.1;have h3:h.pages.length=m:=PRow.len hr;omega
 have hpl:h.pages.length=m:=PRow.len hr
 have hsp:0<=h.space/\h.space<=1:=by have h1:=zc2 hok;exact ⟨h1.2.2.2.1,h1.2.2.2.2.1⟩
 obtain ⟨hsp0,hsp1⟩:=hsp
 have HS:=qq hs
 have HR:=qq hr
 clear hs hr
 have hP:=zz1 w1 (hHV.out w1 HB.out)
 rw [show ze8 h.pw h.np h.words.length h.pages h.space h.bump=true from hok] at hP
 go_enter Tryz.func124,Tryz.ntmps124
 go_upto_region 1 with fail
 rw [hw1.out]
 clear hw1
 go_wp2_with (first | ((with_reducible show wpList _ _ _ _ _ _);refine za7 (op:=⟨some 7,.load 27 _,_,_,_,_⟩) rfl _ _ rfl _ rfl _ Ha.out zd3 ?_))
 refine hP.mono ?_
 rintro e w2 ⟨rfl,hb2⟩
 replace Ha:=qq (Ha.out.keep hb2 (Ha.out.lt rfl))
 replace Hb:=qq (Hb.out.keep hb2 (Hb.out.lt rfl))
 replace HB:=qq (za3 HB.out hb2)
 clear hb2 hP
 have hG:=refGood9_val w2 (hHV.out w2 HB.out)
 rw [hg] at hG
 go_wp2_with (first | ((with_reducible show wpList _ _ _ _ _ _);refine za7 (op:=⟨some 11,.load 27 _,_,_,_,_⟩) rfl _ _ rfl _ rfl _ Ha.out zd3 ?_))
 refine hG.mono ?_
 rintro e w3 ⟨rfl,hb3⟩
 replace Ha:=qq (Ha.out.keep hb3 (Ha.out.lt rfl))
 replace Hb:=qq (Hb.out.keep hb3 (Hb.out.lt rfl))
 replace HB:=qq (za3 HB.out hb3)
 clear hb3 hG
 have hwb3:w.heap.size+1 < w3.heap.size:=Hb.out.lt rfl
 have HN:=qq (OwnL.new w3 [.int .i64 0,.int .i64 0,.slice none 0 0,.slice none 0 0,.int .i64 0,.int .i64 0,.slice none 0 0,.slice none 0 0,.slice none 0 0,.int .i64 0,.int .i64 0,.int .i64 0,.int .i64 0,.int .i64 0,.int .i64 0,.int .i64 0] 146)
 go_wp2_with (first | ((with_reducible show wpList _ _ _ _ _ _);refine za7 (op:=⟨some 15,.load 27 _,_,_,_,_⟩) rfl _ _ rfl _ rfl _ Ha.out zd3 ?_) | ((with_reducible show wpList _ _ _ _ _ _);refine za6 (op:=⟨none,.store 146 _ _,_,_,_,_⟩) rfl _ _ _ rfl _ ?hx101 [.int .i64 h.pw,.int .i64 h.np,.slice p n c,.slice q m d,.int .i64 h.space,.int .i64 h.bump,.slice none 0 0,.slice none 0 0,.slice none 0 0,.int .i64 0,.int .i64 0,.int .i64 0,.int .i64 0,.int .i64 0,.int .i64 0,.int .i64 0] _ ?hy101 HN.out rfl rfl za8 ?_))
 (try (case hx101=>rfl))
 (try (case hy101=>rfl))
 intro w4 ho hbt hst
 have hb4:Below w3.heap.size w3 w4:=za1.trans (hbt.low (Nat.le_refl _) (by simp))
 clear HN hbt hst
 have Hc:=qq ho
 clear ho
 replace Ha:=qq (Ha.out.keep hb4 (Ha.out.lt rfl))
 replace Hb:=qq (Hb.out.keep hb4 (Hb.out.lt rfl))
 replace HB:=qq (za3 HB.out hb4)
 clear hb4
 obtain ⟨cb,hcb⟩:∃ cb,w3.heap.size=cb:=⟨_,rfl⟩
 rw [hcb] at Hc ⊢
 have hcb2:w.heap.size+1 < cb:=by omega
 clear hcb hwb3
 have hO:=zx8 w4 (hHV.out w4 HB.out)
 obtain ⟨SE,hSE⟩:∃ SE,zl8 h=SE:=⟨_,rfl⟩
 rw [hSE] at hO
 clear hSE
 go_wp2_with (first | ((with_reducible show wpList _ _ _ _ _ _);refine za7 (op:=⟨some 18,.load 27 _,_,_,_,_⟩) rfl _ _ rfl _ rfl _ Ha.out zd3 ?_))
 refine hO.mono ?_
 rintro e w5 ⟨⟨po,no,co,rfl,hso⟩,hb5⟩
 have HO:=qq hso
 replace Ha:=qq (Ha.out.keep hb5 (Ha.out.lt rfl))
 replace Hb:=qq (Hb.out.keep hb5 (Hb.out.lt rfl))
 replace Hc:=qq (Hc.out.keep hb5 (Hc.out.lt rfl))
 replace HB:=qq (za3 HB.out hb5)
 clear hso hO hb5
 have c6:=Hc.out.cell 6 _ rfl
 have f6:=Hc.out.free 6
 go_upto_region 7 with fail
 clear c6 f6
 have hbt:But cb w5 (w5.setCell ⟨cb,6,none⟩ (.slice po no co)):=(But.refl cb w5).set 6 _
 have hc2:=Hc.out.set 6 (.slice po no co) (by simp)
 obtain ⟨w6,hset⟩:∃ W,Hid (w5.setCell ⟨cb,6,none⟩ (.slice po no co)=W):=⟨_,rfl⟩
 rw [hset.out]
 rw [hset.out] at hbt hc2
 have hO6:=zc3 (b:=cb) [.slice po no co] 6 _ _ HO.out Hc.out (fun j y _=>noU_cv h p n c (.slice q m d) (.slice none 0 0) (by simp) (by simp) j y) (by simp)
 rw [show setL w5 cb 6 [.slice po no co]=w6 from hset.out] at hO6
 clear hset HO
 have HO:=qq hO6
 clear hO6
 replace Ha:=qq (Ha.out.but hbt (Ha.out.lt rfl) (by omega))
 replace Hb:=qq (Hb.out.but hbt (Hb.out.lt rfl) (by omega))
 replace HB:=qq (HB.out.trans (hbt.low (by omega) (by have:=Hb.out.lt rfl;have:=HB.out.size;omega)))
 clear Hc
 have Hc:=qq (show OwnL w6 cb [.int .i64 h.pw,.int .i64 h.np,.slice p n c,.slice q m d,.int .i64 h.space,.int .i64 h.bump,.slice po no co,.slice none 0 0,.slice none 0 0,.int .i64 0,.int .i64 0,.int .i64 0,.int .i64 0,.int .i64 0,.int .i64 0,.int .i64 0] from hc2)
 clear hc2 hbt
 obtain ⟨y0,b0,off0,-,hqq,-,-,-,-⟩:=HR.out.at_ (k:=0) (by omega)
 subst hqq
 obtain ⟨i0,hin,hz0,hz1,hz2⟩:=info_parts zr6
 have hown0:(w6.alloc (.cells #[] 77)).ownsRow w6.heap.size 77 4 (.slice (some ⟨w6.heap.size,0,none⟩) 0 0) 0 []:=by
  simpa using zf9 w6 77 4
 have Hq:=qq (show PRow (w6.alloc (.cells #[] 77)) (some ⟨b0,off0,none⟩) m d h.pages from (PRow.keep HR.out HB.out).keep za1)
 have c3:=Ha.out.cell 3 _ rfl
 have hwb6:w.heap.size+1 < w6.heap.size:=Hb.out.lt rfl
 have hwa6:w.heap.size < w6.heap.size:=Ha.out.lt rfl
 have hwc6:cb < w6.heap.size:=Hc.out.lt rfl
 go_wp2_with (at_builtin;refine zg3 rfl _ _ 25 rfl w6.heap.size 77 i0 _ 4 32 Tryz.underlying25 hin hz0 hz1 hz2 rfl (by decide) (.slice (some ⟨w6.heap.size,0,none⟩) 0 0) 0 [] rfl hown0 (some ⟨b0,off0,none⟩) m d (zc4 h.pages) rfl ?src (zr1 h.pages) ?c3 ?c4 ?c5 ?_)
 case src=>exact Hq.out
 case c3=>unfold maxLen;omega
 case c4=>omega
 case c5=>simp
 intro v' w7 hown hgrow
 have hb7:Below w6.heap.size w6 w7:=((Below.refl _ _).alloc (Nat.le_refl _) _).grown hgrow (by simp) (fun k h=>by simp [Value.ownBlock] at h;omega)
 obtain ⟨g9,cc,rfl,hg9,-⟩:=World.ownsRow.form hown (by omega)
 have hg9b:w.heap.size+2<=g9:=by omega
 have hg9c:cb < g9:=by omega
 have HOB:=qq (show zc0 h≠[]->∀ ad,po=some ad->ad.block≠g9 from fun hne ad e=>by
  have h1:=List.length_pos_iff.2 hne
  have h2:=HO.out.len
  obtain ⟨y,b,off,hy,e1,y0⟩:=HO.out.at_ (k:=0) (by omega)
  rw [e] at e1
  injection e1 with e1
  subst e1
  have h3:=zb4 y0
  simp only at h3 ⊢
  omega)
 have HP:=qq (zg6 hown (show w.heap.size+2<=w6.heap.size by omega))
 clear hgrow hown0 hown Hq c3 hg9 hin hz0 hz1 hz2 hwb6 hwc6 hwa6
 replace Ha:=qq (Ha.out.keep hb7 (Ha.out.lt rfl))
 replace Hb:=qq (Hb.out.keep hb7 (Hb.out.lt rfl))
 replace Hc:=qq (Hc.out.keep hb7 (Hc.out.lt rfl))
 replace HB:=qq (za3 HB.out hb7)
 replace HO:=qq (HO.out.keep hb7)
 clear hb7
 have HP2:=qq (show w7.ownsRow (w.heap.size+2) 77 4 (.slice (some ⟨g9,0,none⟩) m cc) m (zc4 h.pages) from by simpa using HP.out)
 clear HP
 have HP:=HP2
 clear HP2
 have c3:=Hc.out.cell 3 _ rfl
 have f3:=Hc.out.free 3
 go_upto_region 8 with fail
 clear c3 f3
 have hbt:But cb w7 (w7.setCell ⟨cb,3,none⟩ (.slice (some ⟨g9,0,none⟩) m cc)):=(But.refl cb w7).set 3 _
 have hc2:=Hc.out.set 3 (.slice (some ⟨g9,0,none⟩) m cc) (by simp)
 obtain ⟨w8,hset⟩:∃ W,Hid (w7.setCell ⟨cb,3,none⟩ (.slice (some ⟨g9,0,none⟩) m cc)=W):=⟨_,rfl⟩
 rw [hset.out]
 rw [hset.out] at hbt hc2
 have hO6:=zc3 (b:=cb) [.slice (some ⟨g9,0,none⟩) m cc] 3 _ _ HO.out Hc.out (fun j y _=>noU_cv h p n c _ _ (by simp) (by simp) j y) (by simp)
 rw [show setL w7 cb 3 [.slice (some ⟨g9,0,none⟩) m cc]=w8 from hset.out] at hO6
 clear hset HO
 have HO:=qq hO6
 clear hO6
 replace HP:=qq (zq7 HP.out hbt (by omega))
 replace Ha:=qq (Ha.out.but hbt (Ha.out.lt rfl) (by omega))
 replace Hb:=qq (Hb.out.but hbt (Hb.out.lt rfl) (by omega))
 replace HB:=qq (HB.out.trans (hbt.low (by omega) (by have:=Hb.out.lt rfl;have:=HB.out.size;omega)))
 clear Hc
 have Hc:=qq (show OwnL w8 cb [.int .i64 h.pw,.int .i64 h.np,.slice p n c,.slice (some ⟨g9,0,none⟩) m cc,.int .i64 h.space,.int .i64 h.bump,.slice po no co,.slice none 0 0,.slice none 0 0,.int .i64 0,.int .i64 0,.int .i64 0,.int .i64 0,.int .i64 0,.int .i64 0,.int .i64 0] from hc2)
 clear hc2 hbt
 go_wp2_with fail
 go_loopw [5] (fun u wr=>∃ k:Nat,u = .int .i64 k/\k<=m/\OwnL wr w.heap.size [.int .i64 h.pw,.int .i64 h.np,.slice p n c,.slice (some ⟨b0,off0,none⟩) m d,.int .i64 h.space,.int .i64 h.bump]/\OwnL wr (w.heap.size+1) [.int .i64 0,.int .i64 0,.slice none 0 0,.slice none 0 0,.int .i64 0,.int .i64 0,.slice none 0 0,.slice none 0 0,.slice none 0 0,.int .i64 0,.int .i64 0,.int .i64 0,.int .i64 0,.int .i64 0,.int .i64 0,.int .i64 0]/\OwnL wr cb [.int .i64 h.pw,.int .i64 h.np,.slice p n c,.slice (some ⟨g9,0,none⟩) m cc,.int .i64 h.space,.int .i64 h.bump,.slice po no co,.slice none 0 0,.slice none 0 0,.int .i64 0,.int .i64 0,.int .i64 0,.int .i64 0,.int .i64 0,.int .i64 0,.int .i64 0]/\Below w.heap.size w wr/\wr.ownsRow (w.heap.size+2) 77 4 (.slice (some ⟨g9,0,none⟩) m cc) m (zc4 (bgPs h k))/\SRow wr .u64 po no co (zc0 h)) (fun u _=>m - (intOf u).toNat)
 case atStart=>exact ⟨0,rfl,Nat.zero_le _,Ha.out,Hb.out,Hc.out,HB.out,HP.out,HO.out⟩
 case round =>
  obtain ⟨k,rfl,hkm,ha,hb,hc,hB,hP,hO⟩:=hrel
  clear Ha Hb Hc HB HP HO
  have Ha:=qq ha
  have Hb:=qq hb
  have Hc:=qq hc
  have HB:=qq hB
  have HP:=qq hP
  have HO:=qq hO
  clear ha hb hc hB hP hO
  have hwa:w.heap.size < wr.heap.size:=Ha.out.lt rfl
  have hwb2:w.heap.size+1 < wr.heap.size:=Hb.out.lt rfl
  have hwc:cb < wr.heap.size:=Hc.out.lt rfl
  have c3:=Hc.out.cell 3 _ rfl
  by_cases hlt:k < m
  · obtain ⟨g,hgp⟩:∃ g,h.pages[k]?=some g:=⟨_,List.getElem?_eq_getElem (by omega)⟩
    have hgk:(bgPs h k)[k]?=some g:=by rw [bgPs_at h k k g hgp,if_neg (by omega)]
    have hgd:h.pages.getD k Pg.zero=g:=zc6 hgp
    obtain ⟨⟨q0,q1,q2,q3⟩,z0,z1,z2,z3⟩:=zh9 HP.out hgk
    have hlt2:(k:Int) < m:=by omega
    have hFB:bgB h k=(decide (g.kind=1) && decide (0 < g.pins)):=by unfold bgB;rw [hgd]
    have HGK:=qq hgk
    have HGD:=qq hgd
    have e3:IntKind.i64.wrap ((k:Int)+1)=((k+1:Nat):Int):=by rw [IntWalk.i64_in _ (by omega)];rfl
    have hbx:Below wr.heap.size wr (wr.alloc (.cells #[.int .i64 g.kind,.int .i64 g.space,.int .i64 g.used,.int .i64 g.pins] 77)):=za1
    have HBX:=qq hbx
    clear hgk hgp hgd hbx z0 z2 z3
    by_cases hk1:g.kind=1
    · by_cases hp0:0 < g.pins
      · have hf:bgB h k=true:=by rw [hFB];simp [hk1,hp0]
        have hk1b:(g.kind == 1)=true:=beq_iff_eq.2 hk1
        have HE2:=qq (show bgPs h (k+1)=(bgPs h k).set k ⟨g.kind,1 - h.space,g.used,g.pins⟩ from by rw [bgPs,hf,HGD.out];rfl)
        clear hf hFB hk1
        have e1:IntKind.i64.wrap (1 - h.space)=1 - h.space:=IntWalk.i64_in _ (by omega)
        have c4:=Ha.out.cell 4 _ rfl
        have hst1:=(HP.out.stored (k*4+1) (.int .i64 (1 - h.space))).1
        rw [pvals_space' _ _ _ _ HGK.out,<-HE2.out] at hst1
        have HST:=qq hst1
        clear hst1
        have hg9l:g9 < wr.heap.size:=zb4 q1
        go_wp2
        go_roundw
        case rel =>
         have hbt:But g9 wr (wr.setCell ⟨g9,k*4+1,none⟩ (.int .i64 (1 - h.space))):=(But.refl g9 _).set (k*4+1) (.int .i64 (1 - h.space))
         have hsz:(wr.setCell ⟨g9,k*4+1,none⟩ (.int .i64 (1 - h.space))).heap.size=wr.heap.size:=by simp
         have ha:=(Ha.out.but hbt hwa (by omega)).keep (za1 (o:=.cells #[.int .i64 g.kind,.int .i64 g.space,.int .i64 g.used,.int .i64 g.pins] 77)) (by omega)
         have hb:=(Hb.out.but hbt hwb2 (by omega)).keep (za1 (o:=.cells #[.int .i64 g.kind,.int .i64 g.space,.int .i64 g.used,.int .i64 g.pins] 77)) (by omega)
         have hc:=(Hc.out.but hbt hwc (by omega)).keep (za1 (o:=.cells #[.int .i64 g.kind,.int .i64 g.space,.int .i64 g.used,.int .i64 g.pins] 77)) (by omega)
         have ho:=(HO.out.butNe hbt HOB.out).keep (za1 (o:=.cells #[.int .i64 g.kind,.int .i64 g.space,.int .i64 g.used,.int .i64 g.pins] 77))
         exact ⟨k+1,by go_num,by omega,ha,hb,hc,za3 (HB.out.trans (hbt.low (B:=w.heap.size) (by omega) (by omega))) za1,zb5 HST.out za1,ho⟩
        case measure=>simp [intOf];omega
      · have hf:bgB h k=false:=by rw [hFB];simp [hp0]
        have hk1b:(g.kind == 1)=true:=beq_iff_eq.2 hk1
        have hp0b:¬0 < g.pins:=hp0
        clear hFB hk1 HGK HGD
        have HE2:=qq (show bgPs h (k+1)=bgPs h k from by rw [bgPs,hf];rfl)
        clear hf z1
        go_wp2
        go_roundw
        case rel=>exact ⟨k+1,by go_num,by omega,Ha.out.keep HBX.out hwa,Hb.out.keep HBX.out hwb2,Hc.out.keep HBX.out hwc,za3 HB.out HBX.out,by rw [HE2.out];exact zb5 HP.out HBX.out,HO.out.keep HBX.out⟩
        case measure=>simp [intOf];omega
    · have hf:bgB h k=false:=by rw [hFB];simp [hk1]
      have hk1b:(g.kind == 1)=false:=beq_eq_false_iff_ne.2 hk1
      clear hFB hk1 HGK HGD
      have HE2:=qq (show bgPs h (k+1)=bgPs h k from by rw [bgPs,hf];rfl)
      clear hf z1
      go_wp2
      go_roundw
      case rel=>exact ⟨k+1,by go_num,by omega,Ha.out.keep HBX.out hwa,Hb.out.keep HBX.out hwb2,Hc.out.keep HBX.out hwc,za3 HB.out HBX.out,by rw [HE2.out];exact zb5 HP.out HBX.out,HO.out.keep HBX.out⟩
      case measure=>simp [intOf];omega
  · obtain rfl:k=m:=by omega
    have hge:¬(k:Int) < k:=by omega
    go_upto_region 14 with fail
    clear c3
    go_wp2_with (first | ((with_reducible show wpList _ _ _ _ _ _);refine za7 (op:=⟨some 60,.load 146 _,_,_,_,_⟩) rfl _ _ rfl _ rfl _ Hc.out za8 ?_) | ((with_reducible show wpList _ _ _ _ _ _);refine za6 (op:=⟨none,.store 146 _ _,_,_,_,_⟩) rfl _ _ _ rfl _ ?hx102 [.int .i64 h.pw,.int .i64 h.np,.slice p n c,.slice (some ⟨g9,0,none⟩) k cc,.int .i64 h.space,.int .i64 h.bump,.slice po no co,.slice none 0 0,.slice none 0 0,.int .i64 0,.int .i64 0,.int .i64 0,.int .i64 0,.int .i64 0,.int .i64 0,.int .i64 0] _ ?hy102 Hb.out rfl rfl za8 ?_))
    (try (case hx102=>rfl))
    (try (case hy102=>rfl))
    intro w9 ho hbt hst
    have HZ:=qq ho
    have HXB:=qq (HB.out.trans (hbt.low (by omega) (by omega)))
    have HP9:=qq (zq7 HP.out hbt (by omega))
    have hb9:=Hb.out
    have hO9:=zc3 (b:=w.heap.size+1) [.int .i64 h.pw,.int .i64 h.np,.slice p n c,.slice (some ⟨g9,0,none⟩) k cc,.int .i64 h.space,.int .i64 h.bump,.slice po no co,.slice none 0 0,.slice none 0 0,.int .i64 0,.int .i64 0,.int .i64 0,.int .i64 0,.int .i64 0,.int .i64 0,.int .i64 0] 0 _ _ HO.out hb9 (fun j y _=>zm2 j y) (by simp)
    rw [<-zb7,<-hst.out] at hO9
    have HO9:=qq hO9
    clear ho hbt hst hb9 hO9
    go_wp2
    refine bodyPost_ret (yb9 rfl rfl HZ.out za8) rfl ?_
    obtain ⟨q9,cc9,e9,hrow⟩:=PRow.of_own HP9.out
    injection e9 with e91 e92 e93
    subst e91 e93
    rw [<-hpl,bgPs_all] at hrow
    refine ⟨⟨_,rfl,p,some ⟨g9,0,none⟩,po,none,none,n,c,k,cc,no,co,0,0,0,0,rfl,?_⟩,HXB.out⟩
    exact ⟨HS.out.keep HXB.out,by rw [<-hpl];exact hrow,hwb,HO9.out,SRow.nil _ _ _,SRow.nil _ _ _,fun _ _ _ hs=>hs,fun h=>absurd rfl h,fun _ _ _ hs=>hs,fun _ _ _ hs=>hs,fun h=>absurd rfl h⟩
end Go.Proofs.YtipjdbhocjpmdaaGreat
