import Derived.Test.YtipjdbhocjpmdaaGreatQ01
import Derived.Test.YtipjdbhocjpmdaaGreatQ32
import Derived.Test.YtipjdbhocjpmdaaGreatQ36
import Derived.Test.YtipjdbhocjpmdaaGreatQ37
import Derived.Test.YtipjdbhocjpmdaaGreatQ51
import Derived.Deep.DeepCutAuto
set_option linter.unusedSimpArgs false
set_option linter.unusedVariables false
set_option maxRecDepth 100000
set_option maxHeartbeats 12800000
namespace Go.Proofs.YtipjdbhocjpmdaaGreat
open Go.RowKit
theorem blk_setL {b:Nat} {T:TypeId} {f:Nat × Nat}:∀ (vs pre ys rest:List Value) (w:World),w.heap[b]?=some (.cells (pre ++ (ys ++ rest)).toArray T f)->ys.length=vs.length->(setL w b pre.length vs).heap[b]?=some (.cells (pre ++ (vs ++ rest)).toArray T f)
 | [],pre,ys,rest,w,h,hl=>by
  obtain rfl:ys=[]:=List.length_eq_zero_iff.1 hl
  exact h
 | v :: vs,pre,[],rest,w,h,hl=>by simp at hl
 | v :: vs,pre,y :: ys,rest,w,h,hl=>by
  have h1:(w.setCell ⟨b,pre.length,none⟩ v).heap[b]?=some (.cells ((pre ++ [v]) ++ (ys ++ rest)).toArray T f):=by
   simp only [World.setCell,Array.getElem?_modify,if_true,h]
   simp
  have h2:=blk_setL vs (pre ++ [v]) ys rest (w.setCell ⟨b,pre.length,none⟩ v) h1 (by simpa using hl)
  rw [List.length_append,List.append_assoc] at h2
  exact h2
theorem wpList_cutTo {P:Program} {w:World} {ops:Array Oper} {rest:List Oper} {o:Oper} {a:Act} {Q:Exit->Act->World->Prop} (hgd:o.guard=none) (x h:Operand) (t:TypeId) (ho:o.op = .slice t x none (some h) none) (e:TypeId) (ht:P.underlying t=some (.slice e)) (hsz:(P.info? e).map (·.size)=some 1)
 (p:Option Addr) (n cap:Nat) (hx:a.eval x = .slice p n cap) (kh:IntKind) (H:Int) (hh:a.eval h = .int kh H) (m:Nat) (hH:H=m) (hfit:m<=cap)
 (hK:wpList P ops Q rest (a.put o.dst (.slice (cutP p cap 0) m (cap - 0))) w):wpList P ops Q (o :: rest) a w:=by
 refine wpList_plain hgd fun K hK'=>?_
 have hrun:=run_cutTo (P:=P) (w:=w) (a:=a.eval) (o:=o) x h t ho e ht hsz p n cap hx kh H hh m hH hfit
 unfold Oper.wp
 rw [hrun]
 exact hK' _ _ hK
theorem Tp.start (w:World) (l2:Option Addr) (n2 c2:Nat) (ys:List Int) (T:TypeId) (hr:SRow w .i64 l2 n2 c2 ys):Tp (w.alloc (.cells #[.slice l2 n2 c2,.int .i64 (0:Nat)] T)) w.heap.size l2 n2 c2 ys 0:=by
 refine ⟨OwnL.new w [.slice l2 n2 c2,.int .i64 (0:Nat)] T,⟨T,_,heap_alloc_new w _⟩,hr.keep za1,fun hne ad e=>?_⟩
 have h1:=List.length_pos_iff.2 hne
 have h2:=hr.len
 obtain ⟨y,b,off,hy,e1,y0⟩:=hr.at_ (k:=0) (by omega)
 rw [e] at e1
 injection e1 with e1
 subst e1
 exact zb4 y0
structure Lens (n:Nat) (x:Wd):Prop where
 conf:zb8 x.h.pw x.h.np=true
 words:(x.h.words.length:Int)=x.h.np*x.h.pw
 pages:(x.h.pages.length:Int)=x.h.np
 st:WB x.st
 wk:WB x.wk
 stn:x.st.length<=n
 wkn:x.wk.length<=n
 pins:∀ g∈x.h.pages,0<=g.pins/\g.pins<=n
theorem make_any (hL:∀ n x,Made n x->n<=400->Lens n x) (lp:Option Addr) (ln lc:Nat) (xs:List Int) (w:World) (hr:SRow w .i64 lp ln lc xs) :
 Calls Tryz.prog 11 #[.slice lp ln lc] w fun e w'=>(∃ v n y,e = .returned v/\n<=400/\Made n y/\WdV w' v y)/\Below w.heap.size w w':=by
 obtain ⟨w1,hw1⟩:∃ w1,Hid (w.alloc (.cells #[.int .i64 0,.int .i64 0,.slice none 0 0,.slice none 0 0,.int .i64 0,.int .i64 0,.slice none 0 0,.slice none 0 0] 31)=w1):=⟨_,rfl⟩
 have Hb:=qq (show OwnL w1 w.heap.size [.int .i64 0,.int .i64 0,.slice none 0 0,.slice none 0 0,.int .i64 0,.int .i64 0,.slice none 0 0,.slice none 0 0] from by rw [<-hw1.out];exact OwnL.new w [.int .i64 0,.int .i64 0,.slice none 0 0,.slice none 0 0,.int .i64 0,.int .i64 0,.slice none 0 0,.slice none 0 0] 31)
 have HK2:=qq (show w1.heap[w.heap.size]?=some (.cells ([.int .i64 0,.int .i64 0,.slice none 0 0,.slice none 0 0,.int .i64 0,.int .i64 0,.slice none 0 0,.slice none 0 0]:List Value).toArray 31 (0,0)) from by rw [<-hw1.out];exact heap_alloc_new w _)
 have HB:=qq (show Below w.heap.size w w1 from by rw [<-hw1.out];exact za1)
 have HR:=qq (hr.keep HB.out)
 have hl0:=hr.le
 clear hr
 have HLn:=qq hL
 clear hL
 have h1a:w.heap.size < w1.heap.size:=Hb.out.lt rfl
 go_enter Tryz.func11,Tryz.ntmps11
 go_upto_region 1 with fail
 rw [hw1.out]
 clear hw1
 go_upto_if 7 with fail
 go_cut [0] (fun t0 wx=>∃ lT nT cT ys,t0 = .slice lT nT cT/\nT<=300/\SRow wx .i64 lT nT cT ys/\wx=w1)
 case first =>
  by_cases h3:300 < ln
  · have h3b:decide (300 < ln)=true:=decide_eq_true h3
    go_wp2_with (first | (refine wpList_cutTo rfl _ _ 28 rfl 3 Tryz.underlying28 (by kernel_rfl) lp ln lc rfl .i64 _ rfl 300 rfl (by omega) ?_))
    go_meet
    exact ⟨_,_,_,_,rfl,Nat.le_refl _,HR.out.cut (l:=0) (m:=300) (by omega),rfl⟩
  · have h3b:decide (300 < ln)=false:=decide_eq_false h3
    go_wp2_with fail
    go_meet
    exact ⟨_,_,_,_,rfl,by omega,HR.out,rfl⟩
 case rest =>
  obtain ⟨lT,nT,cT,ys,rfl,hnT,hrow,rfl⟩:=hcut
  clear HR hl0
  have HR:=qq hrow
  clear hrow
  go_upto_region 4 with fail
  have HT:=qq (Tp.start wc lT nT cT ys 36 HR.out)
  clear HR
  obtain ⟨w2,hw2⟩:∃ W,Hid (World.alloc wc (.cells #[.slice lT nT cT,.int .i64 (0:Nat)] 36)=W):=⟨_,rfl⟩
  rw [hw2.out] at HT
  have hb2:Below wc.heap.size wc w2:=by rw [<-hw2.out];exact za1
  have h2s:w2.heap.size=wc.heap.size+1:=by rw [<-hw2.out];simp
  first | rw [hw2.out] | rw [show World.alloc wc (.cells #[.slice lT nT cT,.int .i64 0] 36)=w2 from hw2.out]
  clear hw2
  replace Hb:=qq (Hb.out.keep hb2 (by omega))
  replace HK2:=qq ((hb2.block w.heap.size (by omega)).trans HK2.out)
  replace HB:=qq (za3 HB.out hb2)
  clear hb2
  go_wp2_with fail
  refine (empty_any wc.heap.size lT nT cT ys 0 w2 HT.out (by omega)).mono ?_
  rintro e w3 ⟨v,pw,np,rfl,hpw,hnp,hv,hT,hbt⟩
  replace Hb:=qq (Hb.out.but hbt (by omega) (by omega))
  replace HK2:=qq ((hbt.block w.heap.size (by omega) (by omega)).trans HK2.out)
  replace HB:=qq (HB.out.trans (hbt.low (by omega) (by omega)))
  replace HT:=qq hT
  have hs3:=hbt.size
  clear hT hbt
  obtain ⟨y,hy⟩:∃ y:Wd,Hid ((⟨zi1 pw np,[],[]⟩:Wd)=y):=⟨_,qq rfl⟩
  have HM:=qq (show Made 0 y from by rw [<-hy.out];exact Made.empty pw np hpw hnp)
  rw [hy.out] at hv
  clear hy hpw hnp
  obtain ⟨p2,n2,c2,q2,m2,d2,ps2,ns2,cs2,pk2,nk2,ck2,rfl,y1,y2,y3,y4,y5⟩:=hv
  have HX:=qq (show WW w3 y p2 q2 ps2 pk2 n2 c2 m2 d2 ns2 cs2 nk2 ck2 from ⟨y1,y2,y3,y4,y5⟩)
  clear y1 y2 y3 y4 y5
  have HN:=qq (OwnL.new w3 [.int .i64 0,.int .i64 0,.slice none 0 0,.slice none 0 0,.int .i64 0,.int .i64 0,.slice none 0 0,.slice none 0 0] 31)
  have HN2:=qq (show (w3.alloc (.cells ([.int .i64 0,.int .i64 0,.slice none 0 0,.slice none 0 0,.int .i64 0,.int .i64 0,.slice none 0 0,.slice none 0 0]:List Value).toArray 31)).heap[w3.heap.size]?=some (.cells ([.int .i64 0,.int .i64 0,.slice none 0 0,.slice none 0 0,.int .i64 0,.int .i64 0,.slice none 0 0,.slice none 0 0]:List Value).toArray 31 (0,0)) from heap_alloc_new w3 _)
  have h3a:w.heap.size < w3.heap.size:=by omega
  have h3t:wc.heap.size < w3.heap.size:=by omega
  go_wp2_with (first | ((with_reducible show wpList _ _ _ _ _ _);refine za6 (op:=⟨none,.store 31 _ _,_,_,_,_⟩) rfl _ _ _ rfl _ ?hx801 [.int .i64 y.h.pw,.int .i64 y.h.np,.slice p2 n2 c2,.slice q2 m2 d2,.int .i64 y.h.space,.int .i64 y.h.bump,.slice ps2 ns2 cs2,.slice pk2 nk2 ck2] _ ?hy801 HN.out rfl rfl zc1 ?_))
  (try (case hx801=>rfl))
  (try (case hy801=>rfl))
  intro w4 ho hbt hst
  have hb4:Below w3.heap.size w3 w4:=za1.trans (hbt.low (Nat.le_refl _) (by simp))
  have HK4:=qq (show w4.heap[w3.heap.size]?=some (.cells ([.int .i64 y.h.pw,.int .i64 y.h.np,.slice p2 n2 c2,.slice q2 m2 d2,.int .i64 y.h.space,.int .i64 y.h.bump,.slice ps2 ns2 cs2,.slice pk2 nk2 ck2]:List Value).toArray 31 (0,0)) from by rw [hst.out,zb7];exact blk_setL [.int .i64 y.h.pw,.int .i64 y.h.np,.slice p2 n2 c2,.slice q2 m2 d2,.int .i64 y.h.space,.int .i64 y.h.bump,.slice ps2 ns2 cs2,.slice pk2 nk2 ck2] [] [.int .i64 0,.int .i64 0,.slice none 0 0,.slice none 0 0,.int .i64 0,.int .i64 0,.slice none 0 0,.slice none 0 0] [] _ HN2.out rfl)
  have H4:=qq ho
  clear HN HN2 ho hbt hst
  replace Hb:=qq (Hb.out.keep hb4 (by omega))
  replace HK2:=qq ((hb4.block w.heap.size (by omega)).trans HK2.out)
  replace HB:=qq (za3 HB.out hb4)
  replace HT:=qq (HT.out.keep hb4)
  replace HX:=qq (HX.out.keep hb4)
  have h4s:w3.heap.size < w4.heap.size:=H4.out.lt rfl
  clear hb4
  go_wp2_with fail
  go_loopw [15] (fun u wr=>∃ (nn jj:Nat) (y:Wd),∃ p2 q2 ps2 pk2 n2 c2 m2 d2 ns2 cs2 nk2 ck2,Made nn y/\nn<=jj/\jj<=320/\Tp wr wc.heap.size lT nT cT ys jj/\OwnL wr w3.heap.size [.int .i64 y.h.pw,.int .i64 y.h.np,.slice p2 n2 c2,.slice q2 m2 d2,.int .i64 y.h.space,.int .i64 y.h.bump,.slice ps2 ns2 cs2,.slice pk2 nk2 ck2]/\wr.heap[w3.heap.size]?=some (.cells ([.int .i64 y.h.pw,.int .i64 y.h.np,.slice p2 n2 c2,.slice q2 m2 d2,.int .i64 y.h.space,.int .i64 y.h.bump,.slice ps2 ns2 cs2,.slice pk2 nk2 ck2]:List Value).toArray 31 (0,0))/\OwnL wr w.heap.size [.int .i64 0,.int .i64 0,.slice none 0 0,.slice none 0 0,.int .i64 0,.int .i64 0,.slice none 0 0,.slice none 0 0]/\wr.heap[w.heap.size]?=some (.cells ([.int .i64 0,.int .i64 0,.slice none 0 0,.slice none 0 0,.int .i64 0,.int .i64 0,.slice none 0 0,.slice none 0 0]:List Value).toArray 31 (0,0))/\WW wr y p2 q2 ps2 pk2 n2 c2 m2 d2 ns2 cs2 nk2 ck2/\Below w.heap.size w wr/\w3.heap.size < wr.heap.size) (fun _ wr=>nT - (match wr.cell? ⟨wc.heap.size,1,none⟩ with | some v=>(intOf v).toNat | none=>0))
  case atStart=>exact ⟨0,0+2,y,p2,q2,ps2,pk2,n2,c2,m2,d2,ns2,cs2,nk2,ck2,HM.out,by omega,by omega,HT.out,H4.out,HK4.out,Hb.out,HK2.out,HX.out,HB.out,h4s⟩
  case round =>
   obtain ⟨nn,jj,y,p2,q2,ps2,pk2,n2,c2,m2,d2,ns2,cs2,nk2,ck2,hM,hnj,hj3,hT,h4,hk4,hb,hk2,hX,hB,hs⟩:=hrel
   clear HM HT H4 HK4 Hb HK2 HX HB h4s
   have HM:=qq hM
   have HT:=qq hT
   have H4:=qq h4
   have HK4:=qq hk4
   have Hb:=qq hb
   have HK2:=qq hk2
   have HX:=qq hX
   have HB:=qq hB
   clear hM hT h4 hk4 hb hk2 hX hB
   have hD:=done_any wc.heap.size lT nT cT ys jj wr HT.out
   have hcA:=HT.out.own.cell 1 _ rfl
   have HCA:=qq hcA
   clear hcA
   by_cases hend:nT<=jj
   · rw [decide_eq_true hend] at hD
     go_wp2_with fail
     refine hD.mono ?_
     clear hD
     rintro e w5 ⟨rfl,hb5⟩
     replace H4:=qq (H4.out.keep hb5 (by omega))
     replace HK4:=qq ((hb5.block w3.heap.size (by omega)).trans HK4.out)
     replace Hb:=qq (Hb.out.keep hb5 (by omega))
     replace HK2:=qq ((hb5.block w.heap.size (by omega)).trans HK2.out)
     replace HB:=qq (za3 HB.out hb5)
     replace HT:=qq (HT.out.keep hb5)
     replace HX:=qq (HX.out.keep hb5)
     have hs5:=hb5.size
     clear hb5
     go_wp2_with (first | ((with_reducible show wpList _ _ _ _ _ _);refine za7 (op:=⟨some 21,.load 31 _,_,_,_,_⟩) rfl _ _ rfl _ rfl _ H4.out zc1 ?_) | ((with_reducible show wpList _ _ _ _ _ _);refine za6 (op:=⟨none,.store 31 _ _,_,_,_,_⟩) rfl _ _ _ rfl _ ?hx802 [.int .i64 y.h.pw,.int .i64 y.h.np,.slice p2 n2 c2,.slice q2 m2 d2,.int .i64 y.h.space,.int .i64 y.h.bump,.slice ps2 ns2 cs2,.slice pk2 nk2 ck2] _ ?hy802 Hb.out rfl rfl zc1 ?_))
     (try (case hx802=>rfl))
     (try (case hy802=>rfl))
     intro w9 ho hbt hst
     have HZ:=qq ho
     have HX9:=qq (HX.out.wd.stored HK2.out Hb.out rfl hst.out.symm hbt)
     have HB9:=qq (HB.out.trans (hbt.low (Nat.le_refl _) (by omega)))
     clear ho hbt hst
     go_wp2
     refine bodyPost_ret (zc9 rfl rfl HZ.out zc1) rfl ?_
     exact ⟨⟨_,nn,y,rfl,by omega,HM.out,HX9.out⟩,HB9.out⟩
   · rw [decide_eq_false hend] at hD
     have hLe:=qq (HLn.out nn y HM.out (by omega))
     go_wp2_with fail
     refine hD.mono ?_
     clear hD
     rintro e w5 ⟨rfl,hb5⟩
     replace H4:=qq (H4.out.keep hb5 (by omega))
     replace HK4:=qq ((hb5.block w3.heap.size (by omega)).trans HK4.out)
     replace Hb:=qq (Hb.out.keep hb5 (by omega))
     replace HK2:=qq ((hb5.block w.heap.size (by omega)).trans HK2.out)
     replace HB:=qq (za3 HB.out hb5)
     replace HT:=qq (HT.out.keep hb5)
     replace HX:=qq (HX.out.keep hb5)
     have hs5:=hb5.size
     clear hb5
     have hns:ns2<=10000:=by have h1:=HX.out.st.len;have h2:=hLe.out.stn;omega
     have hnk:nk2<=10000:=by have h1:=HX.out.wk.len;have h2:=hLe.out.wkn;omega
     go_wp2_with (first | ((with_reducible show wpList _ _ _ _ _ _);refine za7 (op:=⟨some 18,.load 31 _,_,_,_,_⟩) rfl _ _ rfl _ rfl _ H4.out zc1 ?_))
     refine (step_any wc.heap.size lT nT cT ys jj y p2 q2 ps2 pk2 n2 c2 m2 d2 ns2 cs2 nk2 ck2 w5 HT.out (by omega) HX.out hLe.out.st hLe.out.wk hns hnk hLe.out.conf hLe.out.pages (fun g hg=>by have h1:=hLe.out.pins g hg;omega)).mono ?_
     rintro e w6 ⟨⟨v,Y,rfl,hms,hv⟩,⟨j9,hj8,hj9,hT⟩,hbt⟩
     have HM2:=qq (Made.step nn y Y HM.out hms)
     have HV:=qq hv
     clear hms hv
     replace H4:=qq (H4.out.but hbt (by omega) (by omega))
     replace HK4:=qq ((hbt.block w3.heap.size (by omega) (by omega)).trans HK4.out)
     replace Hb:=qq (Hb.out.but hbt (by omega) (by omega))
     replace HK2:=qq ((hbt.block w.heap.size (by omega) (by omega)).trans HK2.out)
     replace HB:=qq (HB.out.trans (hbt.low (by omega) (by omega)))
     replace HT:=qq hT
     have hs6:=hbt.size
     clear hT hbt HX
     obtain ⟨p3,n3,c3,q3,m3,d3,ps3,ns3,cs3,pk3,nk3,ck3,hvv,y1,y2,y3,y4,y5⟩:=HV.out
     subst hvv
     have HX:=qq (show WW w6 Y p3 q3 ps3 pk3 n3 c3 m3 d3 ns3 cs3 nk3 ck3 from ⟨y1,y2,y3,y4,y5⟩)
     clear y1 y2 y3 y4 y5 HV
     go_wp2_with (first | ((with_reducible show wpList _ _ _ _ _ _);refine za6 (op:=⟨none,.store 31 _ _,_,_,_,_⟩) rfl _ _ _ rfl _ ?hx803 [.int .i64 Y.h.pw,.int .i64 Y.h.np,.slice p3 n3 c3,.slice q3 m3 d3,.int .i64 Y.h.space,.int .i64 Y.h.bump,.slice ps3 ns3 cs3,.slice pk3 nk3 ck3] _ ?hy803 H4.out rfl rfl zc1 ?_))
     (try (case hx803=>rfl))
     (try (case hy803=>rfl))
     intro w7 ho hbt hst
     have hk7:w7.heap[w3.heap.size]?=some (.cells ([.int .i64 Y.h.pw,.int .i64 Y.h.np,.slice p3 n3 c3,.slice q3 m3 d3,.int .i64 Y.h.space,.int .i64 Y.h.bump,.slice ps3 ns3 cs3,.slice pk3 nk3 ck3]:List Value).toArray 31 (0,0)):=by rw [hst.out,zb7];exact blk_setL [.int .i64 Y.h.pw,.int .i64 Y.h.np,.slice p3 n3 c3,.slice q3 m3 d3,.int .i64 Y.h.space,.int .i64 Y.h.bump,.slice ps3 ns3 cs3,.slice pk3 nk3 ck3] [] [.int .i64 y.h.pw,.int .i64 y.h.np,.slice p2 n2 c2,.slice q2 m2 d2,.int .i64 y.h.space,.int .i64 y.h.bump,.slice ps2 ns2 cs2,.slice pk2 nk2 ck2] [] _ HK4.out rfl
     have hx7:=HX.out.stored (i:=0) (vs:=[.int .i64 Y.h.pw,.int .i64 Y.h.np,.slice p3 n3 c3,.slice q3 m3 d3,.int .i64 Y.h.space,.int .i64 Y.h.bump,.slice ps3 ns3 cs3,.slice pk3 nk3 ck3]) H4.out (zf3 _ _ _ _ _ _ _ _ _ _ _ _ _ _ _ _) (by simp) (by rw [<-zb7];exact hst.out.symm) hbt (fun hne ad e=>zm6 HK4.out HX.out.pages ad e hne)
     have hs7:=hbt.size
     replace Hb:=qq (Hb.out.but hbt (by omega) (by omega))
     replace HK2:=qq ((hbt.block w.heap.size (by omega) (by omega)).trans HK2.out)
     replace HB:=qq (HB.out.trans (hbt.low (by omega) (by omega)))
     replace HT:=qq (HT.out.oth hbt (by omega))
     clear HX H4 HK4 hbt hst
     have HX:=qq hx7
     have H4:=qq ho
     have HK4:=qq hk7
     clear hx7 ho hk7
     have hcB:=HT.out.own.cell 1 _ rfl
     have HCB:=qq hcB
     clear hcB
     go_wp2
     go_roundw
     case rel=>exact ⟨nn+1,j9,Y,p3,q3,ps3,pk3,n3,c3,m3,d3,ns3,cs3,nk3,ck3,HM2.out,by omega,by omega,HT.out,H4.out,HK4.out,Hb.out,HK2.out,HX.out,HB.out,by omega⟩
     case measure=>rw [HCA.out,HCB.out];simp [intOf];omega
theorem field_zero {h:Hp} {a i:Int} (hg:getE h a=0) (h0:0<=i) (h1:i < (getH h a).n):zo8 h a i=0/\okA h.words.length (a+1+i) 1=true:=by
 obtain ⟨g1,g2,g3,-,-,g6,-,-,-,-⟩:=getE_in hg
 obtain ⟨k,j,g,b⟩:=begins g2
 have h2:=b.wl
 have h3:osz h a=(atH h a).n+1:=rfl
 rw [g3] at h1
 have hk:okA h.words.length (a+1+i) 1=true:=zj5.2 ⟨by omega,by omega⟩
 refine ⟨?_,hk⟩
 unfold zo8
 rw [if_pos hg,if_neg (by rw [g3];omega)]
 unfold loadE
 rw [if_pos hk]
theorem Lens.up {n:Nat} {x:Wd} (h:Lens n x):Lens (n+1) x :=
 ⟨h.conf,h.words,h.pages,h.st,h.wk,by have:=h.stn;omega,by have:=h.wkn;omega,fun g hg=>by have:=h.pins g hg;omega⟩
theorem lens_empty {pw np:Int} (h1:pw=16\/pw=20\/pw=32) (h2:np=8\/np=12\/np=16\/np=20\/np=24):Lens 0 ⟨zi1 pw np,[],[]⟩:=by
 have hc:zb8 pw np=true:=conf_mk (by omega)
 have hp:=zd6 hc
 rw [(newH_ok hc).1]
 refine ⟨hc,?_,?_,WB.nil,WB.nil,Nat.le_refl _,Nat.le_refl _,fun g hg=>?_⟩
 · show ((List.replicate (np*pw).toNat (0:Int)).length:Int)=np*pw
   rw [List.length_replicate];omega
 · show ((List.replicate np.toNat Pg.zero).length:Int)=np
   rw [List.length_replicate];omega
 · obtain ⟨-,rfl⟩:=List.mem_replicate.1 hg
   exact ⟨by decide,by decide⟩
theorem lens_link {n:Nat} {x:Wd} (h:Lens n x) {a i b:Int} (hg:getE x.h a=0) (h0:0<=i) (h1:i < (getH x.h a).n) (b0:0<=b) (b1:b < 18446744073709551616):Lens (n+1) { x with h:=setV x.h a i b }:=by
 obtain ⟨h2,h3⟩:=field_zero hg h0 h1
 have e:setV x.h a i b={ x.h with words:=zc8 x.h.words (a+1+i) [b] }:=by unfold setV;exact if_pos h2
 rw [e]
 have hl:(zc8 x.h.words (a+1+i) [b]).length=x.h.words.length:=zy9 (l:=[b]) h3
 refine ⟨h.conf,?_,h.pages,h.st,h.wk,by have:=h.stn;show x.st.length<=_;omega,by have:=h.wkn;show x.wk.length<=_;omega,fun g hg=>by have:=h.pins g hg;omega⟩
 show ((zc8 x.h.words (a+1+i) [b]).length:Int)=x.h.np*x.h.pw
 rw [hl];exact h.words
theorem lens_pin {n:Nat} {x:Wd} (h:Lens n x) {i:Nat} {g:Pg} {p:Int} (hg:x.h.pages[i]?=some g) (hp:(0 < g.pins/\p=g.pins - 1)\/p=g.pins+1):Lens (n+1) { x with h:={ x.h with pages:=x.h.pages.set i ⟨g.kind,g.space,g.used,p⟩ } }:=by
 have h1:=h.pins g (List.mem_of_getElem? hg)
 refine ⟨h.conf,h.words,?_,h.st,h.wk,by have:=h.stn;show x.st.length<=_;omega,by have:=h.wkn;show x.wk.length<=_;omega,fun f hf=>?_⟩
 · show ((x.h.pages.set i _).length:Int)=x.h.np
   rw [List.length_set];exact h.pages
 · rcases List.mem_or_eq_of_mem_set hf with h2 | rfl
   · have:=h.pins f h2;omega
   · show 0<=p/\p<=((n+1:Nat):Int);omega
theorem lens_drop {n:Nat} {x:Wd} (h:Lens n x) {i:Nat} {r:Int} (b:Bool) (hr:x.st[i]?=some r):Lens (n+1) ⟨x.h,x.st.take i ++ x.st.drop (i+1),if b then x.wk ++ [r] else x.wk⟩:=by
 have hrb:=h.st r (List.mem_of_getElem? hr)
 refine ⟨h.conf,h.words,h.pages,fun y hy=>?_,fun y hy=>?_,?_,?_,fun g hg=>by have:=h.pins g hg;omega⟩
 · rcases List.mem_append.1 hy with h2 | h2
   · exact h.st y (List.mem_of_mem_take h2)
   · exact h.st y (List.mem_of_mem_drop h2)
 · cases b with
   | false=>exact h.wk y hy
   | true =>
    rcases List.mem_append.1 hy with h2 | h2
    · exact h.wk y h2
    · rw [List.mem_singleton.1 h2];exact hrb
 · have:=h.stn
   show (x.st.take i ++ x.st.drop (i+1)).length<=n+1
   rw [List.length_append,List.length_take,List.length_drop];omega
 · have:=h.wkn
   cases b with
   | false=>show x.wk.length<=_;omega
   | true=>show (x.wk ++ [r]).length<=_;rw [List.length_append];simp;omega
theorem lens_dup {n:Nat} {x:Wd} (h:Lens n x) {a:Int} (ha:a∈0 :: (x.st ++ x.wk)):Lens (n+1) ⟨x.h,x.st ++ [a],x.wk⟩:=by
 have hab:=zn7 h.st h.wk ha
 refine ⟨h.conf,h.words,h.pages,fun y hy=>?_,h.wk,?_,by have:=h.wkn;show x.wk.length<=_;omega,fun g hg=>by have:=h.pins g hg;omega⟩
 · rcases List.mem_append.1 hy with h2 | h2
   · exact h.st y h2
   · rw [List.mem_singleton.1 h2];exact hab
 · have:=h.stn
   show (x.st ++ [a]).length<=_
   rw [List.length_append];simp;omega
def PutKeeps:Prop:=∀ (n:Nat) (x:Wd) (k l m:Int),n<=400->Made n x->Lens n x->1<=k->k<=3->0<=l->l<=100->0<=m->m < 4096->zl4 x.h k l m=0->Lens (n+1) (putV x k l m)
def CollectKeeps:Prop:=∀ (n:Nat) (x:Wd),n<=400->Made n x->Lens n x->collE x.h x.st x.wk=0->Lens (n+1) ⟨collH x.h x.st x.wk,collS x.h x.st,collK x.h x.st x.wk⟩
theorem lens_all (hP:PutKeeps) (hC:CollectKeeps):∀ n x,Made n x->n<=400->Lens n x:=by
 intro n x hm
 induction hm with
 | empty pw np h1 h2=>exact fun _=>lens_empty h1 h2
 | step n x y hm hs ih =>
  intro hn
  have h:=ih (by omega)
  cases hs with
  | none=>exact h.up
  | put k l m h1 h2 h3 h4 h5 h6 h7=>exact hP n x k l m (by omega) hm h h1 h2 h3 h4 h5 h6 h7
  | link a i b h1 h2 h3 h4 h5 h6 h7=>exact lens_link h h2 h3 h4 h5 h6
  | pin a i g p h1 h2 h3 h4 h5=>exact lens_pin h h4 (by rcases h5 with h5 | h5;exact Or.inl h5;exact Or.inr h5.1)
  | drop i r b h1=>exact lens_drop h b h1
  | collect h1=>exact hC n x (by omega) hm h h1
  | dup a h1=>exact lens_dup h h1
def PinL (B:Int) (ps:List Pg):Prop:=∀ g∈ps,0<=g.pins/\g.pins<=B
theorem PinL.nil (B:Int):PinL B []:=fun g h=>by cases h
theorem PinL.set {B:Int} {ps:List Pg} (h:PinL B ps) {g:Pg} (hg:0<=g.pins/\g.pins<=B) (i:Nat):PinL B (ps.set i g):=fun f hf=>by
 rcases List.mem_or_eq_of_mem_set hf with h2 | rfl
 · exact h f h2
 · exact hg
theorem PinL.getD {B:Int} {ps:List Pg} (h:PinL B ps) (hB:0<=B) (i:Nat):0<=(ps.getD i Pg.zero).pins/\(ps.getD i Pg.zero).pins<=B:=by
 rw [List.getD_eq_getElem?_getD]
 cases e:ps[i]? with
 | none=>exact ⟨Int.le_refl _,hB⟩
 | some g=>exact h g (List.mem_of_getElem? e)
theorem PinL.use {B:Int} {ps:List Pg} (h:PinL B ps) (hB:0<=B) (j:Nat) (n:Int):PinL B (useAt ps j n) :=
 h.set (g:=⟨(ps.getD j Pg.zero).kind,(ps.getD j Pg.zero).space,(ps.getD j Pg.zero).used+n,(ps.getD j Pg.zero).pins⟩) (h.getD hB j) j
theorem PinL.puts {B:Int} {b:Pg} (hb:0<=b.pins/\b.pins<=B) (k:Nat) (ps:List Pg) (i:Nat) (h:PinL B ps):PinL B (put ps i k b):=fun g hg=>by
 unfold put at hg
 rcases List.mem_append.1 hg with h1 | h1
 · rcases List.mem_append.1 h1 with h2 | h2
   · exact h g (List.mem_of_mem_take h2)
   · obtain ⟨-,rfl⟩:=List.mem_replicate.1 h2;exact hb
 · exact h g (List.mem_of_mem_drop h1)
theorem PinL.take {B:Int} {ps:List Pg} (h:PinL B ps) (hB:0<=B) (i k:Int) {a b:Pg} (ha:a.pins=0) (hb:b.pins=0):PinL B (zl6 ps i k a b):=by
 unfold zl6
 split
 · split
   · exact (PinL.puts (by rw [hb];omega) _ _ _ h).set (by rw [ha];omega) _
   · exact PinL.nil B
 · exact PinL.nil B
theorem PinL.spc {B:Int} {ps:List Pg} (h:PinL B ps) (i k:Nat) (sp:Int):PinL B (spc ps i k sp):=fun g hg=>by
 obtain ⟨j,hj,rfl⟩:=List.mem_mapIdx.1 hg
 have:=h ps[j] (List.getElem_mem hj)
 split <;> exact this
theorem pin_evW {B:Int} (hB:0<=B) {x:Wk} (h:PinL B x.h.pages) (a:Int):PinL B (evW x a).h.pages:=by
 unfold evW
 split
 · exact h
 · exact h
 · exact h
 · exact h.spc _ _ _
 · show PinL B (useAt (plPs x (evN x a)) _ _)
   refine PinL.use ?_ hB _ _
   unfold plPs
   split
   · exact h
   · unfold zj3
     split
     · exact h.take hB _ _ rfl rfl
     · exact PinL.nil B
 · exact PinL.nil B
theorem pin_stNext {B:Int} (hB:0<=B) {x:Wk} (h:PinL B x.h.pages) (p:Int):PinL B (zq8 x p).h.pages:=pin_evW hB h _
theorem pin_stGo {B:Int} (hB:0<=B):∀ (l:List Int) (x:Wk) (A:Int),PinL B x.h.pages->PinL B (stGo x A l).1.h.pages
 | [],_,_,h=>h
 | i :: r,x,A,h=>by
  rw [stGo]
  split
  · exact pin_stGo hB r _ A (pin_stNext hB h _)
  · exact PinL.nil B
theorem pin_allV {B:Int} (hB:0<=B):∀ (f:Nat) (x:Wk),PinL B x.h.pages->PinL B (allV f x).1.h.pages
 | 0,_,h=>h
 | f+1,x,h=>by
  unfold allV
  split
  · exact h
  · split
    · exact pin_allV hB f _ (pin_stGo hB _ x _ h)
    · exact PinL.nil B
theorem pin_roots {B:Int} (hB:0<=B):∀ (rs:List Int) (x:Wk) (acc:List Int),PinL B x.h.pages->PinL B (zg2 x acc rs).1.h.pages
 | [],_,_,h=>h
 | r :: rs,x,acc,h=>by
  rw [zg2]
  split
  · exact pin_roots hB rs _ _ (pin_evW hB h r)
  · exact PinL.nil B
theorem pin_begin {B:Int} {h:Hp} (hp:PinL B h.pages):PinL B (zp1 h).h.pages:=fun g hg=>by
 obtain ⟨f,hf,rfl⟩:=List.mem_map.1 (show g∈List.map _ h.pages from hg)
 have:=hp f hf
 split <;> exact this
theorem fills_pages:∀ (l:List Int) (x:Wk),(l.foldl zc5 x).h.pages=x.h.pages/\(l.foldl zc5 x).h.pw=x.h.pw/\(l.foldl zc5 x).h.np=x.h.np
 | [],_=>⟨rfl,rfl,rfl⟩
 | a :: l,x=>by
  obtain ⟨e1,e2,e3⟩:=fills_pages l (zc5 x a)
  obtain ⟨f1,f2,f3,-⟩:=fillOne_same x a
  exact ⟨e1.trans f3,e2.trans f1,e3.trans f2⟩
theorem pin_free {B:Int} (hB:0<=B) {x:Wk} (h:PinL B x.h.pages):∀ k,PinL B (frPs x k)
 | 0=>h
 | k+1=>by
  rw [frPs]
  split
  · exact (pin_free hB h k).set ⟨Int.le_refl _,hB⟩ k
  · exact pin_free hB h k
theorem tgt_bd (n:Nat):0<=tgtV n/\tgtV n < 18446744073709551616:=by
 unfold tgtV
 split
 · rename_i h
   have:=okT_parts h
   omega
 · omega
theorem evA_in {h:Hp} {x:Wk} (I:Inv h x) {a:Int} (ha:0<=a/\a < 18446744073709551616) (he:evE x a=0):0<=evA x a/\evA x a < 18446744073709551616:=by
 have I2:=(I.forward he).1
 unfold evA
 split
 · exact ha
 · exact tgt_bd _
 · exact ha
 · exact ha
 · rename_i h7
   have hq:plA x (evN x a)∈(evW x a).queue:=by
    have e:evW x a=zh5 x a:=by unfold evW;rw [h7];rfl
    rw [e];exact List.mem_append_right _ (List.mem_singleton.2 rfl)
   have:=I2.queue_bd hq
   omega
 · omega
theorem roots_bd {h:Hp}:∀ (rs:List Int) (x:Wk) (acc:List Int),Inv h x->WB rs->WB acc->WB (zg2 x acc rs).2.1
 | [],_,_,_,_,h=>h
 | r :: rs,x,acc,I,hl,ha=>by
  rw [zg2]
  by_cases he:evE x r=0
  · rw [if_pos he]
    refine roots_bd rs _ _ (I.forward he).1 (fun q hq=>hl q (List.mem_cons_of_mem _ hq)) (fun q hq=>?_)
    rcases List.mem_append.1 hq with h1 | h1
    · exact ha q h1
    · rw [List.mem_singleton.1 h1];exact evA_in I (hl r (List.mem_cons_self ..)) he
  · rw [if_neg he];exact WB.nil
theorem collect_keeps:CollectKeeps:=by
 intro n x hn hm L hc
 have hE:okH x.h=true/\(collR x.h x.st).2.2=0/\(collA x.h x.st).2=0:=by
  unfold collE at hc
  split at hc
  · rename_i h1
    split at hc
    · split at hc
      · rename_i h3;exact ⟨h1,h3,hc⟩
      · rename_i h3;exact absurd hc h3
    · exact absurd hc (by decide)
  · exact absurd hc (by decide)
 obtain ⟨h1,h2,h3⟩:=hE
 obtain ⟨-,hr⟩:=roots_ok x.st (zp1 x.h) [] (begin_inv h1) L.st
 obtain ⟨I7,L7,e7⟩:=hr h2
 have hsc7:(zg2 (zp1 x.h) [] x.st).1.sc=((0:Nat):Int):=L7.sc
 obtain ⟨-,ha⟩:=all_ok ((zc0 x.h).length+1) (zg2 (zp1 x.h) [] x.st).1 0 I7 hsc7 (Nat.zero_le _) (by omega)
 have I8:Inv x.h (collA x.h x.st).1:=ha h3
 have I9:Inv x.h (zh6 x.h x.st x.wk):=I8.reports _ _ _ _ _ _ _
 have hB:(0:Int)<=n:=by omega
 have p8:PinL n (collA x.h x.st).1.h.pages:=pin_allV hB _ _ (pin_roots hB _ _ _ (pin_begin L.pins))
 obtain ⟨f1,f2,f3⟩:=fills_pages (zh6 x.h x.st x.wk).old (zh6 x.h x.st x.wk)
 have hfl:=I9.fill
 have hpl:(zh8 (zh6 x.h x.st x.wk)).h.pages.length=x.h.pages.length:=by
  rw [show (zh8 (zh6 x.h x.st x.wk)).h.pages=(zh6 x.h x.st x.wk).h.pages from f1];exact I9.pl
 have hpw:(zh8 (zh6 x.h x.st x.wk)).h.pw=x.h.pw:=(show (zh8 (zh6 x.h x.st x.wk)).h.pw=(zh6 x.h x.st x.wk).h.pw from f2).trans I9.pw
 have hnp:(zh8 (zh6 x.h x.st x.wk)).h.np=x.h.np:=(show (zh8 (zh6 x.h x.st x.wk)).h.np=(zh6 x.h x.st x.wk).h.np from f3).trans I9.np
 have hcf:=zb1 L.conf
 have hfw:=frWs_len (zh8 (zh6 x.h x.st x.wk)) (by rw [hpw];omega) (by rw [hfl,hpl,hpw,L.pages];exact L.words) (zh8 (zh6 x.h x.st x.wk)).h.pages.length (Nat.le_refl _)
 refine ⟨?_,?_,?_,?_,fun a ha=>?_,?_,?_,?_⟩
 · show zb8 (zh8 (zh6 x.h x.st x.wk)).h.pw (zh8 (zh6 x.h x.st x.wk)).h.np=true
   rw [hpw,hnp];exact L.conf
 · show ((frWs (zh8 (zh6 x.h x.st x.wk)) (zh8 (zh6 x.h x.st x.wk)).h.pages.length).length:Int)=(zh8 (zh6 x.h x.st x.wk)).h.np*(zh8 (zh6 x.h x.st x.wk)).h.pw
   rw [hfw,hfl,hpw,hnp];exact L.words
 · show ((frPs (zh8 (zh6 x.h x.st x.wk)) (zh8 (zh6 x.h x.st x.wk)).h.pages.length).length:Int)=(zh8 (zh6 x.h x.st x.wk)).h.np
   rw [frPs_len,hpl,hnp];exact L.pages
 · exact roots_bd x.st (zp1 x.h) [] (begin_inv h1) L.st WB.nil
 · obtain ⟨b,hb,rfl⟩:=List.mem_map.1 ha
   have hbb:=L.wk b hb
   unfold zp2 afterV
   split
   · omega
   · split
     · exact hbb
     · exact tgt_bd _
 · have:=L.stn
   show (zg2 (zp1 x.h) [] x.st).2.1.length<=_
   rw [e7];simp;omega
 · have:=L.wkn
   show (List.map _ x.wk).length<=_
   rw [List.length_map];omega
 · intro g hg
   have:=pin_free hB (x:=zh8 (zh6 x.h x.st x.wk)) (by rw [show (zh8 (zh6 x.h x.st x.wk)).h.pages=(zh6 x.h x.st x.wk).h.pages from f1];exact p8) _ g hg
   omega
theorem place_eqs (h:Hp) (k n m:Int):zs5 h k n m=placeOK h (zd8 k n m)/\zw3 h k n m=zs3 h (zd8 k n m)/\zu5 h k n m=zt7 h (zd8 k n m):=by
 unfold zs5 zw3 zu5 newBig placeOK zs3 zt7
 by_cases hb:0 < zb6 h.pw h.np (zd8 k n m)
 · simp [hb]
 · simp [hb]
theorem pin_place {B:Int} (hB:0<=B) {h:Hp} (hp:PinL B h.pages) (s:Int):PinL B (zs3 h s).pages:=by
 unfold zs3
 split
 · show PinL B (zl0 _ _ _ _ _ _)
   unfold zl0
   split
   · exact hp.take hB _ _ rfl rfl
   · exact PinL.nil B
 · show PinL B (useAt (zf8 h s) _ _)
   refine PinL.use ?_ hB _ _
   unfold zf8
   split
   · unfold zj3
     split
     · exact hp.take hB _ _ rfl rfl
     · exact PinL.nil B
   · exact hp
theorem put_keeps:PutKeeps:=by
 intro n x k l m hn hm L k1 k3 l0 l1 m0 m1 he
 obtain ⟨ha,hr⟩:newAsk x.h k l m=true/\zs5 x.h k l m=true:=by
  unfold zl4 at he
  split at he
  · rename_i h1
    split at he
    · rename_i h2;exact ⟨h1,h2⟩
    · exact absurd he (by decide)
  · exact absurd he (by decide)
 obtain ⟨e1,e2,e3⟩:=place_eqs x.h k l m
 rw [e1] at hr
 unfold newAsk asksB at ha
 simp only [Bool.and_eq_true,decide_eq_true_eq] at ha
 obtain ⟨ho,⟨hv,hk0⟩,hnd⟩:=ha
 have hs:=zu2 hv
 have hop:okP x.h=true:=by unfold okP;rw [properP_B];exact ho
 obtain ⟨q1,q2,q3,q4⟩:=place_proper hop (show 1<=zd8 k l m by rw [hs];omega) hnd hr
 have hoh:okH (zs3 x.h (zd8 k l m))=true:=by unfold okP at q1;rw [properP_B] at q1;exact q1
 have hil:(zq0 k l m).length=(zd8 k l m).toNat:=by rw [initL_len,hs];omega
 have hka:okA (zs3 x.h (zd8 k l m)).words.length (zt7 x.h (zd8 k l m)) (zq0 k l m).length=true:=by rw [q2,hil];exact q4
 have hie:initE (zs3 x.h (zd8 k l m)) (zt7 x.h (zd8 k l m)) k l m=0:=by
  unfold initE
  rw [if_pos ⟨hv,hoh⟩]
  unfold zh4
  rw [if_pos hka]
 have hH:zw7 x.h k l m={ zs3 x.h (zd8 k l m) with words:=zc8 (zs3 x.h (zd8 k l m)).words (zt7 x.h (zd8 k l m)) (zq0 k l m) }:=by
  unfold zw7
  rw [if_pos he,e2,e3]
  unfold zo3
  rw [if_pos hie]
 have hA:zw8 x.h k l m=zt7 x.h (zd8 k l m):=by unfold zw8;rw [if_pos he,e3]
 obtain ⟨p1,p2,p3,-⟩:=zc2 hoh
 unfold putV
 rw [hH,hA]
 refine ⟨p1,?_,p3,fun y hy=>?_,L.wk,?_,by have:=L.wkn;show x.wk.length<=_;omega,fun g hg=>?_⟩
 · show ((zc8 _ _ _).length:Int)=_
   rw [zy9 hka];exact p2
 · rcases List.mem_append.1 hy with h2 | h2
   · exact L.st y h2
   · rw [List.mem_singleton.1 h2];exact q3
 · have:=L.stn
   show (x.st ++ [zt7 x.h (zd8 k l m)]).length<=_
   rw [List.length_append];simp;omega
 · have:=pin_place (B:=n) (by omega) L.pins (zd8 k l m) g hg
   omega
theorem lens_made:∀ n x,Made n x->n<=400->Lens n x:=lens_all put_keeps collect_keeps
theorem make_made (lp:Option Addr) (ln lc:Nat) (xs:List Int) (w:World) (hr:SRow w .i64 lp ln lc xs) :
 Calls Tryz.prog 11 #[.slice lp ln lc] w fun e w'=>(∃ v n y,e = .returned v/\n<=400/\Made n y/\WdV w' v y)/\Below w.heap.size w w' :=
 make_any lens_made lp ln lc xs w hr
end Go.Proofs.YtipjdbhocjpmdaaGreat
