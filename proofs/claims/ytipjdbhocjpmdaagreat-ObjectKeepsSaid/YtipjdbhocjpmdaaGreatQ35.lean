import Derived.Test.YtipjdbhocjpmdaaGreatQ01
import Derived.Test.YtipjdbhocjpmdaaGreatQ34
import Derived.Deep.DeepCutAuto
set_option linter.unusedSimpArgs false
set_option linter.unusedVariables false
set_option maxRecDepth 100000
set_option maxHeartbeats 12800000
namespace Go.Proofs.YtipjdbhocjpmdaaGreat
open Go.RowKit
def allV:Nat->Wk->Wk × Int
 | 0,x=>(x,0)
 | f+1,x=>match x.queue[x.sc.toNat]? with
  | none=>(x,0)
  | some A=>if stE x A=0 then allV f (stW x A) else (Wk.zero,stE x A)
def AllOK:Nat->Wk->Prop
 | 0,_=>False
 | f+1,x=>∃ k:Nat,x.sc=k/\k<=1000000/\(x.queue[k]?=none\/∃ A,x.queue[k]?=some A/\0<=A/\A<=1000000/\x.h.words.length<=100000/\StOK x A (stL x A)/\(stE x A=0->(stW x A).sc=((k+1:Nat):Int)/\AllOK f (stW x A)))
def RetAl (S:Nat->Prop) (x:Wk) (er:Int) (e:Ending) (w':World):Prop:=∃ v,e = .returned (.tuple #[v,.int .i64 er])/\WV w' S v x
theorem allV_end {f:Nat} {x:Wk} {k:Nat} (hk:x.sc=k) (h:x.queue[k]?=none):allV (f+1) x=(x,0):=by
 unfold allV;rw [hk,Int.toNat_natCast,h]
theorem allV_go {f:Nat} {x:Wk} {k:Nat} {A:Int} (hk:x.sc=k) (h:x.queue[k]?=some A):allV (f+1) x=if stE x A=0 then allV f (stW x A) else (Wk.zero,stE x A):=by
 rw [allV,hk,Int.toNat_natCast,h]
theorem refAll_any (S:Nat->Prop) (x:Wk) (p q po pt pq:Option Addr) (n c m d no co nt ct nq cq:Nat) (f0:Nat) (w:World) (hr:WR w S x p q po pt pq n c m d no co nt ct nq cq) (hS:∀ b,S b->b < w.heap.size) (hok:AllOK f0 x) :
 Calls Tryz.prog 126 #[(.agg #[.int .i64 x.h.pw,.int .i64 x.h.np,.slice p n c,.slice q m d,.int .i64 x.h.space,.int .i64 x.h.bump,.slice po no co,.slice pt nt ct,.slice pq nq cq,.int .i64 x.sc,.int .i64 x.r0,.int .i64 x.r1,.int .i64 x.r2,.int .i64 x.r3,.int .i64 x.r4,.int .i64 x.r5])] w fun e w'=>RetAl S (allV f0 x).1 (allV f0 x).2 e w'/\Below w.heap.size w w':=by
 have Hr:=qq (fun w' (hb:Below w.heap.size w w')=>hr.keep hb)
 obtain ⟨S2,hs2,hsa,hsb,hsl,hr2⟩:=hr.box hS
 obtain ⟨w1,hw1,hbx⟩:=boxes2x w 146 [.int .i64 x.h.pw,.int .i64 x.h.np,.slice p n c,.slice q m d,.int .i64 x.h.space,.int .i64 x.h.bump,.slice po no co,.slice pt nt ct,.slice pq nq cq,.int .i64 x.sc,.int .i64 x.r0,.int .i64 x.r1,.int .i64 x.r2,.int .i64 x.r3,.int .i64 x.r4,.int .i64 x.r5] [.int .i64 0,.int .i64 0,.slice none 0 0,.slice none 0 0,.int .i64 0,.int .i64 0,.slice none 0 0,.slice none 0 0,.slice none 0 0,.int .i64 0,.int .i64 0,.int .i64 0,.int .i64 0,.int .i64 0,.int .i64 0,.int .i64 0]
 have Ha:=qq hbx.1
 have Hb:=qq hbx.2.1
 have HB:=qq hbx.2.2
 have HR:=qq (hr2.keep hbx.2.2)
 clear hbx hr2
 have hwa:w.heap.size < w1.heap.size:=Ha.out.lt rfl
 have hwb:w.heap.size+1 < w1.heap.size:=Hb.out.lt rfl
 clear hr
 obtain ⟨RX,hRX⟩:∃ RX,Hid ((allV f0 x).1=RX):=⟨_,rfl⟩
 obtain ⟨RE,hRE⟩:∃ RE,Hid ((allV f0 x).2=RE):=⟨_,rfl⟩
 have HV:=qq (show allV f0 x=(RX,RE) from by rw [<-hRX.out,<-hRE.out])
 rw [hRX.out,hRE.out]
 clear hRX hRE
 have HOK:=qq hok
 clear hok
 obtain ⟨N0,hN0⟩:∃ N0:Nat,Hid (x.sc.toNat+f0=N0):=⟨_,rfl⟩
 have hsc0:Hid (0<=x.sc):=by cases f0 with | zero=>exact absurd HOK.out id | succ f=>obtain ⟨k,hk,-⟩:=HOK.out;exact qq (by omega)
 go_enter Tryz.func126,Tryz.ntmps126
 go_upto_region 1 with fail
 rw [hw1.out]
 clear hw1
 go_loopw [3] (fun u wr=>u = .int .i64 0/\∃ (f k:Nat) (y:Wk),∃ p2 q2 po2 pt2 pq2 n2 c2 m2 d2 no2 co2 nt2 ct2 nq2 cq2,y.sc=(k:Int)/\k+f=N0/\AllOK f y/\allV f y=(RX,RE)/\OwnL wr w.heap.size [.int .i64 y.h.pw,.int .i64 y.h.np,.slice p2 n2 c2,.slice q2 m2 d2,.int .i64 y.h.space,.int .i64 y.h.bump,.slice po2 no2 co2,.slice pt2 nt2 ct2,.slice pq2 nq2 cq2,.int .i64 y.sc,.int .i64 y.r0,.int .i64 y.r1,.int .i64 y.r2,.int .i64 y.r3,.int .i64 y.r4,.int .i64 y.r5]/\OwnL wr (w.heap.size+1) [.int .i64 0,.int .i64 0,.slice none 0 0,.slice none 0 0,.int .i64 0,.int .i64 0,.slice none 0 0,.slice none 0 0,.slice none 0 0,.int .i64 0,.int .i64 0,.int .i64 0,.int .i64 0,.int .i64 0,.int .i64 0,.int .i64 0]/\Below w.heap.size w wr/\WR wr S2 y p2 q2 po2 pt2 pq2 n2 c2 m2 d2 no2 co2 nt2 ct2 nq2 cq2) (fun _ wr=>N0 - (match wr.cell? ⟨w.heap.size,9,none⟩ with | some v=>(intOf v).toNat | none=>0))
 case atStart=>exact ⟨rfl,f0,x.sc.toNat,x,p,q,po,pt,pq,n,c,m,d,no,co,nt,ct,nq,cq,by have:=hsc0.out;omega,hN0.out,HOK.out,HV.out,Ha.out,Hb.out,HB.out,HR.out⟩
 case round =>
  obtain ⟨rfl,f,k,y,p2,q2,po2,pt2,pq2,n2,c2,m2,d2,no2,co2,nt2,ct2,nq2,cq2,hsc,hkf,hok,hv,ha,hb,hB,hR⟩:=hrel
  clear Ha Hb HB HR HOK HV hwa hwb hN0 hsc0
  have Ha:=qq ha
  have Hb:=qq hb
  have HB:=qq hB
  have HR:=qq hR
  have HSC:=qq hsc
  clear ha hb hB hR hsc
  have hwa:w.heap.size < wr.heap.size:=Ha.out.lt rfl
  have hwb:w.heap.size+1 < wr.heap.size:=Hb.out.lt rfl
  cases f with
  | zero=>exact absurd hok id
  | succ f =>
   obtain ⟨k',hk',hk9,hor⟩:=hok
   obtain rfl:k=k':=by have:=HSC.out;omega
   clear hk'
   rcases hor with hnone | ⟨A,hA,hA0,hA9,hwl,hst,hnext⟩
   · rw [allV_end HSC.out hnone] at hv
     have HV:=qq hv
     clear hv
     have hkn:nq2<=k:=by have h1:=HR.out.queue.len;have:=List.getElem?_eq_none_iff.1 hnone;omega
     have hSt:=step_done S2 y p2 q2 po2 pt2 pq2 n2 c2 m2 d2 no2 co2 nt2 ct2 nq2 cq2 wr HR.out (fun b hb=>by have:=hsl b hb;omega) k HSC.out hkn
     clear hnone
     go_wp2_with (first | ((with_reducible show wpList _ _ _ _ _ _);refine za7 (op:=⟨some 8,.load 146 _,_,_,_,_⟩) rfl _ _ rfl _ rfl _ Ha.out za8 ?_))
     refine hSt.mono ?_
     rintro e w2 ⟨⟨v,rfl,p3,q3,po3,pt3,pq3,n3,c3,m3,d3,no3,co3,nt3,ct3,nq3,cq3,rfl,hwr⟩,hb2⟩
     have HP:=qq hwr
     clear hwr hSt
     replace Ha:=qq (Ha.out.keep hb2 (Ha.out.lt rfl))
     replace Hb:=qq (Hb.out.keep hb2 (Hb.out.lt rfl))
     replace HB:=qq (za3 HB.out hb2)
     replace hwa:w.heap.size < w2.heap.size:=Ha.out.lt rfl
     replace hwb:w.heap.size+1 < w2.heap.size:=Hb.out.lt rfl
     clear hb2
     have HN:=qq (OwnL.new w2 [.int .i64 0,.int .i64 0,.slice none 0 0,.slice none 0 0,.int .i64 0,.int .i64 0,.slice none 0 0,.slice none 0 0,.slice none 0 0,.int .i64 0,.int .i64 0,.int .i64 0,.int .i64 0,.int .i64 0,.int .i64 0,.int .i64 0] 146)
     go_wp2_with (first | ((with_reducible show wpList _ _ _ _ _ _);refine za6 (op:=⟨none,.store 146 _ _,_,_,_,_⟩) rfl _ _ _ rfl _ ?hx1 [.int .i64 y.h.pw,.int .i64 y.h.np,.slice p3 n3 c3,.slice q3 m3 d3,.int .i64 y.h.space,.int .i64 y.h.bump,.slice po3 no3 co3,.slice pt3 nt3 ct3,.slice pq3 nq3 cq3,.int .i64 y.sc,.int .i64 y.r0,.int .i64 y.r1,.int .i64 y.r2,.int .i64 y.r3,.int .i64 y.r4,.int .i64 y.r5] _ ?hy1 HN.out rfl rfl za8 ?_))
     (try (case hx1=>rfl))
     (try (case hy1=>rfl))
     intro w3 ho2 hbt2 hst2
     have hb3:Below w2.heap.size w2 w3:=za1.trans (hbt2.low (Nat.le_refl _) (by simp))
     have H3:=qq ho2
     have h2b:w.heap.size+1 < w2.heap.size:=hwb
     clear HN ho2 hbt2 hst2
     replace HP:=qq (HP.out.keep hb3)
     replace Ha:=qq (Ha.out.keep hb3 (Ha.out.lt rfl))
     replace Hb:=qq (Hb.out.keep hb3 (Hb.out.lt rfl))
     replace HB:=qq (za3 HB.out hb3)
     replace hwa:w.heap.size < w3.heap.size:=Ha.out.lt rfl
     replace hwb:w.heap.size+1 < w3.heap.size:=Hb.out.lt rfl
     clear hb3
     go_wp2_with (first | ((with_reducible show wpList _ _ _ _ _ _);refine za7 (op:=⟨some 17,.load 146 _,_,_,_,_⟩) rfl _ _ rfl _ rfl _ H3.out za8 ?_) | ((with_reducible show wpList _ _ _ _ _ _);refine za6 (op:=⟨none,.store 146 _ _,_,_,_,_⟩) rfl _ _ _ rfl _ ?hx2 [.int .i64 y.h.pw,.int .i64 y.h.np,.slice p3 n3 c3,.slice q3 m3 d3,.int .i64 y.h.space,.int .i64 y.h.bump,.slice po3 no3 co3,.slice pt3 nt3 ct3,.slice pq3 nq3 cq3,.int .i64 y.sc,.int .i64 y.r0,.int .i64 y.r1,.int .i64 y.r2,.int .i64 y.r3,.int .i64 y.r4,.int .i64 y.r5] _ ?hy2 Ha.out rfl rfl za8 ?_))
     (try (case hx2=>rfl))
     (try (case hy2=>rfl))
     intro w6 ho2 hbt2 hst2
     have HP6:=qq (HP.out.stored hsa Ha.out (zd1 y p2 q2 po2 pt2 pq2 n2 c2 m2 d2 no2 co2 nt2 ct2 nq2 cq2) (by simp) hst2)
     replace Hb:=qq (Hb.out.but hbt2 hwb (by omega))
     replace HB:=qq (HB.out.trans (hbt2.low (Nat.le_refl _) (by omega)))
     clear Ha HP H3
     have Ha:=qq ho2
     clear ho2 hbt2 hst2
     have hw6a:w.heap.size < w6.heap.size:=Ha.out.lt rfl
     have hw6b:w.heap.size+1 < w6.heap.size:=Hb.out.lt rfl
     clear hwa hwb
     have hl9:=Hb.out.lt rfl
     go_wp2_with (first | ((with_reducible show wpList _ _ _ _ _ _);refine za7 (op:=⟨some 20,.load 146 _,_,_,_,_⟩) rfl _ _ rfl _ rfl _ Ha.out za8 ?_) | ((with_reducible show wpList _ _ _ _ _ _);refine za6 (op:=⟨none,.store 146 _ _,_,_,_,_⟩) rfl _ _ _ rfl _ ?hx3 [.int .i64 y.h.pw,.int .i64 y.h.np,.slice p3 n3 c3,.slice q3 m3 d3,.int .i64 y.h.space,.int .i64 y.h.bump,.slice po3 no3 co3,.slice pt3 nt3 ct3,.slice pq3 nq3 cq3,.int .i64 y.sc,.int .i64 y.r0,.int .i64 y.r1,.int .i64 y.r2,.int .i64 y.r3,.int .i64 y.r4,.int .i64 y.r5] _ ?hy3 Hb.out rfl rfl za8 ?_))
     (try (case hx3=>rfl))
     (try (case hy3=>rfl))
     intro w9 ho hbt hst
     have HZ:=qq ho
     have HXB:=qq (HB.out.trans (hbt.low (by omega) (by omega)))
     clear ho hbt
     have HXR:=qq ((HP6.out.stored hsb Hb.out zm2 (by simp) hst).mono hs2)
     go_wp2
     refine bodyPost_ret (yb9 rfl rfl HZ.out za8) rfl ?_
     rw [show RX=y from (congrArg Prod.fst HV.out).symm,show RE=0 from (congrArg Prod.snd HV.out).symm]
     exact ⟨⟨_,rfl,p3,q3,po3,pt3,pq3,n3,c3,m3,d3,no3,co3,nt3,ct3,nq3,cq3,rfl,HXR.out⟩,HXB.out⟩
   · rw [allV_go HSC.out hA] at hv
     have HV:=qq hv
     clear hv
     have HNX:=qq hnext
     clear hnext
     have hn2:n2<=100000:=by have:=HR.out.words.len;omega
     have hSt:=step_go S2 y p2 q2 po2 pt2 pq2 n2 c2 m2 d2 no2 co2 nt2 ct2 nq2 cq2 wr HR.out (fun b hb=>by have:=hsl b hb;omega) k A HSC.out hA hA0 hA9 hn2 hst
     clear hst hA hwl
     obtain ⟨E,hE⟩:∃ E,Hid (stE y A=E):=⟨_,rfl⟩
     obtain ⟨Y,hY⟩:∃ Y,Hid (stX y A=Y):=⟨_,rfl⟩
     have hBB:stB y A=decide (E=0):=by unfold stB;rw [hE.out]
     rw [hE.out,hY.out,hBB] at hSt
     rw [hE.out] at HV HNX
     clear hBB
     by_cases hE0:E=0
     · subst hE0
       rw [if_pos rfl] at HV
       have hY2:Y=stW y A:=by rw [<-hY.out];unfold stX;rw [hE.out,if_pos rfl]
       obtain ⟨hsc2,hok2⟩:=HNX.out rfl
       rw [<-hY2] at hsc2 hok2 HV
       have HSC2:=qq hsc2
       have HOK:=qq hok2
       clear hsc2 hok2 hY2 HNX
       rw [show decide ((0:Int)=0)=true from rfl] at hSt
       go_wp2_with (first | ((with_reducible show wpList _ _ _ _ _ _);refine za7 (op:=⟨some 8,.load 146 _,_,_,_,_⟩) rfl _ _ rfl _ rfl _ Ha.out za8 ?_))
       refine hSt.mono ?_
       rintro e w2 ⟨⟨v,rfl,p3,q3,po3,pt3,pq3,n3,c3,m3,d3,no3,co3,nt3,ct3,nq3,cq3,rfl,hwr⟩,hb2⟩
       have HP:=qq hwr
       clear hwr hSt
       have hcA:=Ha.out.cell 9 _ rfl
       rw [HSC.out] at hcA
       have HCA:=qq hcA
       clear hcA
       replace Ha:=qq (Ha.out.keep hb2 (Ha.out.lt rfl))
       replace Hb:=qq (Hb.out.keep hb2 (Hb.out.lt rfl))
       replace HB:=qq (za3 HB.out hb2)
       replace hwa:w.heap.size < w2.heap.size:=Ha.out.lt rfl
       replace hwb:w.heap.size+1 < w2.heap.size:=Hb.out.lt rfl
       clear hb2
       have HN:=qq (OwnL.new w2 [.int .i64 0,.int .i64 0,.slice none 0 0,.slice none 0 0,.int .i64 0,.int .i64 0,.slice none 0 0,.slice none 0 0,.slice none 0 0,.int .i64 0,.int .i64 0,.int .i64 0,.int .i64 0,.int .i64 0,.int .i64 0,.int .i64 0] 146)
       go_wp2_with (first | ((with_reducible show wpList _ _ _ _ _ _);refine za6 (op:=⟨none,.store 146 _ _,_,_,_,_⟩) rfl _ _ _ rfl _ ?hx4 [.int .i64 Y.h.pw,.int .i64 Y.h.np,.slice p3 n3 c3,.slice q3 m3 d3,.int .i64 Y.h.space,.int .i64 Y.h.bump,.slice po3 no3 co3,.slice pt3 nt3 ct3,.slice pq3 nq3 cq3,.int .i64 Y.sc,.int .i64 Y.r0,.int .i64 Y.r1,.int .i64 Y.r2,.int .i64 Y.r3,.int .i64 Y.r4,.int .i64 Y.r5] _ ?hy4 HN.out rfl rfl za8 ?_))
       (try (case hx4=>rfl))
       (try (case hy4=>rfl))
       intro w3 ho2 hbt2 hst2
       have hb3:Below w2.heap.size w2 w3:=za1.trans (hbt2.low (Nat.le_refl _) (by simp))
       have H3:=qq ho2
       have h2b:w.heap.size+1 < w2.heap.size:=hwb
       clear HN ho2 hbt2 hst2
       replace HP:=qq (HP.out.keep hb3)
       replace Ha:=qq (Ha.out.keep hb3 (Ha.out.lt rfl))
       replace Hb:=qq (Hb.out.keep hb3 (Hb.out.lt rfl))
       replace HB:=qq (za3 HB.out hb3)
       replace hwa:w.heap.size < w3.heap.size:=Ha.out.lt rfl
       replace hwb:w.heap.size+1 < w3.heap.size:=Hb.out.lt rfl
       clear hb3
       go_wp2_with (first | ((with_reducible show wpList _ _ _ _ _ _);refine za7 (op:=⟨some 17,.load 146 _,_,_,_,_⟩) rfl _ _ rfl _ rfl _ H3.out za8 ?_) | ((with_reducible show wpList _ _ _ _ _ _);refine za6 (op:=⟨none,.store 146 _ _,_,_,_,_⟩) rfl _ _ _ rfl _ ?hx5 [.int .i64 Y.h.pw,.int .i64 Y.h.np,.slice p3 n3 c3,.slice q3 m3 d3,.int .i64 Y.h.space,.int .i64 Y.h.bump,.slice po3 no3 co3,.slice pt3 nt3 ct3,.slice pq3 nq3 cq3,.int .i64 Y.sc,.int .i64 Y.r0,.int .i64 Y.r1,.int .i64 Y.r2,.int .i64 Y.r3,.int .i64 Y.r4,.int .i64 Y.r5] _ ?hy5 Ha.out rfl rfl za8 ?_))
       (try (case hx5=>rfl))
       (try (case hy5=>rfl))
       intro w6 ho2 hbt2 hst2
       have HP6:=qq (HP.out.stored hsa Ha.out (zd1 y p2 q2 po2 pt2 pq2 n2 c2 m2 d2 no2 co2 nt2 ct2 nq2 cq2) (by simp) hst2)
       replace Hb:=qq (Hb.out.but hbt2 hwb (by omega))
       replace HB:=qq (HB.out.trans (hbt2.low (Nat.le_refl _) (by omega)))
       clear Ha HP H3
       have Ha:=qq ho2
       clear ho2 hbt2 hst2
       have hw6a:w.heap.size < w6.heap.size:=Ha.out.lt rfl
       have hw6b:w.heap.size+1 < w6.heap.size:=Hb.out.lt rfl
       clear hwa hwb
       have hcB:=Ha.out.cell 9 _ rfl
       rw [HSC2.out] at hcB
       have HCB:=qq hcB
       clear hcB
       go_wp2
       go_roundw
       case rel=>exact ⟨rfl,f,k+1,Y,p3,q3,po3,pt3,pq3,n3,c3,m3,d3,no3,co3,nt3,ct3,nq3,cq3,HSC2.out,by omega,HOK.out,HV.out,Ha.out,Hb.out,HB.out,HP6.out⟩
       case measure=>rw [HCA.out,HCB.out];simp [intOf];omega
     · rw [if_neg hE0] at HV
       have hY2:Y=Wk.zero:=by rw [<-hY.out];unfold stX;rw [hE.out,if_neg hE0]
       subst hY2
       rw [decide_eq_false hE0] at hSt
       have hEn:(E != 0)=true:=bne_iff_ne.2 hE0
       clear hE0 HNX hY
       go_wp2_with (first | ((with_reducible show wpList _ _ _ _ _ _);refine za7 (op:=⟨some 8,.load 146 _,_,_,_,_⟩) rfl _ _ rfl _ rfl _ Ha.out za8 ?_))
       refine hSt.mono ?_
       rintro e w2 ⟨⟨v,rfl,p3,q3,po3,pt3,pq3,n3,c3,m3,d3,no3,co3,nt3,ct3,nq3,cq3,rfl,hwr⟩,hb2⟩
       have HP:=qq hwr
       clear hwr hSt
       replace Ha:=qq (Ha.out.keep hb2 (Ha.out.lt rfl))
       replace Hb:=qq (Hb.out.keep hb2 (Hb.out.lt rfl))
       replace HB:=qq (za3 HB.out hb2)
       replace hwa:w.heap.size < w2.heap.size:=Ha.out.lt rfl
       replace hwb:w.heap.size+1 < w2.heap.size:=Hb.out.lt rfl
       clear hb2
       have HN:=qq (OwnL.new w2 [.int .i64 0,.int .i64 0,.slice none 0 0,.slice none 0 0,.int .i64 0,.int .i64 0,.slice none 0 0,.slice none 0 0,.slice none 0 0,.int .i64 0,.int .i64 0,.int .i64 0,.int .i64 0,.int .i64 0,.int .i64 0,.int .i64 0] 146)
       go_wp2_with (first | ((with_reducible show wpList _ _ _ _ _ _);refine za6 (op:=⟨none,.store 146 _ _,_,_,_,_⟩) rfl _ _ _ rfl _ ?hx6 [.int .i64 0,.int .i64 0,.slice p3 n3 c3,.slice q3 m3 d3,.int .i64 0,.int .i64 0,.slice po3 no3 co3,.slice pt3 nt3 ct3,.slice pq3 nq3 cq3,.int .i64 0,.int .i64 0,.int .i64 0,.int .i64 0,.int .i64 0,.int .i64 0,.int .i64 0] _ ?hy6 HN.out rfl rfl za8 ?_))
       (try (case hx6=>rfl))
       (try (case hy6=>rfl))
       intro w3 ho2 hbt2 hst2
       have hb3:Below w2.heap.size w2 w3:=za1.trans (hbt2.low (Nat.le_refl _) (by simp))
       have H3:=qq ho2
       have h2b:w.heap.size+1 < w2.heap.size:=hwb
       clear HN ho2 hbt2 hst2
       replace HP:=qq (HP.out.keep hb3)
       replace Ha:=qq (Ha.out.keep hb3 (Ha.out.lt rfl))
       replace Hb:=qq (Hb.out.keep hb3 (Hb.out.lt rfl))
       replace HB:=qq (za3 HB.out hb3)
       replace hwa:w.heap.size < w3.heap.size:=Ha.out.lt rfl
       replace hwb:w.heap.size+1 < w3.heap.size:=Hb.out.lt rfl
       clear hb3
       clear H3 HP
       have hl9:=Hb.out.lt rfl
       go_wp2_with (first | ((with_reducible show wpList _ _ _ _ _ _);refine za6 (op:=⟨none,.store 146 _ _,_,_,_,_⟩) rfl _ _ _ rfl _ ?hx7 [.int .i64 0,.int .i64 0,.slice none 0 0,.slice none 0 0,.int .i64 0,.int .i64 0,.slice none 0 0,.slice none 0 0,.slice none 0 0,.int .i64 0,.int .i64 0,.int .i64 0,.int .i64 0,.int .i64 0,.int .i64 0,.int .i64 0] _ ?hy7 Hb.out rfl rfl za8 ?_))
       (try (case hx7=>rfl))
       (try (case hy7=>rfl))
       intro w9 ho hbt hst
       have HZ:=qq ho
       have HXB:=qq (HB.out.trans (hbt.low (by omega) (by omega)))
       clear ho hbt
       go_wp2
       refine bodyPost_ret (yb9 rfl rfl HZ.out za8) rfl ?_
       rw [show RX=Wk.zero from (congrArg Prod.fst HV.out).symm,show RE=E from (congrArg Prod.snd HV.out).symm]
       exact ⟨⟨_,rfl,WV.zero _ _⟩,HXB.out⟩
def zg2:Wk->List Int->List Int->Wk × List Int × Int
 | x,acc,[]=>(x,acc,0)
 | x,acc,r :: rs=>if evE x r=0 then zg2 (evW x r) (acc ++ [evA x r]) rs else (Wk.zero,[],evE x r)
def RootsOK:Wk->List Int->Prop
 | _,[]=>True
 | x,r :: rs=>FwOK x/\(0<=r/\r < 18446744073709551616)/\(evE x r=0->RootsOK (evW x r) rs)
def zp1 (h:Hp):Wk:=⟨{ h with pages:=h.pages.map fun g=>if g.kind=1/\0 < g.pins then ⟨g.kind,1 - h.space,g.used,g.pins⟩ else g },zc0 h,[],[],0,0,0,0,0,0,0⟩
def fillB (x:Wk) (a:Int):Bool:=zi2 x (ofI x.h.pw x.h.np a) && !decide (a∈x.queue)
def fillL (x:Wk) (a:Int):List Int:=encV 0 (evH x a).n 0 :: List.replicate (evH x a).n.toNat 0
def zc5 (x:Wk) (a:Int):Wk:=if fillB x a then { x with h:={ x.h with words:=zc8 x.h.words a (fillL x a) },r2:=wrap64 (x.r2+1) } else x
def zh8 (x:Wk):Wk:=x.old.foldl zc5 x
end Go.Proofs.YtipjdbhocjpmdaaGreat
