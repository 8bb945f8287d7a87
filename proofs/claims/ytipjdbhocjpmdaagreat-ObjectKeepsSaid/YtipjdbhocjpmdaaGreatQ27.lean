import Derived.Test.YtipjdbhocjpmdaaGreatQ01
import Derived.Test.YtipjdbhocjpmdaaGreatQ08
import Derived.Test.YtipjdbhocjpmdaaGreatQ10
import Derived.Test.YtipjdbhocjpmdaaGreatQ13
import Derived.Test.YtipjdbhocjpmdaaGreatQ26
import Derived.Deep.DeepCutAuto
set_option linter.unusedSimpArgs false
set_option linter.unusedVariables false
set_option maxRecDepth 100000
set_option maxHeartbeats 12800000
namespace Go.Proofs.YtipjdbhocjpmdaaGreat
open Go.RowKit
def setL (w:World) (b:Nat):Nat->List Value->World
 | _,[]=>w
 | i,v :: vs=>setL (w.setCell ⟨b,i,none⟩ v) b (i+1) vs
theorem ya5 {B b:Nat} {w:World} (hB:B<=b):∀ (vs:List Value) (i:Nat) (w1:World),Below B w w1->Below B w (setL w1 b i vs)
 | [],_,_,h=>h
 | v :: vs,i,_,h=>ya5 hB vs (i+1) _ (h.setCell (p:=⟨b,i,none⟩) hB v)
theorem setL_own {B e s g n c b:Nat} {xs:List Value} (hne:g≠b):∀ (vs:List Value) (i:Nat) (w:World),w.ownsRow B e s (.slice (some ⟨g,0,none⟩) n c) n xs->(setL w b i vs).ownsRow B e s (.slice (some ⟨g,0,none⟩) n c) n xs
 | [],_,_,h=>h
 | v :: vs,i,_,h=>setL_own hne vs (i+1) _ (zd0 h ⟨b,i,none⟩ v hne)
def noU (ys:List Value):Prop:=∀ (j:Nat) (y:Value),ys[j]?=some y->∀ x,y≠.int .u64 x
theorem zc3 {p:Option Addr} {n c b:Nat} {xs:List Int}:∀ (vs:List Value) (i:Nat) (ys:List Value) (w:World),SRow w .u64 p n c xs->OwnL w b ys->(∀ (j:Nat) (y:Value),i<=j->ys[j]?=some y->∀ x,y≠.int .u64 x)->i+vs.length<=ys.length->SRow (setL w b i vs) .u64 p n c xs
 | [],_,_,_,h,_,_,_=>h
 | v :: vs,i,ys,w,h,ho,hu,hl=>by
  simp only [List.length_cons] at hl
  have hi:i < ys.length:=by omega
  refine zc3 vs (i+1) (ys.set i v) _ (h.setOther _ (ys[i]'hi) v (ho.cell i _ (List.getElem?_eq_getElem hi)) (hu i _ (Nat.le_refl _) (List.getElem?_eq_getElem hi))) (ho.set i v hi) (fun j y hj hy=>?_) (by simp;omega)
  rw [List.getElem?_set_ne (by omega)] at hy
  exact hu j y (by omega) hy
theorem vrow_setL {s:Nat} {p:Option Addr} {n c b:Nat} {xs:List Value} (hf:xs≠[]->∀ ad,p=some ad->ad.block≠b):∀ (vs:List Value) (i:Nat) (w:World),VRow w s p n c xs->VRow (setL w b i vs) s p n c xs
 | [],_,_,h=>h
 | v :: vs,i,w,h=>by
  refine vrow_setL hf vs (i+1) _ ⟨h.len,h.le,h.max,fun j y hy=>?_⟩
  obtain ⟨b',off,hp,hc⟩:=h.row j y hy
  refine ⟨b',off,hp,?_⟩
  rw [World.cell?_setCell_other _ _ _ _ (fun e=>hf (fun e=>by rw [e] at hy;simp at hy) _ hp (by simp only [Addr.mk.injEq] at e;exact e.1.symm))];exact hc
theorem ya6 {kd:IntKind} {p:Option Addr} {n c b:Nat} {xs:List Int} (hf:xs≠[]->∀ ad,p=some ad->ad.block≠b):∀ (vs:List Value) (i:Nat) (w:World),SRow w kd p n c xs->SRow (setL w b i vs) kd p n c xs
 | [],_,_,h=>h
 | v :: vs,i,w,h=>by
  refine ya6 hf vs (i+1) _ ⟨h.len,h.le,h.max,fun j y hy=>?_⟩
  obtain ⟨b',off,hp,hc⟩:=h.row j y hy
  refine ⟨b',off,hp,?_⟩
  rw [World.cell?_setCell_other _ _ _ _ (fun e=>hf (fun e=>by rw [e] at hy;simp at hy) _ hp (by simp only [Addr.mk.injEq] at e;exact e.1.symm))];exact hc
theorem zi6 {w:World} {S:Nat->Prop} {x:Wk} {p q po pt pq:Option Addr} {n c m d no co nt ct nq cq b:Nat} {ys:List Value} (h:WR w S x p q po pt pq n c m d no co nt ct nq cq) (ho:OwnL w b ys) (hu:noU ys) (hS:S b) (vs:List Value) (i:Nat) (hl:i+vs.length<=ys.length) :
 WR (setL w b i vs) S x p q po pt pq n c m d no co nt ct nq cq :=
 ⟨zc3 vs i ys w h.words ho (fun j y _=>hu j y) hl,
  vrow_setL (fun hne ad e eb=>h.ap (fun e0=>hne (by rw [e0];rfl)) ad e (by rw [eb];exact hS)) vs i w h.pages,
  h.wb,zc3 vs i ys w h.old ho (fun j y _=>hu j y) hl,
  ya6 (fun hne ad e eb=>h.at_ hne ad e (by rw [eb];exact hS)) vs i w h.taken,
  zc3 vs i ys w h.queue ho (fun j y _=>hu j y) hl,h.ap,h.at_,h.aw,h.ao,h.aq⟩
theorem zd1 (x:Wk) (p q po pt pq:Option Addr) (n c m d no co nt ct nq cq:Nat):noU [.int .i64 x.h.pw,.int .i64 x.h.np,.slice p n c,.slice q m d,.int .i64 x.h.space,.int .i64 x.h.bump,.slice po no co,.slice pt nt ct,.slice pq nq cq,.int .i64 x.sc,.int .i64 x.r0,.int .i64 x.r1,.int .i64 x.r2,.int .i64 x.r3,.int .i64 x.r4,.int .i64 x.r5]:=by
 intro j y hy x
 rcases j with _ | _ | _ | _ | _ | _ | _ | _ | _ | _ | _ | _ | _ | _ | _ | _ | j <;> simp at hy
 all_goals (subst hy;intro e;cases e)
def zq2 (x:Wk) (a:Int):Wk:={ x with queue:=x.queue ++ [a],r1:=wrap64 (x.r1+1) }
theorem yd7 (S:Nat->Prop) (x:Wk) (p q po pt pq:Option Addr) (n c m d no co nt ct nq cq:Nat) (a:Int) (w:World) (hr:WR w S x p q po pt pq n c m d no co nt ct nq cq) (hS:∀ b,S b->b < w.heap.size) (hq:nq<=1000000) :
 Calls Tryz.prog 146 #[(.agg #[.int .i64 x.h.pw,.int .i64 x.h.np,.slice p n c,.slice q m d,.int .i64 x.h.space,.int .i64 x.h.bump,.slice po no co,.slice pt nt ct,.slice pq nq cq,.int .i64 x.sc,.int .i64 x.r0,.int .i64 x.r1,.int .i64 x.r2,.int .i64 x.r3,.int .i64 x.r4,.int .i64 x.r5]),.int .u64 a] w fun e w'=>(∃ v,e = .returned v/\WV w' S v (zq2 x a))/\Below w.heap.size w w':=by
 obtain ⟨i0,hin,hz0,hz1,hz2⟩:=info_parts zf2
 have hb0:Below w.heap.size w ((w.alloc (.cells #[.int .i64 x.h.pw,.int .i64 x.h.np,.slice p n c,.slice q m d,.int .i64 x.h.space,.int .i64 x.h.bump,.slice po no co,.slice pt nt ct,.slice pq nq cq,.int .i64 x.sc,.int .i64 x.r0,.int .i64 x.r1,.int .i64 x.r2,.int .i64 x.r3,.int .i64 x.r4,.int .i64 x.r5] 146)).alloc (.cells #[.int .i64 0,.int .i64 0,.slice none 0 0,.slice none 0 0,.int .i64 0,.int .i64 0,.slice none 0 0,.slice none 0 0,.slice none 0 0,.int .i64 0,.int .i64 0,.int .i64 0,.int .i64 0,.int .i64 0,.int .i64 0,.int .i64 0] 146)):=za3 za1 za1
 have Hr:=qq (fun w' (hb:Below w.heap.size w w')=>hr.keep hb)
 have Hq:=qq (hr.queue.keep (za3 hb0 (za1 (o:=.cells #[] 48))))
 have hown0:(((w.alloc (.cells #[.int .i64 x.h.pw,.int .i64 x.h.np,.slice p n c,.slice q m d,.int .i64 x.h.space,.int .i64 x.h.bump,.slice po no co,.slice pt nt ct,.slice pq nq cq,.int .i64 x.sc,.int .i64 x.r0,.int .i64 x.r1,.int .i64 x.r2,.int .i64 x.r3,.int .i64 x.r4,.int .i64 x.r5] 146)).alloc (.cells #[.int .i64 0,.int .i64 0,.slice none 0 0,.slice none 0 0,.int .i64 0,.int .i64 0,.slice none 0 0,.slice none 0 0,.slice none 0 0,.int .i64 0,.int .i64 0,.int .i64 0,.int .i64 0,.int .i64 0,.int .i64 0,.int .i64 0] 146)).alloc (.cells #[] 48)).ownsRow (w.heap.size+1+1) 48 1 (.slice (some ⟨w.heap.size+1+1,0,none⟩) 0 0) 0 []:=by
  simpa using zf9 ((w.alloc (.cells #[.int .i64 x.h.pw,.int .i64 x.h.np,.slice p n c,.slice q m d,.int .i64 x.h.space,.int .i64 x.h.bump,.slice po no co,.slice pt nt ct,.slice pq nq cq,.int .i64 x.sc,.int .i64 x.r0,.int .i64 x.r1,.int .i64 x.r2,.int .i64 x.r3,.int .i64 x.r4,.int .i64 x.r5] 146)).alloc (.cells #[.int .i64 0,.int .i64 0,.slice none 0 0,.slice none 0 0,.int .i64 0,.int .i64 0,.slice none 0 0,.slice none 0 0,.slice none 0 0,.int .i64 0,.int .i64 0,.int .i64 0,.int .i64 0,.int .i64 0,.int .i64 0,.int .i64 0] 146)) 48 1
 have Ha:=qq ((show OwnL (w.alloc (.cells #[.int .i64 x.h.pw,.int .i64 x.h.np,.slice p n c,.slice q m d,.int .i64 x.h.space,.int .i64 x.h.bump,.slice po no co,.slice pt nt ct,.slice pq nq cq,.int .i64 x.sc,.int .i64 x.r0,.int .i64 x.r1,.int .i64 x.r2,.int .i64 x.r3,.int .i64 x.r4,.int .i64 x.r5] 146)) w.heap.size [.int .i64 x.h.pw,.int .i64 x.h.np,.slice p n c,.slice q m d,.int .i64 x.h.space,.int .i64 x.h.bump,.slice po no co,.slice pt nt ct,.slice pq nq cq,.int .i64 x.sc,.int .i64 x.r0,.int .i64 x.r1,.int .i64 x.r2,.int .i64 x.r3,.int .i64 x.r4,.int .i64 x.r5] from OwnL.new _ _ _).keep (za1 (o:=(.cells #[.int .i64 0,.int .i64 0,.slice none 0 0,.slice none 0 0,.int .i64 0,.int .i64 0,.slice none 0 0,.slice none 0 0,.slice none 0 0,.int .i64 0,.int .i64 0,.int .i64 0,.int .i64 0,.int .i64 0,.int .i64 0,.int .i64 0] 146))) (by simp))
 have Hb:=qq (show OwnL ((w.alloc (.cells #[.int .i64 x.h.pw,.int .i64 x.h.np,.slice p n c,.slice q m d,.int .i64 x.h.space,.int .i64 x.h.bump,.slice po no co,.slice pt nt ct,.slice pq nq cq,.int .i64 x.sc,.int .i64 x.r0,.int .i64 x.r1,.int .i64 x.r2,.int .i64 x.r3,.int .i64 x.r4,.int .i64 x.r5] 146)).alloc (.cells #[.int .i64 0,.int .i64 0,.slice none 0 0,.slice none 0 0,.int .i64 0,.int .i64 0,.slice none 0 0,.slice none 0 0,.slice none 0 0,.int .i64 0,.int .i64 0,.int .i64 0,.int .i64 0,.int .i64 0,.int .i64 0,.int .i64 0] 146)) (w.heap.size+1) [.int .i64 0,.int .i64 0,.slice none 0 0,.slice none 0 0,.int .i64 0,.int .i64 0,.slice none 0 0,.slice none 0 0,.slice none 0 0,.int .i64 0,.int .i64 0,.int .i64 0,.int .i64 0,.int .i64 0,.int .i64 0,.int .i64 0] from by
  have:=OwnL.new (w.alloc (.cells #[.int .i64 x.h.pw,.int .i64 x.h.np,.slice p n c,.slice q m d,.int .i64 x.h.space,.int .i64 x.h.bump,.slice po no co,.slice pt nt ct,.slice pq nq cq,.int .i64 x.sc,.int .i64 x.r0,.int .i64 x.r1,.int .i64 x.r2,.int .i64 x.r3,.int .i64 x.r4,.int .i64 x.r5] 146)) [.int .i64 0,.int .i64 0,.slice none 0 0,.slice none 0 0,.int .i64 0,.int .i64 0,.slice none 0 0,.slice none 0 0,.slice none 0 0,.int .i64 0,.int .i64 0,.int .i64 0,.int .i64 0,.int .i64 0,.int .i64 0,.int .i64 0] 146
  simpa using this)
 have HB0:=qq hb0
 have c8:=Ha.out.cell 8 _ rfl
 clear hr hb0
 go_enter Tryz.func146,Tryz.ntmps146
 go_wp2_with (at_builtin;refine zd7 rfl _ _ 24 rfl (w.heap.size+1+1) 48 i0 (.int .u64 0) 8 Tryz.underlying24 hin hz0 hz1 hz2 rfl (.slice (some ⟨w.heap.size+1+1,0,none⟩) 0 0) 0 [] rfl hown0 pq nq cq .u64 x.queue rfl ?src ?c3 ?c4 ?c5 ?_)
 case src=>exact Hq.out
 case c3=>unfold maxLen;omega
 case c4=>omega
 case c5=>simp
 intro v' w2 hown hgrow
 have hb2:Below (w.heap.size+1+1) ((w.alloc (.cells #[.int .i64 x.h.pw,.int .i64 x.h.np,.slice p n c,.slice q m d,.int .i64 x.h.space,.int .i64 x.h.bump,.slice po no co,.slice pt nt ct,.slice pq nq cq,.int .i64 x.sc,.int .i64 x.r0,.int .i64 x.r1,.int .i64 x.r2,.int .i64 x.r3,.int .i64 x.r4,.int .i64 x.r5] 146)).alloc (.cells #[.int .i64 0,.int .i64 0,.slice none 0 0,.slice none 0 0,.int .i64 0,.int .i64 0,.slice none 0 0,.slice none 0 0,.slice none 0 0,.int .i64 0,.int .i64 0,.int .i64 0,.int .i64 0,.int .i64 0,.int .i64 0,.int .i64 0] 146)) w2 :=
  ((Below.refl _ _).alloc (by simp) _).grown hgrow (by simp) (fun k h=>by simp [Value.ownBlock] at h;omega)
 have hsz:=hb2.size
 have Hown:=qq hown
 clear hgrow hown0 hown
 simp at hsz
 go_wp2_with (at_builtin;refine zd7 rfl _ _ 24 rfl (w.heap.size+1+1) 48 i0 (.int .u64 0) 8 Tryz.underlying24 hin hz0 hz1 hz2 rfl v' _ _ rfl (Hown.out.alloc _) (some ⟨w2.heap.size,0,none⟩) 1 1 .u64 [a] rfl (zl7 w2 48 a) ?c3 ?c4 ?c5 ?_)
 case c3=>unfold maxLen;omega
 case c4=>omega
 case c5=>simp;omega
 intro v4 w4 hown4 hgrow4
 have hb3:Below (w.heap.size+1+1) ((w.alloc (.cells #[.int .i64 x.h.pw,.int .i64 x.h.np,.slice p n c,.slice q m d,.int .i64 x.h.space,.int .i64 x.h.bump,.slice po no co,.slice pt nt ct,.slice pq nq cq,.int .i64 x.sc,.int .i64 x.r0,.int .i64 x.r1,.int .i64 x.r2,.int .i64 x.r3,.int .i64 x.r4,.int .i64 x.r5] 146)).alloc (.cells #[.int .i64 0,.int .i64 0,.slice none 0 0,.slice none 0 0,.int .i64 0,.int .i64 0,.slice none 0 0,.slice none 0 0,.slice none 0 0,.int .i64 0,.int .i64 0,.int .i64 0,.int .i64 0,.int .i64 0,.int .i64 0,.int .i64 0] 146)) (w2.alloc (.cells #[.int .u64 a] 48)):=hb2.alloc hsz _
 have hb4:Below (w.heap.size+1+1) ((w.alloc (.cells #[.int .i64 x.h.pw,.int .i64 x.h.np,.slice p n c,.slice q m d,.int .i64 x.h.space,.int .i64 x.h.bump,.slice po no co,.slice pt nt ct,.slice pq nq cq,.int .i64 x.sc,.int .i64 x.r0,.int .i64 x.r1,.int .i64 x.r2,.int .i64 x.r3,.int .i64 x.r4,.int .i64 x.r5] 146)).alloc (.cells #[.int .i64 0,.int .i64 0,.slice none 0 0,.slice none 0 0,.int .i64 0,.int .i64 0,.slice none 0 0,.slice none 0 0,.slice none 0 0,.int .i64 0,.int .i64 0,.int .i64 0,.int .i64 0,.int .i64 0,.int .i64 0,.int .i64 0] 146)) w4:=hb3.grown hgrow4 (by simp;omega) (fun j hj=>(Hown.out.lt j hj).1)
 rw [ze4] at hown4
 obtain ⟨g,cc,rfl,hg,hgl⟩:=World.ownsRow.form hown4 (by omega)
 have Hown:=qq hown4
 have Ha:=qq (Ha.out.keep (by simpa using hb4) (by simp;omega))
 have Hb:=qq (Hb.out.keep (by simpa using hb4) (by simp))
 have HB2:=qq (HB0.out.trans (hb4.mono (by omega)))
 have hl2:w.heap.size+1 < w4.heap.size:=Hb.out.lt rfl
 clear hb2 hb3 hb4 hown4 hgrow4 HB0 c8
 have c0:=Ha.out.cell 0 _ rfl
 have c1:=Ha.out.cell 1 _ rfl
 have c2:=Ha.out.cell 2 _ rfl
 have c3:=Ha.out.cell 3 _ rfl
 have c4:=Ha.out.cell 4 _ rfl
 have c5:=Ha.out.cell 5 _ rfl
 have c6:=Ha.out.cell 6 _ rfl
 have c7:=Ha.out.cell 7 _ rfl
 have c8:=Ha.out.cell 8 _ rfl
 have c9:=Ha.out.cell 9 _ rfl
 have c10:=Ha.out.cell 10 _ rfl
 have c11:=Ha.out.cell 11 _ rfl
 have c12:=Ha.out.cell 12 _ rfl
 have c13:=Ha.out.cell 13 _ rfl
 have c14:=Ha.out.cell 14 _ rfl
 have c15:=Ha.out.cell 15 _ rfl
 have f8:=Ha.out.free 8
 have f11:=Ha.out.free 11
 have z0:=Hb.out.cell 0 _ rfl
 have z1:=Hb.out.cell 1 _ rfl
 have z2:=Hb.out.cell 2 _ rfl
 have z3:=Hb.out.cell 3 _ rfl
 have z4:=Hb.out.cell 4 _ rfl
 have z5:=Hb.out.cell 5 _ rfl
 have z6:=Hb.out.cell 6 _ rfl
 have z7:=Hb.out.cell 7 _ rfl
 have z8:=Hb.out.cell 8 _ rfl
 have z9:=Hb.out.cell 9 _ rfl
 have z10:=Hb.out.cell 10 _ rfl
 have z11:=Hb.out.cell 11 _ rfl
 have z12:=Hb.out.cell 12 _ rfl
 have z13:=Hb.out.cell 13 _ rfl
 have z14:=Hb.out.cell 14 _ rfl
 have z15:=Hb.out.cell 15 _ rfl
 have y0:=Hb.out.free 0
 have y1:=Hb.out.free 1
 have y2:=Hb.out.free 2
 have y3:=Hb.out.free 3
 have y4:=Hb.out.free 4
 have y5:=Hb.out.free 5
 have y6:=Hb.out.free 6
 have y7:=Hb.out.free 7
 have y8:=Hb.out.free 8
 have y9:=Hb.out.free 9
 have y10:=Hb.out.free 10
 have y11:=Hb.out.free 11
 have y12:=Hb.out.free 12
 have y13:=Hb.out.free 13
 have y14:=Hb.out.free 14
 have y15:=Hb.out.free 15
 have HXo:=qq (setL_own (b:=w.heap.size+1) (by omega) [.int .i64 x.h.pw,.int .i64 x.h.np,.slice p n c,.slice q m d,.int .i64 x.h.space,.int .i64 x.h.bump,.slice po no co,.slice pt nt ct,.slice (some ⟨g,0,none⟩) (nq+1) cc,.int .i64 x.sc,.int .i64 x.r0,.int .i64 (wrap64 (x.r1+1)),.int .i64 x.r2,.int .i64 x.r3,.int .i64 x.r4,.int .i64 x.r5] 0 _ (setL_own (b:=w.heap.size) (by omega) [.int .i64 (wrap64 (x.r1+1))] 11 _ (setL_own (b:=w.heap.size) (by omega) [.slice (some ⟨g,0,none⟩) (nq+1) cc] 8 _ Hown.out)))
 have HXB:=qq (ya5 (B:=w.heap.size) (b:=w.heap.size+1) (by omega) [.int .i64 x.h.pw,.int .i64 x.h.np,.slice p n c,.slice q m d,.int .i64 x.h.space,.int .i64 x.h.bump,.slice po no co,.slice pt nt ct,.slice (some ⟨g,0,none⟩) (nq+1) cc,.int .i64 x.sc,.int .i64 x.r0,.int .i64 (wrap64 (x.r1+1)),.int .i64 x.r2,.int .i64 x.r3,.int .i64 x.r4,.int .i64 x.r5] 0 _ (ya5 (b:=w.heap.size) (Nat.le_refl _) [.int .i64 (wrap64 (x.r1+1))] 11 _ (ya5 (b:=w.heap.size) (Nat.le_refl _) [.slice (some ⟨g,0,none⟩) (nq+1) cc] 8 _ HB2.out)))
 have HXr:=qq (Hr.out _ HXB.out)
 clear Hq Hown
 go_wp2
 refine bodyPost_ret (v:=(.agg #[.int .i64 x.h.pw,.int .i64 x.h.np,.slice p n c,.slice q m d,.int .i64 x.h.space,.int .i64 x.h.bump,.slice po no co,.slice pt nt ct,.slice (some ⟨g,0,none⟩) (nq+1) cc,.int .i64 x.sc,.int .i64 x.r0,.int .i64 (wrap64 (x.r1+1)),.int .i64 x.r2,.int .i64 x.r3,.int .i64 x.r4,.int .i64 x.r5])) (by simp [results,Tryz.results146,go_sem,z0,z1,z2,z3,z4,z5,z6,z7,z8,z9,z10,z11,z12,z13,z14,z15]) rfl ?_
 refine ⟨⟨_,rfl,p,q,po,pt,some ⟨g,0,none⟩,n,c,m,d,no,co,nt,ct,nq+1,cc,rfl,?_⟩,HXB.out⟩
 obtain ⟨p9,c9,e9,h9⟩:=SRow.of_own HXo.out
 injection e9 with e1 e2 e3
 subst e1 e3
 exact ⟨HXr.out.words,HXr.out.pages,HXr.out.wb,HXr.out.old,HXr.out.taken,h9,HXr.out.ap,HXr.out.at_,HXr.out.aw,HXr.out.ao,fun _ ad e=>by cases e;exact fun hs=>by have:=hS _ hs;simp only at this;omega⟩
theorem smallPV_first {ps:List Pg} {sp:Int} (h0:0<=sp) (h1:sp<=1) (hF:0<=zc7 ps 1) :
 (zc7 ps 1).toNat < ps.length/\zj3 ps (zc7 ps 1) sp=ps.set (zc7 ps 1).toNat ⟨1,sp,0,0⟩/\∃ y,ps[(zc7 ps 1).toNat]?=some y/\y.kind=0:=by
 obtain ⟨-,f1,f2⟩:=zu3 hF
 obtain ⟨y,hy,hy0⟩:=f2 (zc7 ps 1).toNat (by omega) (by omega)
 have hlt:(zc7 ps 1).toNat < ps.length:=(List.getElem?_eq_some_iff.1 hy).1
 have hfree:zh7 ps (zc7 ps 1).toNat 1=true:=by
  have:=zr5 (ps:=ps) (i:=(zc7 ps 1).toNat) (k:=0) (x:=y) (by rw [Nat.add_zero];exact hy)
  rw [zu0,hy0] at this;simpa using this
 obtain ⟨t1,t2⟩:=zx6 (x:=⟨1,sp,0,0⟩) (y:=Pg.zero) hlt (show (zc7 ps 1).toNat+1<=ps.length by omega) hfree
 have eF:(((zc7 ps 1).toNat:Nat):Int)=zc7 ps 1:=by omega
 rw [eF] at t1 t2
 refine ⟨hlt,?_,y,hy,hy0⟩
 unfold zj3
 rw [if_pos ⟨h0,h1⟩]
 rw [show ((1:Nat):Int)=1 from rfl] at t1
 rw [t1]
 apply List.ext_getElem?
 intro i
 have hl:(put ps (zc7 ps 1).toNat 1 Pg.zero).length=ps.length:=zw1 (by omega)
 rw [List.getElem?_set,List.getElem?_set,hl]
 split
 · rfl
 · rw [zq4 (by omega) (by omega)]
def zs2 (x:Wk) (n:Int):Bool:=match x.taken.getLast? with | some l=>decide ((x.h.pages.getD l.toNat Pg.zero).used+n<=x.h.pw) | none=>false
def plJ (x:Wk) (n:Int):Int:=if zs2 x n then x.taken.getLast?.getD (-1) else zc7 x.h.pages 1
def plB (x:Wk) (n:Int):Bool:=zs2 x n || decide (0<=zc7 x.h.pages 1)
def plPs (x:Wk) (n:Int):List Pg:=if zs2 x n then x.h.pages else zj3 x.h.pages (zc7 x.h.pages 1) (1 - x.h.space)
def plT (x:Wk) (n:Int):List Int:=if zs2 x n then x.taken else x.taken ++ [zc7 x.h.pages 1]
def plW (x:Wk) (n:Int):Wk:={ x with h:={ x.h with pages:=useAt (plPs x n) (plJ x n).toNat n },taken:=plT x n }
def plA (x:Wk) (n:Int):Int:=4096+plJ x n*x.h.pw+((plPs x n).getD (plJ x n).toNat Pg.zero).used
structure PlOK (x:Wk):Prop where
 pw0:16<=x.h.pw
 pw1:x.h.pw<=64
 np0:1<=x.h.pages.length
 np1:x.h.pages.length<=64
 sp0:0<=x.h.space
 sp1:x.h.space<=1
 tk:x.taken.length<=1000
 last:∀ l,x.taken.getLast?=some l->∃ k:Nat,l=k/\∃ g,x.h.pages[k]?=some g/\0<=g.used/\g.used<=x.h.pw
theorem ya7 {x:Wk} {n:Int} (hx:PlOK x) (hb:plB x n=true) :
 ∃ j:Nat,∃ y:Pg,plJ x n=j/\j < x.h.pages.length/\(plPs x n).length=x.h.pages.length/\(plPs x n)[j]?=some y/\0<=y.used/\y.used<=x.h.pw /\
  ((zs2 x n=true/\plPs x n=x.h.pages/\x.taken.getLast?=some (j:Int)/\y.used+n<=x.h.pw)\/(zs2 x n=false/\zc7 x.h.pages 1=j/\plPs x n=x.h.pages.set j ⟨1,1 - x.h.space,0,0⟩/\y=⟨1,1 - x.h.space,0,0⟩/\∃ z,x.h.pages[j]?=some z/\z.kind=0)):=by
 cases hr:zs2 x n
 · unfold plB at hb
   rw [hr,Bool.false_or] at hb
   have hF:=of_decide_eq_true hb
   have s0:=hx.sp0
   have s1:=hx.sp1
   have p0:=hx.pw0
   obtain ⟨f1,f2,z,f3,f4⟩:=smallPV_first (ps:=x.h.pages) (sp:=1 - x.h.space) (by omega) (by omega) hF
   have e1:plPs x n=x.h.pages.set (zc7 x.h.pages 1).toNat ⟨1,1 - x.h.space,0,0⟩:=by unfold plPs;rw [hr];exact f2
   refine ⟨(zc7 x.h.pages 1).toNat,⟨1,1 - x.h.space,0,0⟩,by unfold plJ;rw [hr];simp;omega,f1,by rw [e1,List.length_set],by rw [e1,List.getElem?_set,if_pos rfl,if_pos f1],by simp,by simp only;omega,Or.inr ⟨rfl,by omega,e1,rfl,z,f3,f4⟩⟩
 · have h1:=hr
   unfold zs2 at h1
   cases hl:x.taken.getLast? with
   | none=>rw [hl] at h1;cases h1
   | some l =>
    rw [hl] at h1
    obtain ⟨k,rfl,g,g1,g2,g3⟩:=hx.last l hl
    have hk:=(List.getElem?_eq_some_iff.1 g1).1
    have h2:=of_decide_eq_true h1
    rw [Int.toNat_natCast,zc6 g1] at h2
    have e1:plPs x n=x.h.pages:=by unfold plPs;rw [hr];rfl
    exact ⟨k,g,by unfold plJ;rw [hr,hl];rfl,hk,by rw [e1],by rw [e1];exact g1,g2,g3,Or.inl ⟨rfl,e1,rfl,h2⟩⟩
theorem zi8 (w:World) (T:TypeId) (vs zs:List Value) :
 OwnL ((w.alloc (.cells vs.toArray T)).alloc (.cells zs.toArray T)) w.heap.size vs/\OwnL ((w.alloc (.cells vs.toArray T)).alloc (.cells zs.toArray T)) (w.heap.size+1) zs/\Below w.heap.size w ((w.alloc (.cells vs.toArray T)).alloc (.cells zs.toArray T)):=by
 refine ⟨(OwnL.new w vs T).keep za1 (by simp),?_,za3 za1 za1⟩
 have:=OwnL.new (w.alloc (.cells vs.toArray T)) zs T
 simpa using this
theorem boxes2x (w:World) (T:TypeId) (vs zs:List Value):∃ w1,Hid ((w.alloc (.cells vs.toArray T)).alloc (.cells zs.toArray T)=w1)/\OwnL w1 w.heap.size vs/\OwnL w1 (w.heap.size+1) zs/\Below w.heap.size w w1:=⟨_,rfl,zi8 w T vs zs⟩
theorem zb7 (b:Nat):∀ (vs:List Value) (i:Nat) (w:World),w.setCells b i vs=setL w b i vs
 | [],_,_=>rfl
 | _ :: vs,i,_=>zb7 b vs (i+1) _
theorem zm2:noU [.int .i64 0,.int .i64 0,.slice none 0 0,.slice none 0 0,.int .i64 0,.int .i64 0,.slice none 0 0,.slice none 0 0,.slice none 0 0,.int .i64 0,.int .i64 0,.int .i64 0,.int .i64 0,.int .i64 0,.int .i64 0,.int .i64 0]:=by
 intro j y hy x
 rcases j with _ | _ | _ | _ | _ | _ | _ | _ | _ | _ | _ | _ | _ | _ | _ | _ | j <;> simp at hy
 all_goals (subst hy;intro e;cases e)
theorem WR.stored {w w':World} {S:Nat->Prop} {x:Wk} {p q po pt pq:Option Addr} {n c m d no co nt ct nq cq b:Nat} {ys vs:List Value} (h:WR w S x p q po pt pq n c m d no co nt ct nq cq) (hS:S b) (ho:OwnL w b ys) (hu:noU ys) (hl:vs.length<=ys.length) (e:Hid (w'=w.setCells b 0 vs)):WR w' S x p q po pt pq n c m d no co nt ct nq cq:=by
 rw [e.out,zb7]
 exact zi6 h ho hu hS vs 0 (by omega)
theorem WR.mono {w:World} {S S2:Nat->Prop} {x:Wk} {p q po pt pq:Option Addr} {n c m d no co nt ct nq cq:Nat} (h:WR w S2 x p q po pt pq n c m d no co nt ct nq cq) (hS:∀ b,S b->S2 b):WR w S x p q po pt pq n c m d no co nt ct nq cq :=
 ⟨h.words,h.pages,h.wb,h.old,h.taken,h.queue,fun hp ad e hs=>h.ap hp ad e (hS _ hs),fun hp ad e hs=>h.at_ hp ad e (hS _ hs),fun hp ad e hs=>h.aw hp ad e (hS _ hs),fun hp ad e hs=>h.ao hp ad e (hS _ hs),fun hp ad e hs=>h.aq hp ad e (hS _ hs)⟩
theorem WR.also {w:World} {S:Nat->Prop} {x:Wk} {p q po pt pq:Option Addr} {n c m d no co nt ct nq cq:Nat} (h:WR w S x p q po pt pq n c m d no co nt ct nq cq) (T:Nat->Prop) (hT:∀ b,T b->w.heap.size<=b):WR w (fun b=>S b\/T b) x p q po pt pq n c m d no co nt ct nq cq :=
 ⟨h.words,h.pages,h.wb,h.old,h.taken,h.queue,fun hp ad e hs=>by
  rcases hs with hs | hs
  · exact h.ap hp ad e hs
  · obtain ⟨y,b,off,hy,e1,y0,-⟩:=h.pages.at_ (k:=0) (by have:=h.pages.len;have:=List.length_pos_iff.2 hp;omega)
    rw [e] at e1
    injection e1 with e1
    subst e1
    exact absurd (zb4 y0) (by have:=hT _ hs;simp only at this ⊢;omega),
  fun hp ad e hs=>by
   rcases hs with hs | hs
   · exact h.at_ hp ad e hs
   · obtain ⟨y,b,off,hy,e1,y0⟩:=h.taken.at_ (k:=0) (by have:=h.taken.len;have:=List.length_pos_iff.2 hp;omega)
     rw [e] at e1
     injection e1 with e1
     subst e1
     exact absurd (zb4 y0) (by have:=hT _ hs;simp only at this ⊢;omega),
  fun hp ad e hs=>by
   rcases hs with hs | hs
   · exact h.aw hp ad e hs
   · obtain ⟨y,b,off,hy,e1,y0⟩:=h.words.at_ (k:=0) (by have:=h.words.len;have:=List.length_pos_iff.2 hp;omega)
     rw [e] at e1
     injection e1 with e1
     subst e1
     exact absurd (zb4 y0) (by have:=hT _ hs;simp only at this ⊢;omega),
  fun hp ad e hs=>by
   rcases hs with hs | hs
   · exact h.ao hp ad e hs
   · obtain ⟨y,b,off,hy,e1,y0⟩:=h.old.at_ (k:=0) (by have:=h.old.len;have:=List.length_pos_iff.2 hp;omega)
     rw [e] at e1
     injection e1 with e1
     subst e1
     exact absurd (zb4 y0) (by have:=hT _ hs;simp only at this ⊢;omega),
  fun hp ad e hs=>by
   rcases hs with hs | hs
   · exact h.aq hp ad e hs
   · obtain ⟨y,b,off,hy,e1,y0⟩:=h.queue.at_ (k:=0) (by have:=h.queue.len;have:=List.length_pos_iff.2 hp;omega)
     rw [e] at e1
     injection e1 with e1
     subst e1
     exact absurd (zb4 y0) (by have:=hT _ hs;simp only at this ⊢;omega)⟩
theorem WR.box {w:World} {S:Nat->Prop} {x:Wk} {p q po pt pq:Option Addr} {n c m d no co nt ct nq cq:Nat} (h:WR w S x p q po pt pq n c m d no co nt ct nq cq) (hS:∀ b,S b->b < w.heap.size) :
 ∃ S2:Nat->Prop,(∀ b,S b->S2 b)/\S2 w.heap.size/\S2 (w.heap.size+1)/\(∀ b,S2 b->b < w.heap.size+2)/\WR w S2 x p q po pt pq n c m d no co nt ct nq cq :=
 ⟨fun b=>S b\/(b=w.heap.size\/b=w.heap.size+1),fun _ h=>Or.inl h,Or.inr (Or.inl rfl),Or.inr (Or.inr rfl),fun b hb=>by rcases hb with hb | hb | hb <;> first | omega | (have:=hS _ hb;omega),h.also _ (fun b hb=>by omega)⟩
def evWd (x:Wk) (a:Int):Int:=ze1 x.h.words a
def evI (x:Wk) (a:Int):Int:=ofI x.h.pw x.h.np a
def evN (x:Wk) (a:Int):Int:=zd8 (decK (evWd x a).toNat) (decN (evWd x a).toNat) (decM (evWd x a).toNat)
def evBig (x:Wk) (a:Int):Bool:=decide ((x.h.pages.getD (evI x a).toNat Pg.zero).kind=2)
def spc (ps:List Pg) (i k:Nat) (sp:Int):List Pg:=ps.mapIdx fun j y=>if i<=j/\j < k then ⟨y.kind,sp,y.used,y.pins⟩ else y
def zu6 (ps:List Pg) (i:Nat):Nat:=i+1+((ps.drop (i+1)).takeWhile fun y=>decide (y.kind=3)).length
def zm5 (x:Wk) (i:Nat):Wk:={ x with h:={ x.h with pages:=spc x.h.pages i (zu6 x.h.pages i) (1 - x.h.space) } }
def copyWd (x:Wk) (a:Int):List Int:=zc8 (zj0 x.h.words (plA x (evN x a)) a (evN x a)) a [fwdV (plA x (evN x a))]
def zh5 (x:Wk) (a:Int):Wk:={ plW x (evN x a) with h:={ (plW x (evN x a)).h with words:=copyWd x a },queue:=x.queue ++ [plA x (evN x a)],r0:=wrap64 (x.r0+1) }
def evC (x:Wk) (a:Int):Nat :=
 if a=0\/a∈x.queue then 0 else if ¬a∈x.old then 1 else if okT (evWd x a).toNat then 2
 else if ¬ofE x.h.pw x.h.np a=0\/(x.h.pages.length:Int)<=evI x a then 3
 else if zi2 x (evI x a) then 4 else if evBig x a then 5 else if plB x (evN x a) then 7 else 6
def evE (x:Wk) (a:Int):Int:=match evC x a with | 1=>19 | 3=>19 | 6=>3 | _=>0
def evA (x:Wk) (a:Int):Int:=match evC x a with | 0=>a | 2=>tgtV (evWd x a).toNat | 4=>a | 5=>a | 7=>plA x (evN x a) | _=>0
def evW (x:Wk) (a:Int):Wk:=match evC x a with | 0=>x | 2=>x | 4=>zq2 x a | 5=>zq2 (zm5 x (evI x a).toNat) a | 7=>zh5 x a | _=>Wk.zero
def RetF (S:Nat->Prop) (x:Wk) (a er:Int) (e:Ending) (w':World):Prop:=∃ v,e = .returned (.tuple #[v,.int .u64 a,.int .i64 er])/\WV w' S v x
theorem zf1 {p:Option Addr} {n cap:Nat} {xs:List Int} {v:Int} {b:Bool} (hb:decide (v∈xs)=b) (w:World) (hr:SRow w .u64 p n cap xs) :
 Calls Tryz.prog 137 #[.slice p n cap,.int .u64 v] w fun e w'=>e = .returned (.bool b)/\Below w.heap.size w w':=by
 subst hb;exact ya3 p n cap xs v w hr
theorem fwd_zero (S:Nat->Prop) (x:Wk) (p q po pt pq:Option Addr) (n c m d no co nt ct nq cq:Nat) (a:Int) (w:World) (hr:WR w S x p q po pt pq n c m d no co nt ct nq cq) (hS:∀ b,S b->b < w.heap.size) (ha:a=0) :
 Calls Tryz.prog 138 #[(.agg #[.int .i64 x.h.pw,.int .i64 x.h.np,.slice p n c,.slice q m d,.int .i64 x.h.space,.int .i64 x.h.bump,.slice po no co,.slice pt nt ct,.slice pq nq cq,.int .i64 x.sc,.int .i64 x.r0,.int .i64 x.r1,.int .i64 x.r2,.int .i64 x.r3,.int .i64 x.r4,.int .i64 x.r5]),.int .u64 a] w fun e w'=>RetF S x a 0 e w'/\Below w.heap.size w w':=by
 have Hr:=qq (fun w' (hb:Below w.heap.size w w')=>hr.keep hb)
 obtain ⟨S2,hs2,hsa,hsb,hsl,hr2⟩:=hr.box hS
 obtain ⟨w1,hw1,hbx⟩:=boxes2x w 146 [.int .i64 x.h.pw,.int .i64 x.h.np,.slice p n c,.slice q m d,.int .i64 x.h.space,.int .i64 x.h.bump,.slice po no co,.slice pt nt ct,.slice pq nq cq,.int .i64 x.sc,.int .i64 x.r0,.int .i64 x.r1,.int .i64 x.r2,.int .i64 x.r3,.int .i64 x.r4,.int .i64 x.r5] [.int .i64 0,.int .i64 0,.slice none 0 0,.slice none 0 0,.int .i64 0,.int .i64 0,.slice none 0 0,.slice none 0 0,.slice none 0 0,.int .i64 0,.int .i64 0,.int .i64 0,.int .i64 0,.int .i64 0,.int .i64 0,.int .i64 0]
 have Ha:=qq hbx.1
 have Hb:=qq hbx.2.1
 have HB:=qq hbx.2.2
 have HR:=qq (hr2.keep hbx.2.2)
 clear hbx hr2
 have hwa:w.heap.size < w1.heap.size:=Ha.out.lt rfl
 have hwb:w.heap.size+1 < w1.heap.size:=Hb.out.lt rfl
 subst ha
 clear hr
 have c8:=Ha.out.cell 8 _ rfl
 go_enter Tryz.func138,Tryz.ntmps138
 go_upto_region 1 with fail
 rw [hw1.out]
 clear hw1
 go_wp2_with (first | ((with_reducible show wpList _ _ _ _ _ _);refine za7 (op:=⟨some 31,.load 146 _,_,_,_,_⟩) rfl _ _ rfl _ rfl _ Ha.out za8 ?_) | ((with_reducible show wpList _ _ _ _ _ _);refine za6 (op:=⟨none,.store 146 _ _,_,_,_,_⟩) rfl _ _ _ rfl _ ?hx [.int .i64 x.h.pw,.int .i64 x.h.np,.slice p n c,.slice q m d,.int .i64 x.h.space,.int .i64 x.h.bump,.slice po no co,.slice pt nt ct,.slice pq nq cq,.int .i64 x.sc,.int .i64 x.r0,.int .i64 x.r1,.int .i64 x.r2,.int .i64 x.r3,.int .i64 x.r4,.int .i64 x.r5] _ ?hy Hb.out rfl rfl za8 ?_))
 case hx=>rfl
 case hy=>rfl
 intro w9 ho hbt hst
 have HZ:=qq ho
 have HXB:=qq (HB.out.trans (hbt.low (by omega) (by omega)))
 clear ho hbt
 go_wp2
 refine bodyPost_ret (ze5 rfl rfl HZ.out za8) rfl ?_
 exact ⟨⟨_,rfl,p,q,po,pt,pq,n,c,m,d,no,co,nt,ct,nq,cq,rfl,Hr.out _ HXB.out⟩,HXB.out⟩
theorem fwd_in (S:Nat->Prop) (x:Wk) (p q po pt pq:Option Addr) (n c m d no co nt ct nq cq:Nat) (a:Int) (w:World) (hr:WR w S x p q po pt pq n c m d no co nt ct nq cq) (hS:∀ b,S b->b < w.heap.size) (ha:a≠0) (hq:a∈x.queue) :
 Calls Tryz.prog 138 #[(.agg #[.int .i64 x.h.pw,.int .i64 x.h.np,.slice p n c,.slice q m d,.int .i64 x.h.space,.int .i64 x.h.bump,.slice po no co,.slice pt nt ct,.slice pq nq cq,.int .i64 x.sc,.int .i64 x.r0,.int .i64 x.r1,.int .i64 x.r2,.int .i64 x.r3,.int .i64 x.r4,.int .i64 x.r5]),.int .u64 a] w fun e w'=>RetF S x a 0 e w'/\Below w.heap.size w w':=by
 have Hr:=qq (fun w' (hb:Below w.heap.size w w')=>hr.keep hb)
 obtain ⟨S2,hs2,hsa,hsb,hsl,hr2⟩:=hr.box hS
 obtain ⟨w1,hw1,hbx⟩:=boxes2x w 146 [.int .i64 x.h.pw,.int .i64 x.h.np,.slice p n c,.slice q m d,.int .i64 x.h.space,.int .i64 x.h.bump,.slice po no co,.slice pt nt ct,.slice pq nq cq,.int .i64 x.sc,.int .i64 x.r0,.int .i64 x.r1,.int .i64 x.r2,.int .i64 x.r3,.int .i64 x.r4,.int .i64 x.r5] [.int .i64 0,.int .i64 0,.slice none 0 0,.slice none 0 0,.int .i64 0,.int .i64 0,.slice none 0 0,.slice none 0 0,.slice none 0 0,.int .i64 0,.int .i64 0,.int .i64 0,.int .i64 0,.int .i64 0,.int .i64 0,.int .i64 0]
 have Ha:=qq hbx.1
 have Hb:=qq hbx.2.1
 have HB:=qq hbx.2.2
 have HR:=qq (hr2.keep hbx.2.2)
 clear hbx hr2
 have hwa:w.heap.size < w1.heap.size:=Ha.out.lt rfl
 have hwb:w.heap.size+1 < w1.heap.size:=Hb.out.lt rfl
 have hH:=qq (fun w' (hb:Below w1.heap.size w1 w')=>zf1 (b:=true) (decide_eq_true hq) w' (HR.out.keep hb).queue)
 have ha0:(a == 0)=false:=beq_eq_false_iff_ne.2 ha
 clear ha
 clear hr
 have c8:=Ha.out.cell 8 _ rfl
 go_enter Tryz.func138,Tryz.ntmps138
 go_upto_region 1 with fail
 rw [hw1.out]
 clear hw1
 go_wp2_with fail
 refine (hH.out _ (Below.refl _ _)).mono ?_
 rintro e w2 ⟨rfl,hb2⟩
 replace Ha:=qq (Ha.out.keep hb2 hwa)
 replace Hb:=qq (Hb.out.keep hb2 hwb)
 replace HB:=qq (za3 HB.out hb2)
 replace HR:=qq (HR.out.keep hb2)
 replace hwa:w.heap.size < w2.heap.size:=Ha.out.lt rfl
 replace hwb:w.heap.size+1 < w2.heap.size:=Hb.out.lt rfl
 clear hb2
 clear c8
 go_wp2_with (first | ((with_reducible show wpList _ _ _ _ _ _);refine za7 (op:=⟨some 31,.load 146 _,_,_,_,_⟩) rfl _ _ rfl _ rfl _ Ha.out za8 ?_) | ((with_reducible show wpList _ _ _ _ _ _);refine za6 (op:=⟨none,.store 146 _ _,_,_,_,_⟩) rfl _ _ _ rfl _ ?hx [.int .i64 x.h.pw,.int .i64 x.h.np,.slice p n c,.slice q m d,.int .i64 x.h.space,.int .i64 x.h.bump,.slice po no co,.slice pt nt ct,.slice pq nq cq,.int .i64 x.sc,.int .i64 x.r0,.int .i64 x.r1,.int .i64 x.r2,.int .i64 x.r3,.int .i64 x.r4,.int .i64 x.r5] _ ?hy Hb.out rfl rfl za8 ?_))
 case hx=>rfl
 case hy=>rfl
 intro w9 ho hbt hst
 have HZ:=qq ho
 have HXB:=qq (HB.out.trans (hbt.low (by omega) (by omega)))
 clear ho hbt
 go_wp2
 refine bodyPost_ret (ze5 rfl rfl HZ.out za8) rfl ?_
 exact ⟨⟨_,rfl,p,q,po,pt,pq,n,c,m,d,no,co,nt,ct,nq,cq,rfl,Hr.out _ HXB.out⟩,HXB.out⟩
end Go.Proofs.YtipjdbhocjpmdaaGreat
