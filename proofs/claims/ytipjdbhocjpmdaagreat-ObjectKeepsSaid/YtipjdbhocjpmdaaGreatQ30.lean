import Derived.Test.YtipjdbhocjpmdaaGreatQ01
import Derived.Test.YtipjdbhocjpmdaaGreatQ08
import Derived.Test.YtipjdbhocjpmdaaGreatQ13
import Derived.Deep.DeepCutAuto
import Derived.Maps.RangeWalk
set_option linter.unusedSimpArgs false
set_option linter.unusedVariables false
set_option maxRecDepth 100000
set_option maxHeartbeats 12800000
namespace Go.Proofs.YtipjdbhocjpmdaaGreat
open Go.RowKit
section
variable {P:Program} {md:Region.Mode} {ops:Array Oper} {Q:Exit->Act->World->Prop} {S S':World->Prop}
theorem zd5 (hS:∀ w,S' w->S w):∀ {fuel:Nat} {listed:Array Bool} {a:Act} {w:World},wpAnyH P md ops Q S' fuel listed a w->wpAnyH P md ops Q S fuel listed a w
 | 0,_,_,_,h=>h
 | _+1,_,_,_,h=>⟨h.1,fun i hi=>wpOp_mono (fun _ _ h'=>⟨hS _ h'.1,zd5 hS h'.2⟩) (h.2 i hi)⟩
end
theorem Tp.other {w:World} {tb:Nat} {lp:Option Addr} {ln lc:Nat} {xs:List Int} {j b:Nat} (h:Tp w tb lp ln lc xs j) (hlt:tb < b) (i:Nat) (u:Value):Tp (w.setCell ⟨b,i,none⟩ u) tb lp ln lc xs j:=by
 obtain ⟨T,f,e⟩:=h.blk
 refine ⟨h.own.other _ _ (Nat.ne_of_gt hlt),⟨T,f,?_⟩,⟨h.row.len,h.row.le,h.row.max,fun k x hx=>?_⟩,h.ap⟩
 · rw [Below.heap_setCell _ _ _ _ (by simp only;omega)];exact e
 · obtain ⟨b',off,hp,hc⟩:=h.row.row k x hx
   exact ⟨b',off,hp,by rw [World.cell?_setCell_other _ _ _ _ (fun e=>by have:=h.ap (fun e=>by rw [e] at hx;simp at hx) _ hp;simp only [Addr.mk.injEq] at e;simp only at this;omega)];exact hc⟩
theorem But.setNew {tb:Nat} {a w:World} (h:But tb a w) {b:Nat} (hb:a.heap.size<=b) (i:Nat) (u:Value):But tb a (w.setCell ⟨b,i,none⟩ u) :=
 ⟨h.os,h.tape,h.output,by have:=h.size;simpa [World.setCell] using this,fun k hk hn=>by rw [Below.heap_setCell _ _ _ _ (by simp only;omega)];exact h.block k hk hn⟩
theorem held_add {P:Program} {md:Region.Mode} {ops:Array Oper} {Q:Exit->Act->World->Prop} {S:World->Prop} {fuel:Nat} {listed:Array Bool} {a:Act} {w:World} (c:Addr) (v:Value) (hS:S w) (hc:w.cell? c=some v) (h:(S w/\w.cell? c=some v)->wpAnyH P md ops Q (fun W=>S W/\W.cell? c=some v) fuel listed a w):wpAnyH P md ops Q S fuel listed a w:=zd5 (fun _ h=>h.1) (h ⟨hS,hc⟩)
theorem ze7 {w:World} {B a k:Nat} {v x y:Value} (h:w.cell? ⟨a,k,none⟩=some v) (hB:B < a):((w.setCell ⟨B,0,none⟩ x).setCell ⟨B,1,none⟩ y).cell? ⟨a,k,none⟩=some v:=by
 rw [World.cell?_setCell_other _ _ _ _ (fun e=>by simp only [Addr.mk.injEq] at e;omega),World.cell?_setCell_other _ _ _ _ (fun e=>by simp only [Addr.mk.injEq] at e;omega)];exact h
theorem new_ex {K:Act->World->Prop} {a:Act} {W:World} {T:TypeId} {vs:List Value} (h:∀ w',Below W.heap.size W w'->OwnL w' W.heap.size vs->K a w'):K a (World.alloc W (.cells vs.toArray T)):=h _ za1 (OwnL.new _ _ _)
theorem two_ex {K:Act->World->Prop} {a:Act} {w W:World} {tb:Nat} {lp:Option Addr} {ln lc j b1 k1 b2 k2:Nat} {xs:List Int} {x y u v r s:Value} (hT:Tp W tb lp ln lc xs j) (hB:But tb w W) (hR:OwnL W w.heap.size [u,v]) (h1:W.cell? ⟨b1,k1,none⟩=some r) (h2:W.cell? ⟨b2,k2,none⟩=some s) (hb1:w.heap.size < b1) (hb2:w.heap.size < b2) (hl:tb < w.heap.size)
 (h:∀ w',Tp w' tb lp ln lc xs j->But tb w w'->OwnL w' w.heap.size [x,y]->w'.cell? ⟨b1,k1,none⟩=some r->w'.cell? ⟨b2,k2,none⟩=some s->K a w'):K a ((W.setCell ⟨w.heap.size,0,none⟩ x).setCell ⟨w.heap.size,1,none⟩ y) :=
 h _ ((hT.other hl 0 _).other hl 1 _) ((hB.setNew (Nat.le_refl _) 0 _).setNew (Nat.le_refl _) 1 _) ((hR.set 0 _ (by simp)).set 1 _ (by simp)) (ze7 h1 hb1) (ze7 h2 hb2)
theorem pickA {k:Nat} (h:(k:Int) < 4):∃ X,([.int .i64 16,.int .i64 16,.int .i64 20,.int .i64 32]:List Value)[k]?=some (.int .i64 X)/\(X=16\/X=20\/X=32):=by
 rcases k with _ | _ | _ | _ | k
 · exact ⟨16,rfl,by simp⟩
 · exact ⟨16,rfl,by simp⟩
 · exact ⟨20,rfl,by simp⟩
 · exact ⟨32,rfl,by simp⟩
 · omega
theorem pickB {k:Nat} (h:(k:Int) < 5):∃ X,([.int .i64 8,.int .i64 12,.int .i64 16,.int .i64 20,.int .i64 24]:List Value)[k]?=some (.int .i64 X)/\(X=8\/X=12\/X=16\/X=20\/X=24):=by
 rcases k with _ | _ | _ | _ | _ | k
 · exact ⟨8,rfl,by simp⟩
 · exact ⟨12,rfl,by simp⟩
 · exact ⟨16,rfl,by simp⟩
 · exact ⟨20,rfl,by simp⟩
 · exact ⟨24,rfl,by simp⟩
 · omega
theorem conf_any (tb:Nat) (lp:Option Addr) (ln lc:Nat) (xs:List Int) (j:Nat) (w:World) (h:Tp w tb lp ln lc xs j) (hj:j<=90000) :
 Calls Tryz.prog 82 #[.pointer (some ⟨tb,0,none⟩)] w fun e w'=>∃ pw np,e = .returned (.agg #[.int .i64 pw,.int .i64 np])/\(pw=16\/pw=20\/pw=32)/\(np=8\/np=12\/np=16\/np=20\/np=24)/\Tp w' tb lp ln lc xs (j+2)/\But tb w w':=by
 have hRb:=h.lt
 have HRn:w.heap.size≠tb:=Nat.ne_of_gt hRb
 have hb0:Below w.heap.size w (w.alloc (.cells #[.int .i64 0,.int .i64 0] 23)):=za1
 have HRw:=qq (show OwnL (w.alloc (.cells #[.int .i64 0,.int .i64 0] 23)) w.heap.size [.int .i64 0,.int .i64 0] from OwnL.new _ _ _)
 have HT:=qq (h.keep hb0)
 have HBw:=qq (But.of tb hb0)
 clear h hb0
 go_enter Tryz.func82,Tryz.ntmps82
 go_upto_region 1 with fail
 generalize (w.alloc (.cells #[.int .i64 0,.int .i64 0] 23))=w1 at *
 refine wp_region_held_drew (S:=fun W=>But tb w W) (by kernel_rfl) (HBw.out.then ((Below.refl _ _).drew)) (fun hHeld=>?_)
 have HT1:=qq (HT.out.keep ((Below.refl _ _).drew))
 have HB:=qq hHeld
 have HR:=qq (HRw.out.keep ((Below.refl _ _).drew) (HRw.out.lt rfl))
 clear HBw HRw
 replace HT:=qq HT1.out
 clear HT1
 generalize w1.drew=wA at *
 repeat' (first
 | (refine draw_t 1 4 hHeld ?_ (hr:=by decide +kernel))
 | (refine draw_t 6 9 hHeld ?_ (hr:=by decide +kernel))
 | (refine draw_t 3 6 hHeld ?_ (hr:=by decide +kernel))
 | (refine draw_t 8 11 hHeld ?_ (hr:=by decide +kernel))
 | (
  obtain ⟨X4,hX4,hP4⟩:=pickA hk2.2
  have HC4:=qq (HO0.out.cell k2 _ hX4)
  have HC4n:=HO0n
  have HC4b:=HO0b
  refine held_add _ _ hHeld HC4.out (fun hHeld=>?_)
  refine draw_t 4 7 hHeld ?_ (hr:=by decide +kernel))
 | (
  obtain ⟨X9,hX9,hP9⟩:=pickB hk7.2
  have HC9:=qq (HO5.out.cell k7 _ hX9)
  have HC9n:=HO5n
  have HC9b:=HO5b
  refine held_add _ _ hHeld HC9.out (fun hHeld=>?_)
  refine draw_t 9 12 hHeld ?_ (hr:=by decide +kernel))
 | (refine draw_t 10 13 hHeld ?_ (hr:=by decide +kernel))
 | (refine rdy3 0 2 5 (fun K hK=>?_) (fun K hK=>?_) (fun K hK=>?_) (hr:=by decide +kernel) <;> (clear hHeld;go_simp))
 | (refine rdy3 0 5 7 (fun K hK=>?_) (fun K hK=>?_) (fun K hK=>?_) (hr:=by decide +kernel) <;> (clear hHeld;go_simp))
 | (refine rdy2 2 5 (fun K hK=>?_) (fun K hK=>?_) (hr:=by decide +kernel) <;> (clear hHeld;go_simp))
 | (refine rdy2 0 5 (fun K hK=>?_) (fun K hK=>?_) (hr:=by decide +kernel) <;> (clear hHeld;go_simp))
 | (refine rdy2 0 2 (fun K hK=>?_) (fun K hK=>?_) (hr:=by decide +kernel) <;> (clear hHeld;go_simp))
 | (refine rdy2 5 7 (fun K hK=>?_) (fun K hK=>?_) (hr:=by decide +kernel) <;> (clear hHeld;go_simp))
 | (refine rdy2 0 7 (fun K hK=>?_) (fun K hK=>?_) (hr:=by decide +kernel) <;> (clear hHeld;go_simp))
 | (refine rdy1 7 (fun K hK=>?_) (hr:=by decide +kernel) <;> (clear hHeld;go_simp))
 | (refine rdy1 5 (fun K hK=>?_) (hr:=by decide +kernel) <;> (clear hHeld;go_simp))
 | (refine rdy1 0 (fun K hK=>?_) (hr:=by decide +kernel) <;> (clear hHeld;go_simp))
 | (refine rdy1 2 (fun K hK=>?_) (hr:=by decide +kernel) <;> (clear hHeld;go_simp))
 | (refine rdy1 11 (fun K hK=>?_) (hr:=by decide +kernel) <;> (clear hHeld;go_simp))
 | (
  refine new_ex (fun w' hb ho=>?_) (vs:=[.int .i64 16,.int .i64 16,.int .i64 20,.int .i64 32])
  have HO0n:=Nat.ne_of_gt HT.out.lt
  have HO0b:=HR.out.lt rfl
  replace HT:=qq (HT.out.keep hb)
  replace HB:=qq (HB.out.then hb)
  replace HR:=qq (HR.out.keep hb (HR.out.lt rfl))
  try replace HO0:=qq (HO0.out.keep hb (HO0.out.lt rfl))
  try replace HO5:=qq (HO5.out.keep hb (HO5.out.lt rfl))
  try replace HC4:=qq (za0 hb HC4.out)
  try replace HC9:=qq (za0 hb HC9.out)
  have HO0:=qq ho
  clear hb ho
  refine hK.out _ _ ?_ (fun hHeld=>?_)
  · repeat' (first | exact HB.out | exact HC4.out | exact HC9.out | apply And.intro)
  clear hK K
  try go_frame)
 | (
  refine new_ex (fun w' hb ho=>?_) (vs:=[.int .i64 8,.int .i64 12,.int .i64 16,.int .i64 20,.int .i64 24])
  have HO5n:=Nat.ne_of_gt HT.out.lt
  have HO5b:=HR.out.lt rfl
  replace HT:=qq (HT.out.keep hb)
  replace HB:=qq (HB.out.then hb)
  replace HR:=qq (HR.out.keep hb (HR.out.lt rfl))
  try replace HO0:=qq (HO0.out.keep hb (HO0.out.lt rfl))
  try replace HO5:=qq (HO5.out.keep hb (HO5.out.lt rfl))
  try replace HC4:=qq (za0 hb HC4.out)
  try replace HC9:=qq (za0 hb HC9.out)
  have HO5:=qq ho
  clear hb ho
  refine hK.out _ _ ?_ (fun hHeld=>?_)
  · repeat' (first | exact HB.out | exact HC4.out | exact HC9.out | apply And.intro)
  clear hK K
  try go_frame)
 | (
  go_at_call 45
  refine (ze2 tb lp ln lc xs _ _ _ HT.out (by omega) (by omega)).mono ?_
  rintro e w' ⟨v,rfl,g0,-,g1,⟨jn,-,-,g2,hT⟩,hbt⟩
  go_wp2_with fail
  obtain ⟨k2,rfl⟩:∃ k:Nat,v=k:=⟨v.toNat,by omega⟩
  have hk2:(0:Int)<=(k2:Int)/\(k2:Int) < 4:=⟨g0,g1 (by omega)⟩
  obtain ⟨b0,b1⟩:=hk2
  have hk2:(0:Int)<=(k2:Int)/\(k2:Int) < 4:=⟨b0,b1⟩
  obtain rfl:=g2 (by omega)
  replace HT:=qq hT
  replace HB:=qq (HB.out.trans hbt)
  replace HR:=qq (HR.out.but hbt (HR.out.lt rfl) HRn)
  try replace HO0:=qq (HO0.out.but hbt (HO0.out.lt rfl) HO0n)
  try replace HO5:=qq (HO5.out.but hbt (HO5.out.lt rfl) HO5n)
  try replace HC4:=qq (hbt.cell HC4.out HC4n)
  try replace HC9:=qq (hbt.cell HC9.out HC9n)
  clear hT hbt g0 g1 g2
  refine hK.out _ _ ?_ (fun hHeld=>?_)
  · repeat' (first | exact HB.out | exact HC4.out | exact HC9.out | apply And.intro)
  clear hK K
  try go_frame)
 | (
  go_at_call 45
  refine (ze2 tb lp ln lc xs _ _ _ HT.out (by omega) (by omega)).mono ?_
  rintro e w' ⟨v,rfl,g0,-,g1,⟨jn,-,-,g2,hT⟩,hbt⟩
  go_wp2_with fail
  obtain ⟨k7,rfl⟩:∃ k:Nat,v=k:=⟨v.toNat,by omega⟩
  have hk7:(0:Int)<=(k7:Int)/\(k7:Int) < 5:=⟨g0,g1 (by omega)⟩
  obtain ⟨b0,b1⟩:=hk7
  have hk7:(0:Int)<=(k7:Int)/\(k7:Int) < 5:=⟨b0,b1⟩
  obtain rfl:=g2 (by omega)
  replace HT:=qq hT
  replace HB:=qq (HB.out.trans hbt)
  replace HR:=qq (HR.out.but hbt (HR.out.lt rfl) HRn)
  try replace HO0:=qq (HO0.out.but hbt (HO0.out.lt rfl) HO0n)
  try replace HO5:=qq (HO5.out.but hbt (HO5.out.lt rfl) HO5n)
  try replace HC4:=qq (hbt.cell HC4.out HC4n)
  try replace HC9:=qq (hbt.cell HC9.out HC9n)
  clear hT hbt g0 g1 g2
  refine hK.out _ _ ?_ (fun hHeld=>?_)
  · repeat' (first | exact HB.out | exact HC4.out | exact HC9.out | apply And.intro)
  clear hK K
  try go_frame)
 | (
  have z0:=HR.out.cell 0 _ rfl
  have z1:=HR.out.cell 1 _ rfl
  have y0:=HR.out.free 0
  have y1:=HR.out.free 1
  go_simp
  refine two_ex (x:=.int .i64 X4) (y:=.int .i64 X9) HT.out HB.out HR.out HC4.out HC9.out HC4b HC9b hRb (fun w' h1 h2 h3 h4 h5=>?_)
  clear z0 z1 y0 y1
  replace HT:=qq h1
  replace HB:=qq h2
  replace HR:=qq h3
  replace HC4:=qq h4
  replace HC9:=qq h5
  clear h1 h2 h3 h4 h5
  refine hK.out _ _ ?_ (fun hHeld=>?_)
  · repeat' (first | exact HB.out | exact HC4.out | exact HC9.out | apply And.intro)
  clear hK K
  try go_frame)
 | (
  refine wpAnyH_done (by decide +kernel) ?_ _
  have z0:=HR.out.cell 0 _ rfl
  have z1:=HR.out.cell 1 _ rfl
  go_wp2
  refine bodyPost_ret (v:=.agg #[.int .i64 X4,.int .i64 X9]) (by simp [results,Tryz.results82,go_sem,z0,z1]) rfl ?_
  exact ⟨_,_,rfl,hP4,hP9,HT.out,HB.out⟩)
 | fail)
end Go.Proofs.YtipjdbhocjpmdaaGreat
