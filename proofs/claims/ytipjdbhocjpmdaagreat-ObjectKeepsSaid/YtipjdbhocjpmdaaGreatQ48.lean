import Derived.Test.YtipjdbhocjpmdaaGreatQ01
import Derived.Test.YtipjdbhocjpmdaaGreatQ47
import Derived.Deep.DeepCutAuto
import Derived.Maps.RangeWalk
set_option linter.unusedSimpArgs false
set_option linter.unusedVariables false
set_option maxRecDepth 100000
set_option maxHeartbeats 12800000
namespace Go.Proofs.YtipjdbhocjpmdaaGreat
open Go.RowKit
theorem zv5 (w:World) (a b:Obj):((w.alloc a).alloc b).heap[w.heap.size]?=some a:=by
 show ((w.heap.push a).push b)[w.heap.size]?=some a
 rw [Array.getElem?_push,if_neg (by simp),Array.getElem?_push,if_pos rfl]
theorem zt9 (w:World) (a b:Obj):((w.alloc a).alloc b).heap[w.heap.size+1]?=some b:=by
 show ((w.heap.push a).push b)[w.heap.size+1]?=some b
 rw [Array.getElem?_push,if_pos (by simp)]
theorem But.store {tb b:Nat} {w u v:World} (h:But tb w u) (k:But b u v) (hb:w.heap.size<=b):But tb w v :=
 ⟨k.os.trans h.os,k.tape.trans h.tape,k.output.trans h.output,Nat.le_trans h.size k.size,fun i hi hn=>(k.block i (Nat.lt_of_lt_of_le hi h.size) (by omega)).trans (h.block i hi hn)⟩
theorem Tp.oth {u v:World} {tb b:Nat} {lp:Option Addr} {ln lc:Nat} {xs:List Int} {j:Nat} (h:Tp u tb lp ln lc xs j) (k:But b u v) (hb:tb < b):Tp v tb lp ln lc xs j:=by
 refine ⟨h.own.but k h.lt (by omega),?_,⟨h.row.len,h.row.le,h.row.max,fun i x hx=>?_⟩,h.ap⟩
 · obtain ⟨T,f,e⟩:=h.blk
   exact ⟨T,f,by rw [k.block tb h.lt (by omega)];exact e⟩
 · obtain ⟨b',off,hp,hc⟩:=h.row.row i x hx
   refine ⟨b',off,hp,k.cell hc ?_⟩
   have h1:=h.ap (fun e=>by rw [e] at hx;cases hx) _ hp
   simp only at h1 ⊢
   omega
theorem WW.tape {w w':World} {tb:Nat} {lp:Option Addr} {ln lc:Nat} {xs:List Int} {j:Nat} {x:Wd} {p q ps pk:Option Addr} {n c m d ns cs nk ck:Nat} (h:WW w x p q ps pk n c m d ns cs nk ck) (ht:Tp w tb lp ln lc xs j) (hb:But tb w w'):WW w' x p q ps pk n c m d ns cs nk ck :=
 ⟨h.words.but ht hb,h.pages.but ht hb,h.wb,h.st.but ht hb,h.wk.but ht hb⟩
def wkIf (b:Bool) (l:List Int) (a:Int):List Int:=if b then l ++ [a] else l
theorem run_cutTo {P:Program} {w:World} {a:Operand->Value} {o:Oper} (x h:Operand) (t:TypeId) (ho:o.op = .slice t x none (some h) none) (e:TypeId) (ht:P.underlying t=some (.slice e)) (hsz:(P.info? e).map (·.size)=some 1)
 (p:Option Addr) (n cap:Nat) (hx:a x = .slice p n cap) (kh:IntKind) (H:Int) (hh:a h = .int kh H) (m:Nat) (hH:H=m) (hfit:m<=cap):(execOp a o).run P w = .ok (.value (.slice (cutP p cap 0) m (cap - 0))) w:=by
 have hte:P.underlying t=some (.slice (P.elem t)):=by simp [Program.elem,ht]
 have he:P.elem t=e:=by have:=hte.symm.trans ht;injection this with h1;injection h1
 obtain ⟨ii,hi,hs⟩:=Option.map_eq_some_iff.1 hsz
 subst hH
 have hrun:(Instr.sliceAt t (.slice p n cap) none (some (.int kh (m:Int))) none).run P w = .ok (.slice (cutP p cap 0) m (cap - 0)) w:=by
  rw [run_sliceAt_slice w t _ _ _ _ hte,run_slice_h w t p n cap hte kh _ (by omega) (by omega)]
  simp [sizeOf,typeInfo,he,hi,hs,Result.andThen,sliced,cutP]
 simp [execOp,ho,hx,hh,hrun,Result.andThen]
theorem run_cutFrom {P:Program} {w:World} {a:Operand->Value} {o:Oper} (x l:Operand) (t:TypeId) (ho:o.op = .slice t x (some l) none none) (e:TypeId) (ht:P.underlying t=some (.slice e)) (hsz:(P.info? e).map (·.size)=some 1)
 (p:Option Addr) (n cap:Nat) (hx:a x = .slice p n cap) (kl:IntKind) (G:Int) (hl:a l = .int kl G) (i:Nat) (hL:G=i) (hfit:i<=n):(execOp a o).run P w = .ok (.value (.slice (cutP p cap i) (n - i) (cap - i))) w:=by
 have hte:P.underlying t=some (.slice (P.elem t)):=by simp [Program.elem,ht]
 have he:P.elem t=e:=by have:=hte.symm.trans ht;injection this with h1;injection h1
 obtain ⟨ii,hi,hs⟩:=Option.map_eq_some_iff.1 hsz
 subst hL
 have hrun:(Instr.sliceAt t (.slice p n cap) (some (.int kl (i:Int))) none none).run P w = .ok (.slice (cutP p cap i) (n - i) (cap - i)) w:=by
  rw [run_sliceAt_slice w t _ _ _ _ hte,run_slice_l w t p n cap hte kl _ (by omega) (by omega)]
  simp [sizeOf,typeInfo,he,hi,hs,Result.andThen,sliced,cutP]
 simp [execOp,ho,hx,hl,hrun,Result.andThen]
theorem drop_any0 (tb:Nat) (lp:Option Addr) (ln lc:Nat) (xs:List Int) (j:Nat) (x:Wd) (p q ps pk:Option Addr) (n c m d ns cs nk ck:Nat) (w:World) (ht:Tp w tb lp ln lc xs j) (hj:j<=90000) (hx:WW w x p q ps pk n c m d ns cs nk ck) (h0:ns=0) (hns:ns<=10000) (hnk:nk<=10000) :
 Calls Tryz.prog 87 #[(.agg #[.int .i64 x.h.pw,.int .i64 x.h.np,.slice p n c,.slice q m d,.int .i64 x.h.space,.int .i64 x.h.bump,.slice ps ns cs,.slice pk nk ck]),.pointer (some ⟨tb,0,none⟩)] w fun e w'=>(∃ v y,e = .returned v/\MStep x y/\WdV w' v y)/\(∃ j',j<=j'/\j'<=j+2/\Tp w' tb lp ln lc xs j')/\But tb w w':=by
 subst h0
 have htb:=ht.lt
 obtain ⟨w1,hw1,hbx⟩:=boxes2x w 31 [.int .i64 x.h.pw,.int .i64 x.h.np,.slice p n c,.slice q m d,.int .i64 x.h.space,.int .i64 x.h.bump,.slice ps 0 cs,.slice pk nk ck] [.int .i64 0,.int .i64 0,.slice none 0 0,.slice none 0 0,.int .i64 0,.int .i64 0,.slice none 0 0,.slice none 0 0]
 have hk0:w1.heap[w.heap.size]?=some (.cells ([.int .i64 x.h.pw,.int .i64 x.h.np,.slice p n c,.slice q m d,.int .i64 x.h.space,.int .i64 x.h.bump,.slice ps 0 cs,.slice pk nk ck]:List Value).toArray 31 (0,0)):=by rw [<-hw1.out];exact zv5 w _ _
 have hk1:w1.heap[w.heap.size+1]?=some (.cells ([.int .i64 0,.int .i64 0,.slice none 0 0,.slice none 0 0,.int .i64 0,.int .i64 0,.slice none 0 0,.slice none 0 0]:List Value).toArray 31 (0,0)):=by rw [<-hw1.out];exact zt9 w _ _
 have Ha:=qq hbx.1
 have Hb:=qq hbx.2.1
 have HX:=qq (hx.keep hbx.2.2)
 have HT:=qq (ht.keep hbx.2.2)
 have HB:=qq (But.of tb hbx.2.2)
 have HQ:=qq (show x.h.pages≠[]->∀ ad,q=some ad->ad.block≠w.heap.size/\ad.block≠w.heap.size+1 from fun hne ad e=>⟨zm6 hk0 HX.out.pages ad e hne,zm6 hk1 HX.out.pages ad e hne⟩)
 have h1a:w.heap.size+1 < w1.heap.size:=Hb.out.lt rfl
 clear hbx hx ht hk0 hk1
 go_enter Tryz.func87,Tryz.ntmps87
 go_upto_region 1 with fail
 rw [hw1.out]
 clear hw1
 have c6:=Ha.out.cell 6 _ rfl
 go_upto_region 7 with fail
 clear c6
 go_wp2_with (first | ((with_reducible show wpList _ _ _ _ _ _);refine za7 (op:=⟨some 43,.load 31 _,_,_,_,_⟩) rfl _ _ rfl _ rfl _ Ha.out zc1 ?_) | ((with_reducible show wpList _ _ _ _ _ _);refine za6 (op:=⟨none,.store 31 _ _,_,_,_,_⟩) rfl _ _ _ rfl _ ?hx801 [.int .i64 x.h.pw,.int .i64 x.h.np,.slice p n c,.slice q m d,.int .i64 x.h.space,.int .i64 x.h.bump,.slice ps 0 cs,.slice pk nk ck] _ ?hy801 Hb.out rfl rfl zc1 ?_))
 (try (case hx801=>rfl))
 (try (case hy801=>rfl))
 intro w9 ho hbt hst
 have HZ:=qq ho
 have HX9:=qq (HX.out.stored (i:=0) (vs:=[.int .i64 x.h.pw,.int .i64 x.h.np,.slice p n c,.slice q m d,.int .i64 x.h.space,.int .i64 x.h.bump,.slice ps 0 cs,.slice pk nk ck]) Hb.out (zf3 _ _ _ _ _ _ _ _ _ _ _ _ _ _ _ _) (by simp) (by rw [<-zb7];exact hst.out.symm) hbt (fun hne ad e=>(HQ.out hne ad e).2))
 have HT9:=qq (HT.out.oth hbt (by omega))
 have HB9:=qq (HB.out.store hbt (by omega))
 clear ho hbt hst
 go_wp2
 refine bodyPost_ret (zc9 rfl rfl HZ.out zc1) rfl ?_
 exact ⟨⟨_,_,rfl,MStep.none x,HX9.out.wd⟩,⟨j,by omega,by omega,HT9.out⟩,HB9.out⟩
theorem drop_any1 (tb:Nat) (lp:Option Addr) (ln lc:Nat) (xs:List Int) (j:Nat) (x:Wd) (p q pk:Option Addr) (b9 o9:Nat) (n c m d ns cs nk ck:Nat) (w:World) (ht:Tp w tb lp ln lc xs j) (hj:j<=90000) (hx:WW w x p q (some ⟨b9,o9,none⟩) pk n c m d ns cs nk ck) (h0:0 < ns) (hns:ns<=10000) (hnk:nk<=10000) :
 Calls Tryz.prog 87 #[(.agg #[.int .i64 x.h.pw,.int .i64 x.h.np,.slice p n c,.slice q m d,.int .i64 x.h.space,.int .i64 x.h.bump,.slice (some ⟨b9,o9,none⟩) ns cs,.slice pk nk ck]),.pointer (some ⟨tb,0,none⟩)] w fun e w'=>(∃ v y,e = .returned v/\MStep x y/\WdV w' v y)/\(∃ j',j<=j'/\j'<=j+2/\Tp w' tb lp ln lc xs j')/\But tb w w':=by
 have htb:=ht.lt
 obtain ⟨w1,hw1,hbx⟩:=boxes2x w 31 [.int .i64 x.h.pw,.int .i64 x.h.np,.slice p n c,.slice q m d,.int .i64 x.h.space,.int .i64 x.h.bump,.slice (some ⟨b9,o9,none⟩) ns cs,.slice pk nk ck] [.int .i64 0,.int .i64 0,.slice none 0 0,.slice none 0 0,.int .i64 0,.int .i64 0,.slice none 0 0,.slice none 0 0]
 have hk0:w1.heap[w.heap.size]?=some (.cells ([.int .i64 x.h.pw,.int .i64 x.h.np,.slice p n c,.slice q m d,.int .i64 x.h.space,.int .i64 x.h.bump,.slice (some ⟨b9,o9,none⟩) ns cs,.slice pk nk ck]:List Value).toArray 31 (0,0)):=by rw [<-hw1.out];exact zv5 w _ _
 have hk1:w1.heap[w.heap.size+1]?=some (.cells ([.int .i64 0,.int .i64 0,.slice none 0 0,.slice none 0 0,.int .i64 0,.int .i64 0,.slice none 0 0,.slice none 0 0]:List Value).toArray 31 (0,0)):=by rw [<-hw1.out];exact zt9 w _ _
 have Ha:=qq hbx.1
 have Hb:=qq hbx.2.1
 have HX:=qq (hx.keep hbx.2.2)
 have HT:=qq (ht.keep hbx.2.2)
 have HB:=qq (But.of tb hbx.2.2)
 have HQ:=qq (show x.h.pages≠[]->∀ ad,q=some ad->ad.block≠w.heap.size/\ad.block≠w.heap.size+1 from fun hne ad e=>⟨zm6 hk0 HX.out.pages ad e hne,zm6 hk1 HX.out.pages ad e hne⟩)
 have h1a:w.heap.size+1 < w1.heap.size:=Hb.out.lt rfl
 clear hbx hx ht hk0 hk1
 go_enter Tryz.func87,Tryz.ntmps87
 go_upto_region 1 with fail
 rw [hw1.out]
 clear hw1
 have c6:=Ha.out.cell 6 _ rfl
 go_wp2_with fail
 refine (ze2 tb lp ln lc xs j _ w1 HT.out (by omega) (by omega)).mono ?_
 rintro e w2 ⟨v,rfl,v0,-,v1,⟨jn,-,-,hjn,hT⟩,hbt⟩
 obtain rfl:=hjn (by omega)
 replace v1:=v1 (by omega)
 replace Ha:=qq (Ha.out.but hbt (by omega) (by omega))
 replace Hb:=qq (Hb.out.but hbt (by omega) (by omega))
 replace HX:=qq (HX.out.tape HT.out hbt)
 replace HB:=qq (HB.out.trans hbt)
 replace HT:=qq hT
 have hszw2:=hbt.size
 clear hT hbt hjn
 obtain ⟨kv,rfl⟩:∃ kv:Nat,v=kv:=⟨v.toNat,by omega⟩
 clear c6
 go_wp2_with fail
 refine (ze2 tb lp ln lc xs (j+1) _ w2 HT.out (by omega) (by omega)).mono ?_
 rintro e w3 ⟨z,rfl,z0,-,z1,⟨jn,-,-,hjn,hT⟩,hbt⟩
 obtain rfl:=hjn (by omega)
 replace z1:=z1 (by omega)
 replace Ha:=qq (Ha.out.but hbt (by omega) (by omega))
 replace Hb:=qq (Hb.out.but hbt (by omega) (by omega))
 replace HX:=qq (HX.out.tape HT.out hbt)
 replace HB:=qq (HB.out.trans hbt)
 replace HT:=qq hT
 have hszw3:=hbt.size
 clear hT hbt hjn
 obtain ⟨A9,b',o',hA,hp9,d0⟩:=HX.out.st.at_ (k:=kv) (by omega)
 injection hp9 with hp9
 injection hp9 with h1 h2
 subst h1 h2
 have HA:=qq hA
 have hlen:=qq HX.out.st.len
 have hcs:=HX.out.st.le
 have hkn:kv < ns:=by omega
 clear hA
 obtain ⟨i0,hin,hz0,hz1,hz2⟩:=info_parts zf2
 have h3a:w.heap.size < w3.heap.size:=by omega
 have h3b:w.heap.size+1 < w3.heap.size:=by omega
 go_upto_if 17 with fail
 go_cut [28] (fun t28 wx=>∃ bb sk sn sc,OwnL wx w.heap.size [.int .i64 x.h.pw,.int .i64 x.h.np,.slice p n c,.slice q m d,.int .i64 x.h.space,.int .i64 x.h.bump,.slice (some ⟨b9,o9,none⟩) ns cs,.slice sk sn sc]/\OwnL wx (w.heap.size+1) [.int .i64 0,.int .i64 0,.slice none 0 0,.slice none 0 0,.int .i64 0,.int .i64 0,.slice none 0 0,.slice none 0 0]/\But tb w wx/\Tp wx tb lp ln lc xs (j+1+1)/\w3.heap.size<=wx.heap.size/\WW wx ⟨x.h,x.st,wkIf bb x.wk A9⟩ p q (some ⟨b9,o9,none⟩) sk n c m d ns cs sn sc)
 case first =>
  by_cases hz:z=0
  rotate_left
  · have hzb:(z == 0)=false:=beq_eq_false_iff_ne.2 hz
    go_wp2_with fail
    go_meet
    exact ⟨false,_,_,_,Ha.out,Hb.out,HB.out,HT.out,Nat.le_refl _,HX.out⟩
  subst hz
  go_upto_region 5 with fail
  have HRK:=qq HX.out.wk
  have hSof:=qq (fun W (hB:Below w3.heap.size w3 W)=>(⟨za0 hB (Ha.out.cell 6 _ rfl),za0 hB (Ha.out.cell 7 _ rfl),za0 hB d0⟩:(fun W=>W.cell? ⟨w.heap.size,6,none⟩=some (.slice (some ⟨b9,o9,none⟩) ns cs)/\W.cell? ⟨w.heap.size,7,none⟩=some (.slice pk nk ck)/\W.cell? ⟨b9,o9+kv,none⟩=some (.int .u64 A9)) W))
  clear d0
  refine AnyB.begin_ (k:=12) (S:=fun W=>W.cell? ⟨w.heap.size,6,none⟩=some (.slice (some ⟨b9,o9,none⟩) ns cs)/\W.cell? ⟨w.heap.size,7,none⟩=some (.slice pk nk ck)/\W.cell? ⟨b9,o9+kv,none⟩=some (.int .u64 A9)) (by kernel_rfl) ?_
  refine AnyB.draw 1 19 (v:=?_) rfl rfl (by kernel_rfl) (by decide) (by kernel_rfl) (by kernel_rfl) (by kernel_rfl) (fun _ _ _ h=>h) (by kernel_rfl) ?hy (hSof.out _ (Below.drew (Below.refl _ _))) (by kernel_rfl) ?_
  case hy=>(intro w hSw;(try dsimp only at hSw);go_simp;(try with_reducible rfl))
  go_frame
  refine AnyB.draw 2 20 (v:=?_) rfl rfl (by kernel_rfl) (by decide) (by kernel_rfl) (by kernel_rfl) (by kernel_rfl) (fun _ _ _ h=>h) (by kernel_rfl) ?hy (hSof.out _ (Below.drew (Below.refl _ _))) (by kernel_rfl) ?_
  case hy=>(intro w hSw;(try dsimp only at hSw);go_simp;(try with_reducible rfl))
  go_frame
  refine AnyB.draw 4 22 (v:=?_) rfl rfl (by kernel_rfl) (by decide) (by kernel_rfl) (by kernel_rfl) (by kernel_rfl) (fun _ _ _ h=>h) (by kernel_rfl) ?hy (hSof.out _ (Below.drew (Below.refl _ _))) (by kernel_rfl) ?_
  case hy=>(intro w hSw;(try dsimp only at hSw);go_simp;(try with_reducible rfl))
  go_frame
  refine AnyB.draw 5 23 (v:=?_) rfl rfl (by kernel_rfl) (by decide) (by kernel_rfl) (by kernel_rfl) (by kernel_rfl) (fun _ _ _ h=>h) (by kernel_rfl) ?hy (hSof.out _ (Below.drew (Below.refl _ _))) (by kernel_rfl) ?_
  case hy=>(intro w hSw;(try dsimp only at hSw);go_simp;(try with_reducible rfl))
  go_frame
  refine AnyB.draw 6 24 (v:=?_) rfl rfl (by kernel_rfl) (by decide) (by kernel_rfl) (by kernel_rfl) (by kernel_rfl) (fun _ _ _ h=>h) (by kernel_rfl) ?hy (hSof.out _ (Below.drew (Below.refl _ _))) (by kernel_rfl) ?_
  case hy=>(intro w hSw;(try dsimp only at hSw);go_simp;(try with_reducible rfl))
  go_frame
  refine AnyB.draw 7 25 (v:=?_) rfl rfl (by kernel_rfl) (by decide) (by kernel_rfl) (by kernel_rfl) (by kernel_rfl) (fun _ _ _ h=>h) (by kernel_rfl) ?hy (hSof.out _ (Below.drew (Below.refl _ _))) (by kernel_rfl) ?_
  case hy=>(intro w hSw;(try dsimp only at hSw);go_simp;(try with_reducible rfl))
  go_frame
  refine AnyB.draw 8 26 (v:=?_) rfl rfl (by kernel_rfl) (by decide) (by kernel_rfl) (by kernel_rfl) (by kernel_rfl) (fun _ _ _ h=>h) (by kernel_rfl) ?hy (hSof.out _ (Below.drew (Below.refl _ _))) (by kernel_rfl) ?_
  case hy=>(intro w hSw;(try dsimp only at hSw);go_simp;(try with_reducible rfl))
  go_frame
  refine AnyB.ready (rs:=[0,9]) (by kernel_rfl) (by simp) ?_
  refine AllB.cons rfl (fun K hK=>?_) (AllB.cons rfl (fun K hK=>?_) AllB.nil)
  · go_simp
    obtain ⟨uA1,hW⟩:∃ W,Hid ((World.alloc w3 (.cells #[] 48)).drew=W):=⟨_,rfl⟩
    rw [hW.out]
    have hbuA1:Below w3.heap.size w3 uA1:=by rw [<-hW.out];exact ((Below.refl _ _).alloc (Nat.le_refl _) _).drew
    have hzuA1:w3.heap.size < uA1.heap.size:=by rw [<-hW.out];simp
    have HOuA1:=qq (show uA1.ownsRow w3.heap.size 48 1 (.slice (some ⟨w3.heap.size,0,none⟩) 0 0) 0 [] from by rw [<-hW.out];exact zg6 (zb5 (zf9 w3 48 1) (Below.drew (Below.refl _ _))) (by omega))
    clear hW
    refine hK.out _ _ (fun _=>hSof.out _ hbuA1) ?_
    clear hK K
    try go_frame
    refine AnyB.ready (rs:=[3,9]) (by kernel_rfl) (by simp) ?_
    refine AllB.cons rfl (fun K hK=>?_) (AllB.cons rfl (fun K hK=>?_) AllB.nil)
    · rw [if_pos (by rfl)]
      refine ze0 _ _ 24 rfl w3.heap.size 48 i0 (.int .u64 0) 8 Tryz.underlying24 hin hz0 hz1 hz2 rfl (.slice (some ⟨w3.heap.size,0,none⟩) 0 0) 0 [] rfl HOuA1.out pk nk ck .u64 _ rfl (HRK.out.keep hbuA1) (by unfold maxLen;omega) (by omega) (by have:=hbuA1.size;omega) ?_
      intro vuB2 uB2 houB2 hguB2
      have hbuB2:Below w3.heap.size w3 uB2:=hbuA1.grown hguB2 hbuA1.size (fun b hb=>(HOuA1.out.lt b hb).1)
      have hzuB2:=hguB2.size
      have HOuB2:=qq houB2
      clear houB2 hguB2
      refine hK.out _ _ (fun _=>hSof.out _ hbuB2) ?_
      clear hK K
      try go_frame
      refine AnyB.ready (rs:=[9]) (by kernel_rfl) (by simp) ?_
      refine AllB.cons rfl (fun K hK=>?_) AllB.nil
      go_simp
      obtain ⟨uC3,hW⟩:∃ W,Hid (World.alloc uB2 (.cells #[.int .u64 A9] 48)=W):=⟨_,rfl⟩
      rw [hW.out]
      have hsuC3:Below uB2.heap.size uB2 uC3:=by rw [<-hW.out];exact za1
      have hbuC3:Below w3.heap.size w3 uC3:=hbuB2.trans (hsuC3.mono hbuB2.size)
      have hzuC3:uB2.heap.size < uC3.heap.size:=by rw [<-hW.out];simp
      have HCuC3:=qq (show SRow uC3 .u64 (some ⟨uB2.heap.size,0,none⟩) 1 1 [A9] from by rw [<-hW.out];exact (zl7 uB2 48 A9))
      have HOuC3:=qq (zb5 HOuB2.out hsuC3)
      clear hW
      refine hK.out _ _ (fun _=>hSof.out _ hbuC3) ?_
      clear hK K
      try go_frame
      refine AnyB.ready (rs:=[10]) (by kernel_rfl) (by simp) ?_
      refine AllB.cons rfl (fun K hK=>?_) AllB.nil
      rw [if_pos (by rfl)]
      refine ze0 _ _ 24 rfl w3.heap.size 48 i0 (.int .u64 0) 8 Tryz.underlying24 hin hz0 hz1 hz2 rfl vuB2 (0+nk) ([] ++ zb2 .u64 x.wk) rfl HOuC3.out (some ⟨uB2.heap.size,0,none⟩) 1 1 .u64 [A9] rfl HCuC3.out (by unfold maxLen;omega) (by omega) (by have:=hbuC3.size;omega) ?_
      intro vuD4 uD4 houD4 hguD4
      have hbuD4:Below w3.heap.size w3 uD4:=hbuC3.grown hguD4 hbuC3.size (fun b hb=>(HOuC3.out.lt b hb).1)
      rw [List.nil_append,ze4] at houD4
      obtain ⟨gD,cD,rfl,-,-⟩:=World.ownsRow.form houD4 (by omega)
      obtain ⟨p9,c9,e9,hrow⟩:=SRow.of_own houD4
      injection e9 with e91 e92 e93
      subst e91 e93
      have HRW:=qq hrow
      clear hrow houD4 hguD4
      refine hK.out _ _ (fun _=>hSof.out _ hbuD4) ?_
      clear hK K
      try go_frame
      refine AnyB.draw 11 29 (v:=?_) rfl rfl (by kernel_rfl) (by decide) (by kernel_rfl) (by kernel_rfl) (by kernel_rfl) (fun _ _ _ h=>h) (by kernel_rfl) ?hy (hSof.out _ hbuD4) (by kernel_rfl) ?_
      case hy=>(intro w hSw;(try dsimp only at hSw);go_simp;(try with_reducible rfl))
      go_frame
      clear hSof
      replace Ha:=qq (Ha.out.keep hbuD4 h3a)
      replace Hb:=qq (Hb.out.keep hbuD4 h3b)
      replace HB:=qq (HB.out.then hbuD4)
      replace HT:=qq (HT.out.keep hbuD4)
      replace HX:=qq (HX.out.keep hbuD4)
      have hsD:=hbuD4.size
      obtain ⟨N9,hN9⟩:∃ N,Hid (0+nk+1=N):=⟨_,qq rfl⟩
      rw [hN9.out] at HRW ⊢
      have HWW:=qq (show WW uD4 ⟨x.h,x.st,wkIf true x.wk A9⟩ p q (some ⟨b9,o9,none⟩) (some ⟨gD,0,none⟩) n c m d ns cs N9 cD from ⟨HX.out.words,HX.out.pages,HX.out.wb,HX.out.st,HRW.out⟩)
      refine AnyB.ready (rs:=[12]) (by kernel_rfl) (by simp) ?_
      refine AllB.cons rfl (fun K hK=>?_) AllB.nil
      have c7:=Ha.out.cell 7 _ rfl
      have f7:=Ha.out.free 7
      go_simp
      clear c7 f7
      refine hK.out _ _ (fun h=>by cases (show true=false from h)) ?_
      clear hK K
      try go_frame
      refine AnyB.done (by kernel_rfl) ?_ _
      go_wp2_with fail
      go_meet
      have hbt:But w.heap.size uD4 (uD4.setCell ⟨w.heap.size,7,none⟩ (.slice (some ⟨gD,0,none⟩) N9 cD)):=(But.refl _ _).set 7 _
      exact ⟨true,some ⟨gD,0,none⟩,N9,cD,Ha.out.set 7 _ (by simp),Hb.out.but hbt (by omega) (by omega),HB.out.store hbt (Nat.le_refl _),HT.out.oth hbt (by omega),Nat.le_trans hsD hbt.size,HWW.out.stored (i:=7) (vs:=[.slice (some ⟨gD,0,none⟩) N9 cD]) Ha.out (zf3 _ _ _ _ _ _ _ _ _ _ _ _ _ _ _ _) (by simp) rfl hbt (fun hne ad e=>(HQ.out hne ad e).1)⟩
    · go_simp
      obtain ⟨uC5,hW⟩:∃ W,Hid (World.alloc uA1 (.cells #[.int .u64 A9] 48)=W):=⟨_,rfl⟩
      rw [hW.out]
      have hsuC5:Below uA1.heap.size uA1 uC5:=by rw [<-hW.out];exact za1
      have hbuC5:Below w3.heap.size w3 uC5:=hbuA1.trans (hsuC5.mono hbuA1.size)
      have hzuC5:uA1.heap.size < uC5.heap.size:=by rw [<-hW.out];simp
      have HCuC5:=qq (show SRow uC5 .u64 (some ⟨uA1.heap.size,0,none⟩) 1 1 [A9] from by rw [<-hW.out];exact (zl7 uA1 48 A9))
      have HOuC5:=qq (zb5 HOuA1.out hsuC5)
      clear hW
      refine hK.out _ _ (fun _=>hSof.out _ hbuC5) ?_
      clear hK K
      try go_frame
      refine AnyB.ready (rs:=[3]) (by kernel_rfl) (by simp) ?_
      refine AllB.cons rfl (fun K hK=>?_) AllB.nil
      rw [if_pos (by rfl)]
      refine ze0 _ _ 24 rfl w3.heap.size 48 i0 (.int .u64 0) 8 Tryz.underlying24 hin hz0 hz1 hz2 rfl (.slice (some ⟨w3.heap.size,0,none⟩) 0 0) 0 [] rfl HOuC5.out pk nk ck .u64 _ rfl (HRK.out.keep hbuC5) (by unfold maxLen;omega) (by omega) (by have:=hbuC5.size;omega) ?_
      intro vuB6 uB6 houB6 hguB6
      have hbuB6:Below w3.heap.size w3 uB6:=hbuC5.grown hguB6 hbuC5.size (fun b hb=>(HOuC5.out.lt b hb).1)
      have hzuB6:=hguB6.size
      have HOuB6:=qq houB6
      have HCuB6:=qq (HCuC5.out.grown hguB6 (fun _ ad e e2=>by cases e;simp [Value.ownBlock] at e2;omega))
      clear houB6 hguB6
      refine hK.out _ _ (fun _=>hSof.out _ hbuB6) ?_
      clear hK K
      try go_frame
      refine AnyB.ready (rs:=[10]) (by kernel_rfl) (by simp) ?_
      refine AllB.cons rfl (fun K hK=>?_) AllB.nil
      rw [if_pos (by rfl)]
      refine ze0 _ _ 24 rfl w3.heap.size 48 i0 (.int .u64 0) 8 Tryz.underlying24 hin hz0 hz1 hz2 rfl vuB6 (0+nk) ([] ++ zb2 .u64 x.wk) rfl HOuB6.out (some ⟨uA1.heap.size,0,none⟩) 1 1 .u64 [A9] rfl HCuB6.out (by unfold maxLen;omega) (by omega) (by have:=hbuB6.size;omega) ?_
      intro vuD7 uD7 houD7 hguD7
      have hbuD7:Below w3.heap.size w3 uD7:=hbuB6.grown hguD7 hbuB6.size (fun b hb=>(HOuB6.out.lt b hb).1)
      rw [List.nil_append,ze4] at houD7
      obtain ⟨gD,cD,rfl,-,-⟩:=World.ownsRow.form houD7 (by omega)
      obtain ⟨p9,c9,e9,hrow⟩:=SRow.of_own houD7
      injection e9 with e91 e92 e93
      subst e91 e93
      have HRW:=qq hrow
      clear hrow houD7 hguD7
      refine hK.out _ _ (fun _=>hSof.out _ hbuD7) ?_
      clear hK K
      try go_frame
      refine AnyB.draw 11 29 (v:=?_) rfl rfl (by kernel_rfl) (by decide) (by kernel_rfl) (by kernel_rfl) (by kernel_rfl) (fun _ _ _ h=>h) (by kernel_rfl) ?hy (hSof.out _ hbuD7) (by kernel_rfl) ?_
      case hy=>(intro w hSw;(try dsimp only at hSw);go_simp;(try with_reducible rfl))
      go_frame
      clear hSof
      replace Ha:=qq (Ha.out.keep hbuD7 h3a)
      replace Hb:=qq (Hb.out.keep hbuD7 h3b)
      replace HB:=qq (HB.out.then hbuD7)
      replace HT:=qq (HT.out.keep hbuD7)
      replace HX:=qq (HX.out.keep hbuD7)
      have hsD:=hbuD7.size
      obtain ⟨N9,hN9⟩:∃ N,Hid (0+nk+1=N):=⟨_,qq rfl⟩
      rw [hN9.out] at HRW ⊢
      have HWW:=qq (show WW uD7 ⟨x.h,x.st,wkIf true x.wk A9⟩ p q (some ⟨b9,o9,none⟩) (some ⟨gD,0,none⟩) n c m d ns cs N9 cD from ⟨HX.out.words,HX.out.pages,HX.out.wb,HX.out.st,HRW.out⟩)
      refine AnyB.ready (rs:=[12]) (by kernel_rfl) (by simp) ?_
      refine AllB.cons rfl (fun K hK=>?_) AllB.nil
      have c7:=Ha.out.cell 7 _ rfl
      have f7:=Ha.out.free 7
      go_simp
      clear c7 f7
      refine hK.out _ _ (fun h=>by cases (show true=false from h)) ?_
      clear hK K
      try go_frame
      refine AnyB.done (by kernel_rfl) ?_ _
      go_wp2_with fail
      go_meet
      have hbt:But w.heap.size uD7 (uD7.setCell ⟨w.heap.size,7,none⟩ (.slice (some ⟨gD,0,none⟩) N9 cD)):=(But.refl _ _).set 7 _
      exact ⟨true,some ⟨gD,0,none⟩,N9,cD,Ha.out.set 7 _ (by simp),Hb.out.but hbt (by omega) (by omega),HB.out.store hbt (Nat.le_refl _),HT.out.oth hbt (by omega),Nat.le_trans hsD hbt.size,HWW.out.stored (i:=7) (vs:=[.slice (some ⟨gD,0,none⟩) N9 cD]) Ha.out (zf3 _ _ _ _ _ _ _ _ _ _ _ _ _ _ _ _) (by simp) rfl hbt (fun hne ad e=>(HQ.out hne ad e).1)⟩
  · go_simp
    obtain ⟨uC8,hW⟩:∃ W,Hid ((World.alloc w3 (.cells #[.int .u64 A9] 48)).drew=W):=⟨_,rfl⟩
    rw [hW.out]
    have hbuC8:Below w3.heap.size w3 uC8:=by rw [<-hW.out];exact ((Below.refl _ _).alloc (Nat.le_refl _) _).drew
    have hzuC8:w3.heap.size < uC8.heap.size:=by rw [<-hW.out];simp
    have HCuC8:=qq (show SRow uC8 .u64 (some ⟨w3.heap.size,0,none⟩) 1 1 [A9] from by rw [<-hW.out];exact ((zl7 w3 48 A9).keep (Below.drew (Below.refl _ _))))
    clear hW
    refine hK.out _ _ (fun _=>hSof.out _ hbuC8) ?_
    clear hK K
    try go_frame
    refine AnyB.ready (rs:=[0]) (by kernel_rfl) (by simp) ?_
    refine AllB.cons rfl (fun K hK=>?_) AllB.nil
    go_simp
    obtain ⟨uA9,hW⟩:∃ W,Hid (World.alloc uC8 (.cells #[] 48)=W):=⟨_,rfl⟩
    rw [hW.out]
    have hsuA9:Below uC8.heap.size uC8 uA9:=by rw [<-hW.out];exact za1
    have hbuA9:Below w3.heap.size w3 uA9:=hbuC8.trans (hsuA9.mono hbuC8.size)
    have hzuA9:uC8.heap.size < uA9.heap.size:=by rw [<-hW.out];simp
    have HOuA9:=qq (show uA9.ownsRow w3.heap.size 48 1 (.slice (some ⟨uC8.heap.size,0,none⟩) 0 0) 0 [] from by rw [<-hW.out];exact zg6 (zf9 uC8 48 1) (by have:=hbuC8.size;omega))
    have HCuA9:=qq (HCuC8.out.keep hsuA9)
    clear hW
    refine hK.out _ _ (fun _=>hSof.out _ hbuA9) ?_
    clear hK K
    try go_frame
    refine AnyB.ready (rs:=[3]) (by kernel_rfl) (by simp) ?_
    refine AllB.cons rfl (fun K hK=>?_) AllB.nil
    rw [if_pos (by rfl)]
    refine ze0 _ _ 24 rfl w3.heap.size 48 i0 (.int .u64 0) 8 Tryz.underlying24 hin hz0 hz1 hz2 rfl (.slice (some ⟨uC8.heap.size,0,none⟩) 0 0) 0 [] rfl HOuA9.out pk nk ck .u64 _ rfl (HRK.out.keep hbuA9) (by unfold maxLen;omega) (by omega) (by have:=hbuA9.size;omega) ?_
    intro vuB10 uB10 houB10 hguB10
    have hbuB10:Below w3.heap.size w3 uB10:=hbuA9.grown hguB10 hbuA9.size (fun b hb=>(HOuA9.out.lt b hb).1)
    have hzuB10:=hguB10.size
    have HOuB10:=qq houB10
    have HCuB10:=qq (HCuA9.out.grown hguB10 (fun _ ad e e2=>by cases e;simp [Value.ownBlock] at e2;omega))
    clear houB10 hguB10
    refine hK.out _ _ (fun _=>hSof.out _ hbuB10) ?_
    clear hK K
    try go_frame
    refine AnyB.ready (rs:=[10]) (by kernel_rfl) (by simp) ?_
    refine AllB.cons rfl (fun K hK=>?_) AllB.nil
    rw [if_pos (by rfl)]
    refine ze0 _ _ 24 rfl w3.heap.size 48 i0 (.int .u64 0) 8 Tryz.underlying24 hin hz0 hz1 hz2 rfl vuB10 (0+nk) ([] ++ zb2 .u64 x.wk) rfl HOuB10.out (some ⟨w3.heap.size,0,none⟩) 1 1 .u64 [A9] rfl HCuB10.out (by unfold maxLen;omega) (by omega) (by have:=hbuB10.size;omega) ?_
    intro vuD11 uD11 houD11 hguD11
    have hbuD11:Below w3.heap.size w3 uD11:=hbuB10.grown hguD11 hbuB10.size (fun b hb=>(HOuB10.out.lt b hb).1)
    rw [List.nil_append,ze4] at houD11
    obtain ⟨gD,cD,rfl,-,-⟩:=World.ownsRow.form houD11 (by omega)
    obtain ⟨p9,c9,e9,hrow⟩:=SRow.of_own houD11
    injection e9 with e91 e92 e93
    subst e91 e93
    have HRW:=qq hrow
    clear hrow houD11 hguD11
    refine hK.out _ _ (fun _=>hSof.out _ hbuD11) ?_
    clear hK K
    try go_frame
    refine AnyB.draw 11 29 (v:=?_) rfl rfl (by kernel_rfl) (by decide) (by kernel_rfl) (by kernel_rfl) (by kernel_rfl) (fun _ _ _ h=>h) (by kernel_rfl) ?hy (hSof.out _ hbuD11) (by kernel_rfl) ?_
    case hy=>(intro w hSw;(try dsimp only at hSw);go_simp;(try with_reducible rfl))
    go_frame
    clear hSof
    replace Ha:=qq (Ha.out.keep hbuD11 h3a)
    replace Hb:=qq (Hb.out.keep hbuD11 h3b)
    replace HB:=qq (HB.out.then hbuD11)
    replace HT:=qq (HT.out.keep hbuD11)
    replace HX:=qq (HX.out.keep hbuD11)
    have hsD:=hbuD11.size
    obtain ⟨N9,hN9⟩:∃ N,Hid (0+nk+1=N):=⟨_,qq rfl⟩
    rw [hN9.out] at HRW ⊢
    have HWW:=qq (show WW uD11 ⟨x.h,x.st,wkIf true x.wk A9⟩ p q (some ⟨b9,o9,none⟩) (some ⟨gD,0,none⟩) n c m d ns cs N9 cD from ⟨HX.out.words,HX.out.pages,HX.out.wb,HX.out.st,HRW.out⟩)
    refine AnyB.ready (rs:=[12]) (by kernel_rfl) (by simp) ?_
    refine AllB.cons rfl (fun K hK=>?_) AllB.nil
    have c7:=Ha.out.cell 7 _ rfl
    have f7:=Ha.out.free 7
    go_simp
    clear c7 f7
    refine hK.out _ _ (fun h=>by cases (show true=false from h)) ?_
    clear hK K
    try go_frame
    refine AnyB.done (by kernel_rfl) ?_ _
    go_wp2_with fail
    go_meet
    have hbt:But w.heap.size uD11 (uD11.setCell ⟨w.heap.size,7,none⟩ (.slice (some ⟨gD,0,none⟩) N9 cD)):=(But.refl _ _).set 7 _
    exact ⟨true,some ⟨gD,0,none⟩,N9,cD,Ha.out.set 7 _ (by simp),Hb.out.but hbt (by omega) (by omega),HB.out.store hbt (Nat.le_refl _),HT.out.oth hbt (by omega),Nat.le_trans hsD hbt.size,HWW.out.stored (i:=7) (vs:=[.slice (some ⟨gD,0,none⟩) N9 cD]) Ha.out (zf3 _ _ _ _ _ _ _ _ _ _ _ _ _ _ _ _) (by simp) rfl hbt (fun hne ad e=>(HQ.out hne ad e).1)⟩
 case rest =>
  obtain ⟨bb,sk,sn,sc,hha,hhb,hhB,hht,hsz,hww⟩:=hcut
  replace Ha:=qq hha
  replace Hb:=qq hhb
  replace HB:=qq hhB
  replace HT:=qq hht
  clear HX d0
  have HX:=qq hww
  clear hha hhb hhB hht hww
  replace h3a:w.heap.size < wc.heap.size:=by omega
  replace h3b:w.heap.size+1 < wc.heap.size:=by omega
  have HC1:=qq (HX.out.st.cut (l:=0) (m:=kv) (by omega))
  have HC2:=qq (HX.out.st.cut (l:=kv+1) (m:=ns - (kv+1)) (by omega))
  have hSof:=qq (fun W (hB:Below wc.heap.size wc W)=>(za0 hB (Ha.out.cell 6 _ rfl):(fun W=>W.cell? ⟨w.heap.size,6,none⟩=some (.slice (some ⟨b9,o9,none⟩) ns cs)) W))
  go_upto_region 6 with fail
  refine AnyB.begin_ (k:=13) (S:=fun W=>W.cell? ⟨w.heap.size,6,none⟩=some (.slice (some ⟨b9,o9,none⟩) ns cs)) (by kernel_rfl) ?_
  refine AnyB.draw 1 31 (v:=?_) rfl rfl (by kernel_rfl) (by decide) (by kernel_rfl) (by kernel_rfl) (by kernel_rfl) (fun _ _ _ h=>h) (by kernel_rfl) ?hy (hSof.out _ (Below.drew (Below.refl _ _))) (by kernel_rfl) ?_
  case hy=>(intro w hSw;(try dsimp only at hSw);go_simp;(try with_reducible rfl))
  go_frame
  refine AnyB.draw 2 32 (v:=?_) rfl rfl (by kernel_rfl) (by decide) (by kernel_rfl) (by kernel_rfl) (by kernel_rfl) (fun _ _ _ h=>h) (by kernel_rfl) ?hy (hSof.out _ (Below.drew (Below.refl _ _))) (by kernel_rfl) ?_
  case hy=>(intro w hSw;(try dsimp only at hSw);go_simp;(try with_reducible rfl))
  go_frame
  refine AnyB.draw 3 33 (v:=?_) rfl rfl (by kernel_rfl) (by decide) (by kernel_rfl) (by kernel_rfl) (by kernel_rfl) (fun _ _ _ h=>h) (by kernel_rfl) ?hy (hSof.out _ (Below.drew (Below.refl _ _))) (by kernel_rfl) ?_
  case hy=>(intro w hSw;(try dsimp only at hSw);go_simp;(try with_reducible rfl))
  go_frame
  refine AnyB.draw 4 34 (v:=.slice (cutP (some ⟨b9,o9,none⟩) cs 0) kv (cs - 0)) rfl rfl (by kernel_rfl) (by decide) (by kernel_rfl) (by kernel_rfl) (by kernel_rfl) (fun _ _ _ h=>h) (by kernel_rfl) (fun w hSw=>run_cutTo _ _ 24 rfl 48 Tryz.underlying24 sizeU64 (some ⟨b9,o9,none⟩) ns cs rfl .i64 _ rfl kv rfl (by omega)) (hSof.out _ (Below.drew (Below.refl _ _))) (by kernel_rfl) ?_
  go_frame
  refine AnyB.draw 6 36 (v:=?_) rfl rfl (by kernel_rfl) (by decide) (by kernel_rfl) (by kernel_rfl) (by kernel_rfl) (fun _ _ _ h=>h) (by kernel_rfl) ?hy (hSof.out _ (Below.drew (Below.refl _ _))) (by kernel_rfl) ?_
  case hy=>(intro w hSw;(try dsimp only at hSw);go_simp;(try with_reducible rfl))
  go_frame
  refine AnyB.draw 7 37 (v:=?_) rfl rfl (by kernel_rfl) (by decide) (by kernel_rfl) (by kernel_rfl) (by kernel_rfl) (fun _ _ _ h=>h) (by kernel_rfl) ?hy (hSof.out _ (Below.drew (Below.refl _ _))) (by kernel_rfl) ?_
  case hy=>(intro w hSw;(try dsimp only at hSw);go_simp;(try with_reducible rfl))
  go_frame
  refine AnyB.draw 8 38 (v:=?_) rfl rfl (by kernel_rfl) (by decide) (by kernel_rfl) (by kernel_rfl) (by kernel_rfl) (fun _ _ _ h=>h) (by kernel_rfl) ?hy (hSof.out _ (Below.drew (Below.refl _ _))) (by kernel_rfl) ?_
  case hy=>(intro w hSw;(try dsimp only at hSw);go_simp;(try with_reducible rfl))
  go_frame
  refine AnyB.draw 9 39 (v:=?_) rfl rfl (by kernel_rfl) (by decide) (by kernel_rfl) (by kernel_rfl) (by kernel_rfl) (fun _ _ _ h=>h) (by kernel_rfl) ?hy (hSof.out _ (Below.drew (Below.refl _ _))) (by kernel_rfl) ?_
  case hy=>(intro w hSw;(try dsimp only at hSw);go_simp;(try with_reducible rfl))
  go_frame
  refine AnyB.draw 10 40 (v:=.slice (cutP (some ⟨b9,o9,none⟩) cs (kv+1)) (ns - (kv+1)) (cs - (kv+1))) rfl rfl (by kernel_rfl) (by decide) (by kernel_rfl) (by kernel_rfl) (by kernel_rfl) (fun _ _ _ h=>h) (by kernel_rfl) (fun w hSw=>run_cutFrom _ _ 24 rfl 48 Tryz.underlying24 sizeU64 (some ⟨b9,o9,none⟩) ns cs rfl .i64 _ rfl (kv+1) (by rw [IntWalk.i64_in _ (by omega)];rfl) (by omega)) (hSof.out _ (Below.drew (Below.refl _ _))) (by kernel_rfl) ?_
  go_frame
  refine AnyB.ready (rs:=[0]) (by kernel_rfl) (by simp) ?_
  refine AllB.cons rfl (fun K hK=>?_) AllB.nil
  go_simp
  obtain ⟨u1,hW⟩:∃ W,Hid ((World.alloc wc (.cells #[] 48)).drew=W):=⟨_,rfl⟩
  rw [hW.out]
  have hb1:Below wc.heap.size wc u1:=by rw [<-hW.out];exact ((Below.refl _ _).alloc (Nat.le_refl _) _).drew
  have hz1':wc.heap.size < u1.heap.size:=by rw [<-hW.out];simp
  have HO1:=qq (show u1.ownsRow wc.heap.size 48 1 (.slice (some ⟨wc.heap.size,0,none⟩) 0 0) 0 [] from by rw [<-hW.out];exact zg6 (zb5 (zf9 wc 48 1) (Below.drew (Below.refl _ _))) (by omega))
  clear hW
  refine hK.out _ _ (fun _=>hSof.out _ hb1) ?_
  clear hK K
  try go_frame
  refine AnyB.ready (rs:=[5]) (by kernel_rfl) (by simp) ?_
  refine AllB.cons rfl (fun K hK=>?_) AllB.nil
  rw [if_pos (by rfl)]
  refine ze0 _ _ 24 rfl wc.heap.size 48 i0 (.int .u64 0) 8 Tryz.underlying24 hin hz0 hz1 hz2 rfl (.slice (some ⟨wc.heap.size,0,none⟩) 0 0) 0 [] rfl HO1.out (cutP (some ⟨b9,o9,none⟩) cs 0) kv (cs - 0) .u64 _ rfl (HC1.out.keep hb1) (by unfold maxLen;omega) (by omega) (by have:=hb1.size;omega) ?_
  intro v2 u2 ho hg
  have hb2:Below wc.heap.size wc u2:=hb1.grown hg hb1.size (fun b hb=>(HO1.out.lt b hb).1)
  have HO2:=qq ho
  clear ho hg
  refine hK.out _ _ (fun _=>hSof.out _ hb2) ?_
  clear hK K
  try go_frame
  refine AnyB.ready (rs:=[11]) (by kernel_rfl) (by simp) ?_
  refine AllB.cons rfl (fun K hK=>?_) AllB.nil
  rw [if_pos (by rfl)]
  refine ze0 _ _ 24 rfl wc.heap.size 48 i0 (.int .u64 0) 8 Tryz.underlying24 hin hz0 hz1 hz2 rfl v2 (0+kv) ([] ++ zb2 .u64 ((x.st.drop 0).take kv)) rfl HO2.out (cutP (some ⟨b9,o9,none⟩) cs (kv+1)) (ns - (kv+1)) (cs - (kv+1)) .u64 _ rfl (HC2.out.keep hb2) (by unfold maxLen;omega) (by omega) (by have:=hb2.size;omega) ?_
  intro v3 u3 ho hg
  have hb3:Below wc.heap.size wc u3:=hb2.grown hg hb2.size (fun b hb=>(HO2.out.lt b hb).1)
  have HO3:=qq ho
  clear ho hg
  refine hK.out _ _ (fun _=>hSof.out _ hb3) ?_
  clear hK K
  try go_frame
  refine AnyB.draw 12 42 (v:=?_) rfl rfl (by kernel_rfl) (by decide) (by kernel_rfl) (by kernel_rfl) (by kernel_rfl) (fun _ _ _ h=>h) (by kernel_rfl) ?hy (hSof.out _ hb3) (by kernel_rfl) ?_
  case hy=>(intro w hSw;(try dsimp only at hSw);go_simp;(try with_reducible rfl))
  go_frame
  have ho:=HO3.out
  rw [List.nil_append,ze4] at ho
  obtain ⟨p9,c9,e9,hrow⟩:=SRow.of_own ho
  obtain ⟨N9,hN9⟩:∃ N,Hid (0+kv+(ns - (kv+1))=N):=⟨_,qq rfl⟩
  rw [hN9.out] at e9 hrow
  rw [List.drop_zero,List.take_of_length_le (l:=x.st.drop (kv+1)) (by rw [List.length_drop,hlen.out];omega)] at hrow
  subst e9
  have HRW:=qq hrow
  clear ho hrow HO1 HO2 HO3 hSof HC1 HC2
  replace Ha:=qq (Ha.out.keep hb3 h3a)
  replace Hb:=qq (Hb.out.keep hb3 h3b)
  replace HB:=qq (HB.out.then hb3)
  replace HT:=qq (HT.out.keep hb3)
  replace HX:=qq (HX.out.keep hb3)
  have hsD:=hb3.size
  have HWW:=qq (show WW u3 ⟨x.h,x.st.take kv ++ x.st.drop (kv+1),wkIf bb x.wk A9⟩ p q p9 sk n c m d N9 c9 sn sc from ⟨HX.out.words,HX.out.pages,HX.out.wb,HRW.out,HX.out.wk⟩)
  refine AnyB.ready (rs:=[13]) (by kernel_rfl) (by simp) ?_
  refine AllB.cons rfl (fun K hK=>?_) AllB.nil
  have c6:=Ha.out.cell 6 _ rfl
  have f6:=Ha.out.free 6
  go_simp
  clear c6 f6
  refine hK.out _ _ (fun h=>by cases (show true=false from h)) ?_
  clear hK K
  try go_frame
  refine AnyB.done (by kernel_rfl) ?_ _
  have hbt:But w.heap.size u3 (u3.setCell ⟨w.heap.size,6,none⟩ (.slice p9 N9 c9)):=(But.refl _ _).set 6 _
  obtain ⟨wE,hE⟩:∃ W,Hid (u3.setCell ⟨w.heap.size,6,none⟩ (.slice p9 N9 c9)=W):=⟨_,rfl⟩
  have hoE:OwnL wE w.heap.size [.int .i64 x.h.pw,.int .i64 x.h.np,.slice p n c,.slice q m d,.int .i64 x.h.space,.int .i64 x.h.bump,.slice p9 N9 c9,.slice sk sn sc]:=by rw [<-hE.out];exact Ha.out.set 6 _ (by simp)
  rw [hE.out] at hbt ⊢
  have hwE:=HWW.out.stored (i:=6) (vs:=[.slice p9 N9 c9]) Ha.out (zf3 _ _ _ _ _ _ _ _ _ _ _ _ _ _ _ _) (by simp) hE.out hbt (fun hne ad e=>(HQ.out hne ad e).1)
  replace Hb:=qq (Hb.out.but hbt (by omega) (by omega))
  replace HB:=qq (HB.out.store hbt (Nat.le_refl _))
  replace HT:=qq (HT.out.oth hbt (by omega))
  have hsE:=hbt.size
  clear Ha HX HWW hbt hE
  have Ha:=qq hoE
  have HX:=qq hwE
  clear hoE hwE
  go_wp2_with (first | ((with_reducible show wpList _ _ _ _ _ _);refine za7 (op:=⟨some 43,.load 31 _,_,_,_,_⟩) rfl _ _ rfl _ rfl _ Ha.out zc1 ?_) | ((with_reducible show wpList _ _ _ _ _ _);refine za6 (op:=⟨none,.store 31 _ _,_,_,_,_⟩) rfl _ _ _ rfl _ ?hx802 [.int .i64 x.h.pw,.int .i64 x.h.np,.slice p n c,.slice q m d,.int .i64 x.h.space,.int .i64 x.h.bump,.slice p9 N9 c9,.slice sk sn sc] _ ?hy802 Hb.out rfl rfl zc1 ?_))
  (try (case hx802=>rfl))
  (try (case hy802=>rfl))
  intro w9 ho hbt hst
  have HZ:=qq ho
  have HX9:=qq (HX.out.stored (i:=0) (vs:=[.int .i64 x.h.pw,.int .i64 x.h.np,.slice p n c,.slice q m d,.int .i64 x.h.space,.int .i64 x.h.bump,.slice p9 N9 c9,.slice sk sn sc]) Hb.out (zf3 _ _ _ _ _ _ _ _ _ _ _ _ _ _ _ _) (by simp) (by rw [<-zb7];exact hst.out.symm) hbt (fun hne ad e=>(HQ.out hne ad e).2))
  have HT9:=qq (HT.out.oth hbt (by omega))
  have HB9:=qq (HB.out.store hbt (by omega))
  clear ho hbt hst
  go_wp2
  refine bodyPost_ret (zc9 rfl rfl HZ.out zc1) rfl ?_
  exact ⟨⟨_,_,rfl,MStep.drop x kv A9 bb HA.out,HX9.out.wd⟩,⟨j+1+1,by omega,by omega,HT9.out⟩,HB9.out⟩
theorem drop_any (tb:Nat) (lp:Option Addr) (ln lc:Nat) (xs:List Int) (j:Nat) (x:Wd) (p q ps pk:Option Addr) (n c m d ns cs nk ck:Nat) (w:World) (ht:Tp w tb lp ln lc xs j) (hj:j<=90000) (hx:WW w x p q ps pk n c m d ns cs nk ck)  (hns:ns<=10000) (hnk:nk<=10000) :
 Calls Tryz.prog 87 #[(.agg #[.int .i64 x.h.pw,.int .i64 x.h.np,.slice p n c,.slice q m d,.int .i64 x.h.space,.int .i64 x.h.bump,.slice ps ns cs,.slice pk nk ck]),.pointer (some ⟨tb,0,none⟩)] w fun e w'=>(∃ v y,e = .returned v/\MStep x y/\WdV w' v y)/\(∃ j',j<=j'/\j'<=j+2/\Tp w' tb lp ln lc xs j')/\But tb w w':=by
 rcases Nat.eq_zero_or_pos ns with h0 | h0
 · exact drop_any0 tb lp ln lc xs j x p q ps pk n c m d ns cs nk ck w ht hj hx h0 hns hnk
 obtain ⟨-,b9,o9,-,hp9,-⟩:=hx.st.at_ (k:=0) h0
 subst hp9
 exact drop_any1 tb lp ln lc xs j x p q pk b9 o9 n c m d ns cs nk ck w ht hj hx h0 hns hnk
end Go.Proofs.YtipjdbhocjpmdaaGreat
