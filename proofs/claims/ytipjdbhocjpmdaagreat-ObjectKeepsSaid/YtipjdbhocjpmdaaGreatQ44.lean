import Derived.Test.YtipjdbhocjpmdaaGreatQ01
import Derived.Test.YtipjdbhocjpmdaaGreatQ05
import Derived.Test.YtipjdbhocjpmdaaGreatQ13
import Derived.Test.YtipjdbhocjpmdaaGreatQ20
import Derived.Test.YtipjdbhocjpmdaaGreatQ38
import Derived.Test.YtipjdbhocjpmdaaGreatQ43
import Derived.Deep.DeepCutAuto
import Derived.Maps.RangeWalk
set_option linter.unusedSimpArgs false
set_option linter.unusedVariables false
set_option maxRecDepth 100000
set_option maxHeartbeats 12800000
namespace Go.Proofs.YtipjdbhocjpmdaaGreat
open Go.RowKit
def RetU (e:Ending) (w':World):Prop:=∃ xs p n c,e = .returned (.slice p n c)/\SRow w' .u64 p n c xs/\WB xs/\n<=5
theorem own_u64 (w:World) (xs:List Int) (hl:xs.length<=100):(w.alloc (.cells (zb2 .u64 xs).toArray 48)).ownsRow w.heap.size 48 1 (.slice (some ⟨w.heap.size,0,none⟩) xs.length xs.length) xs.length (zb2 .u64 xs):=by
 have h3:(zb2 .u64 xs).length=xs.length:=zh2 _ _
 refine ⟨by rw [h3];omega,.inr ⟨w.heap.size,xs.length,_,rfl,Nat.le_refl _,heap_alloc_new w _,Nat.le_refl _,by unfold maxLen;omega,by simp [h3],?_⟩⟩
 exact List.take_of_length_le (by rw [h3];omega)
theorem emod_idx {a:Int} {n:Nat} (ha:0<=a) (hn:0 < n):∃ k:Nat,a % (n:Int)=k/\k < n:=by
 have h1:=Int.emod_nonneg a (show (n:Int)≠0 by omega)
 have h2:=Int.emod_lt_of_pos a (show (0:Int) < n by omega)
 exact ⟨(a % n).toNat,by omega,by omega⟩
theorem near_any (h:Hp) (p q:Option Addr) (n c m d:Nat) (a:Int) (w:World) (hs:SRow w .u64 p n c h.words) (hr:PRow w q m d h.pages) (hw:WB h.words) (ha:0<=a) (ha2:a < 18446744073709551616) :
 Calls Tryz.prog 24 #[.agg #[.int .i64 h.pw,.int .i64 h.np,.slice p n c,.slice q m d,.int .i64 h.space,.int .i64 h.bump],.int .u64 a] w fun e w'=>RetU e w'/\Below w.heap.size w w':=by
 have hst:=qq (fun w' (hb:Below w.heap.size w w')=>refStarts_val (h:=h) w' ⟨p,n,c,q,m,d,rfl,hs.keep hb,hr.keep hb,hw⟩)
 have hwb:=qq (startsV_wb h)
 obtain ⟨V,hV⟩:∃ V,Hid (zi5 h=V):=⟨_,rfl⟩
 obtain ⟨E,hE⟩:∃ E,Hid (zl8 h=E):=⟨_,rfl⟩
 rw [hV.out,hE.out] at hst
 rw [hV.out] at hwb
 clear hs hr hw hV hE
 go_enter Tryz.func24,Tryz.ntmps24
 go_wp2_with fail
 refine (hst.out _ za1).mono ?_
 rintro e w1 ⟨⟨lp,ln,lc,rfl,hl⟩,hb1⟩
 have hw1:=qq (za4 hb1)
 have HL:=qq hl
 have hi:=hl.i63.2
 have X1:(a % 5000:Int) < 5000:=Int.emod_lt_of_pos a (by decide)
 have X2:0<=(a % 5000:Int):=Int.emod_nonneg a (by decide)
 clear hst hb1 hl
 obtain ⟨Z,hZ⟩:∃ Z,Hid (a % 5000=Z):=⟨_,rfl⟩
 rw [hZ.out] at X1 X2
 have hZ1:=hZ.out
 have hown:=qq (fun w=>own_u64 w [a,0,4096+Z] (by simp))
 have hwb3:Hid (WB [a,0,4096+Z]):=by
  intro x hx
  simp only [List.mem_cons,List.not_mem_nil,or_false] at hx
  rcases hx with rfl | rfl | rfl <;> omega
 clear hZ
 by_cases hln:ln=0
 · subst hln
   go_wp2_with fail
   go_ret
   obtain ⟨p',c',e',hs'⟩:=SRow.of_own (kd:=.u64) (xs:=[a,0,4096+Z]) (hown.out w1)
   exact ⟨⟨[a,0,4096+Z],p',3,c',congrArg Ending.returned e',hs',hwb3.out,by omega⟩,za3 hw1.out za1⟩
 · obtain ⟨k,hk,hkl⟩:=emod_idx (n:=ln) ha (by omega)
   obtain ⟨x,b,off,hx,rfl,hc⟩:=HL.out.at_ (k:=k) hkl
   have hbl:b < w1.heap.size:=zb4 hc
   have hbn:b≠w1.heap.size:=by omega
   have hxb:=hwb.out x (List.mem_of_getElem? hx)
   have hgt:(0:Int) < ln:=by omega
   have hwr:IntKind.u64.wrap (ln:Int)=ln:=IntWalk.u64_in _ (by omega)
   have hkk:(k:Int) < ln:=by omega
   obtain ⟨i0,hin,hz0,hz1,hz2⟩:=info_parts zf2
   clear hln hx
   obtain ⟨Y,hY⟩:∃ Y,Hid (IntKind.u64.wrap (x+1)=Y):=⟨_,rfl⟩
   have hY1:=hY.out
   have hYb:0<=Y/\Y < 18446744073709551616:=by rw [<-hY.out,IntKind.wrap_u64];omega
   have hown2:=qq (fun w=>own_u64 w [x,Y] (by simp))
   have hwb5:Hid (WB [a,0,4096+Z,x,Y]):=by
    intro z hz
    simp only [List.mem_cons,List.not_mem_nil,or_false] at hz
    rcases hz with rfl | rfl | rfl | rfl | rfl <;> omega
   clear hY
   go_wp2_with (at_builtin;refine zd7 rfl _ _ 24 rfl w1.heap.size 48 i0 (.int .u64 0) 8 Tryz.underlying24 hin hz0 hz1 hz2 rfl _ 3 (zb2 .u64 [a,0,4096+Z]) rfl ?c1 (some ⟨w1.heap.size+1,0,none⟩) 2 2 .u64 [x,Y] rfl ?c2 ?c3 ?c4 ?c5 ?_)
   case c1=>exact zb5 (hown.out w1) za1
   case c2 =>
    obtain ⟨p',c',e',hs'⟩:=SRow.of_own (kd:=.u64) (xs:=[x,Y]) (hown2.out (w1.alloc (.cells #[.int .u64 a,.int .u64 0,.int .u64 (4096+Z)] 48)))
    injection e' with e1 _ e3
    subst e1 e3
    simpa [zb2] using hs'
   case c3=>unfold maxLen;omega
   case c4=>omega
   case c5=>simp;omega
   intro v' w4 hown4 hgrow4
   rw [ze4] at hown4
   have hb4:Below w1.heap.size w1 w4:=(za3 za1 za1).grown hgrow4 (by simp;omega) (fun j hj=>((hown.out w1).lt j hj).1)
   have Hown4:=qq hown4
   have Hb4:=qq (za3 hw1.out hb4)
   clear hown4 hgrow4 hb4 hown hown2
   go_wp2
   go_ret
   obtain ⟨p',c',e',hs'⟩:=SRow.of_own Hown4.out
   exact ⟨⟨_,p',5,c',congrArg Ending.returned e',hs',hwb5.out,by omega⟩,Hb4.out⟩
theorem pick_any (tb:Nat) (lp:Option Addr) (ln lc:Nat) (xs:List Int) (j:Nat) (x:Wd) (p q ps pk:Option Addr) (n c m d ns cs nk ck:Nat) (w:World) (h:Tp w tb lp ln lc xs j) (hj:j<=90000) (hst:SRow w .u64 ps ns cs x.st) (hwk:SRow w .u64 pk nk ck x.wk) (hns:ns<=10000) (hnk:nk<=10000) :
 Calls Tryz.prog 89 #[(.agg #[.int .i64 x.h.pw,.int .i64 x.h.np,.slice p n c,.slice q m d,.int .i64 x.h.space,.int .i64 x.h.bump,.slice ps ns cs,.slice pk nk ck]),.pointer (some ⟨tb,0,none⟩)] w fun e w'=>(∃ a,e = .returned (.int .u64 a)/\a∈0 :: (x.st ++ x.wk))/\Tp w' tb lp ln lc xs (j+1)/\But tb w w':=by
 have htb:=h.lt
 obtain ⟨w1,hw1⟩:∃ w1,Hid (w.alloc (.cells #[.int .i64 x.h.pw,.int .i64 x.h.np,.slice p n c,.slice q m d,.int .i64 x.h.space,.int .i64 x.h.bump,.slice ps ns cs,.slice pk nk ck] 31)=w1):=⟨_,rfl⟩
 have Ha:=qq (show OwnL w1 w.heap.size [.int .i64 x.h.pw,.int .i64 x.h.np,.slice p n c,.slice q m d,.int .i64 x.h.space,.int .i64 x.h.bump,.slice ps ns cs,.slice pk nk ck] from by rw [<-hw1.out];exact OwnL.new w [.int .i64 x.h.pw,.int .i64 x.h.np,.slice p n c,.slice q m d,.int .i64 x.h.space,.int .i64 x.h.bump,.slice ps ns cs,.slice pk nk ck] 31)
 have hlt1:w.heap.size < w1.heap.size:=Ha.out.lt rfl
 have hb0:Below w.heap.size w w1:=by rw [<-hw1.out];exact za1
 have HT:=qq (h.keep hb0)
 have HB:=qq hb0
 have HS:=qq (hst.keep hb0)
 have HK:=qq (hwk.keep hb0)
 clear h hst hwk hb0
 go_enter Tryz.func89,Tryz.ntmps89
 go_upto_region 1 with fail
 rw [hw1.out]
 clear hw1
 have hSof:=qq (fun W (hW:OwnL W w.heap.size [.int .i64 x.h.pw,.int .i64 x.h.np,.slice p n c,.slice q m d,.int .i64 x.h.space,.int .i64 x.h.bump,.slice ps ns cs,.slice pk nk ck])=>(⟨hW.cell 6 _ rfl,hW.cell 7 _ rfl⟩:(fun W=>W.cell? ⟨w.heap.size,6,none⟩=some (.slice ps ns cs)/\W.cell? ⟨w.heap.size,7,none⟩=some (.slice pk nk ck)) W))
 obtain ⟨i0,hin,hz0,hz1,hz2⟩:=info_parts zf2
 refine wp_region_held_drew (S:=fun W=>W.cell? ⟨w.heap.size,6,none⟩=some (.slice ps ns cs)/\W.cell? ⟨w.heap.size,7,none⟩=some (.slice pk nk ck)) (by kernel_rfl) (hSof.out _ (Ha.out.keep (Below.drew (Below.refl _ _)) (Ha.out.lt rfl))) (fun hHeld=>?_)
 refine draw_t 1 7 hHeld ?_
 refine draw_t 2 8 hHeld ?_
 refine draw_t 4 10 hHeld ?_
 refine draw_t 5 11 hHeld ?_
 refine rdy1 0 (fun K hK=>?_)
 go_simp
 obtain ⟨w2,hw2⟩:∃ W,Hid ((World.alloc w1 (.cells #[.int .u64 0] 48)).drew=W):=⟨_,rfl⟩
 rw [hw2.out]
 have hb2:Below w1.heap.size w1 w2:=by rw [<-hw2.out];exact ((Below.refl _ _).alloc (Nat.le_refl _) _).drew
 have hown2:w2.ownsRow w1.heap.size 48 1 (.slice (some ⟨w1.heap.size,0,none⟩) 1 1) 1 [.int .u64 0]:=by rw [<-hw2.out];exact zb5 (own_one w1 48 (.int .u64 0)) (Below.drew (Below.refl _ _))
 have hl2:w1.heap.size < w2.heap.size:=by rw [<-hw2.out];simp
 replace Ha:=qq (Ha.out.keep hb2 (Ha.out.lt rfl))
 refine hK.out _ _ (hSof.out _ Ha.out) (fun hHeld=>?_)
 clear hK K hw2
 try go_frame
 refine rdy1 3 (fun K hK=>?_)
 rw [if_pos (by rfl)]
 refine ze0 _ _ 24 rfl w1.heap.size 48 i0 (.int .u64 0) 8 Tryz.underlying24 hin hz0 hz1 hz2 rfl (.slice (some ⟨w1.heap.size,0,none⟩) 1 1) 1 [.int .u64 0] rfl hown2 ps ns cs .u64 _ rfl (HS.out.keep hb2) (by unfold maxLen;omega) (by omega) (by omega) ?_
 intro v3 w3 hown3 hg3
 have hb3:Below w1.heap.size w1 w3:=hb2.grown hg3 hb2.size (fun b hb=>(hown2.lt b hb).1)
 have hl3:=hg3.size
 rw [show ([Value.int .u64 0]:List Value)=zb2 .u64 [0] from rfl,ze4] at hown3
 have HO3:=qq hown3
 replace Ha:=qq (Ha.out.grown hg3 (Ha.out.lt rfl) (fun e=>by have h1:=(hown2.lt _ e.symm).1;have h2:=HB.out.size;have h3:=Ha.out.lt rfl;have h4:=hlt1;omega))
 clear hown3 hown2 hg3 hb2
 refine hK.out _ _ (hSof.out _ Ha.out) (fun hHeld=>?_)
 clear hK K
 try go_frame
 refine rdy1 6 (fun K hK=>?_)
 rw [if_pos (by rfl)]
 refine ze0 _ _ 24 rfl w1.heap.size 48 i0 (.int .u64 0) 8 Tryz.underlying24 hin hz0 hz1 hz2 rfl v3 (1+ns) _ rfl HO3.out pk nk ck .u64 _ rfl (HK.out.keep hb3) (by unfold maxLen;omega) (by omega) (by omega) ?_
 intro v4 w4 hown4 hg4
 have hb4:Below w1.heap.size w1 w4:=hb3.grown hg4 hb3.size (fun b hb=>(HO3.out.lt b hb).1)
 have hl4:=hg4.size
 rw [ze4] at hown4
 have HO4:=qq hown4
 replace Ha:=qq (Ha.out.grown hg4 (Ha.out.lt rfl) (fun e=>by have h1:=(HO3.out.lt _ e.symm).1;have h4:=hlt1;omega))
 clear hown4 hg4 hb3
 refine hK.out _ _ (hSof.out _ Ha.out) (fun hHeld=>?_)
 clear hK K
 try go_frame
 refine draw_t 7 5 hHeld ?_
 refine wpAnyH_done (by kernel_rfl) ?_ _
 obtain ⟨g4,c4,rfl,hg4b,-⟩:=World.ownsRow.form HO4.out (by omega)
 obtain ⟨p9,c9,e9,hrow⟩:=SRow.of_own HO4.out
 injection e9 with e91 e92 e93
 subst e91 e93
 have HRW:=qq hrow
 clear hrow HO3 HO4 hSof
 replace HT:=qq (HT.out.keep hb4)
 replace HB:=qq (za3 HB.out hb4)
 clear hb4
 go_wp2_with fail
 refine (ze2 tb lp ln lc xs j _ w4 HT.out (by omega) (by omega)).mono ?_
 rintro e w5 ⟨v,rfl,v0,-,v1,⟨jn,-,-,hjn,hT⟩,hbt⟩
 obtain rfl:=hjn (by omega)
 replace v1:=v1 (by omega)
 obtain ⟨kv,rfl⟩:∃ kv:Nat,v=kv:=⟨v.toNat,by omega⟩
 obtain ⟨A,b9,o9,hA,hp9,d0⟩:=(HRW.out.but HT.out hbt).at_ (k:=kv) (by omega)
 have hAm:=List.mem_of_getElem? hA
 injection hp9 with hp9
 injection hp9 with h1 h2
 subst h1 h2
 rw [Nat.zero_add] at d0
 have HTT:=qq hT
 have HBB:=qq ((But.of tb HB.out).trans hbt)
 clear hA hT hbt HRW HT HB Ha
 go_wp2
 go_ret
 exact ⟨⟨A,rfl,by simpa using hAm⟩,HTT.out,HBB.out⟩
end Go.Proofs.YtipjdbhocjpmdaaGreat
