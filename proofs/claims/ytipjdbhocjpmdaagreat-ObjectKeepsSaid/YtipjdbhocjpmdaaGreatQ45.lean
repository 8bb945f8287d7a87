import Derived.Test.YtipjdbhocjpmdaaGreatQ01
import Derived.Test.YtipjdbhocjpmdaaGreatQ44
set_option linter.unusedSimpArgs false
set_option linter.unusedVariables false
set_option maxRecDepth 100000
set_option maxHeartbeats 12800000
namespace Go.Proofs.YtipjdbhocjpmdaaGreat
open Go.RowKit
theorem OwnL.srow {w:World} {b:Nat} {xs:List Int} (h:OwnL w b (zb2 .u64 xs)) (hl:xs.length<=1000000):SRow w .u64 (some ⟨b,0,none⟩) xs.length xs.length xs :=
 ⟨rfl,Nat.le_refl _,by unfold maxLen;omega,fun k x hx=>⟨b,0,rfl,by rw [Nat.zero_add];exact h.cell k _ (yb1 hx)⟩⟩
theorem OwnL.prow {w:World} {b:Nat} {ps:List Pg} (h:OwnL w b (zc4 ps)) (hl:ps.length<=1000000):PRow w (some ⟨b,0,none⟩) ps.length ps.length ps :=
 ⟨by rw [zr0],Nat.le_refl _,by unfold maxLen;omega,fun k x hx=>⟨b,0,rfl,by rw [Nat.zero_add];exact h.cell k _ hx⟩⟩
def RetE (w:World) (pw np:Int) (A B:Nat) (e:Ending) (w':World):Prop:=∃ g k,e = .returned (.tuple #[.agg #[.int .i64 pw,.int .i64 np,.slice (some ⟨g,0,none⟩) A A,.slice (some ⟨k,0,none⟩) B B,.int .i64 0,.int .i64 (-1)],.int .i64 0])/\g≠k/\w.heap.size<=g/\w.heap.size<=k/\OwnL w' g (zb2 .u64 (List.replicate A 0))/\OwnL w' k (zc4 (List.replicate B Pg.zero))
theorem made_u (w:World) (n:Nat) (T:TypeId):OwnL (w.alloc (.cells (madeCells #[.int .u64 0] n) T)) w.heap.size (zb2 .u64 (List.replicate n 0)):=by
 have e:madeCells #[.int .u64 0] n=(zb2 .u64 (List.replicate n 0)).toArray:=by rw [<-zw4 .u64 n]
 rw [e];exact OwnL.new _ _ _
theorem made_p (w:World) (n:Nat) (T:TypeId):OwnL (w.alloc (.cells (madeCells #[.int .i64 0,.int .i64 0,.int .i64 0,.int .i64 0] (n*4)) T)) w.heap.size (zc4 (List.replicate n Pg.zero)):=by
 have e:madeCells #[.int .i64 0,.int .i64 0,.int .i64 0,.int .i64 0] (n*4)=(zc4 (List.replicate n Pg.zero)).toArray:=by rw [pvals_zeros,<-made_const]
 rw [e];exact OwnL.new _ _ _
theorem made_u' (w:World) (b n:Nat) (T:TypeId) (hb:b=w.heap.size):OwnL (w.alloc (.cells (madeCells #[.int .u64 0] n) T)) b (zb2 .u64 (List.replicate n 0)):=by subst hb;exact made_u w n T
theorem made_p' (w:World) (b n:Nat) (T:TypeId) (hb:b=w.heap.size):OwnL (w.alloc (.cells (madeCells #[.int .i64 0,.int .i64 0,.int .i64 0,.int .i64 0] (n*4)) T)) b (zc4 (List.replicate n Pg.zero)):=by subst hb;exact made_p w n T
theorem refNewE (pw np:Int) (A B:Nat) (w:World) (hv:zb8 pw np=true) (hA:np*pw=A) (hB:np=B) :
 Calls Tryz.prog 74 #[.agg #[.int .i64 pw,.int .i64 np]] w fun e w'=>RetE w pw np A B e w'/\Below w.heap.size w w':=by
 have hc:=qq (fun w=>zg0 hv w)
 obtain ⟨g1,g2⟩:=zd6 hv
 obtain ⟨k1,k2,-,k4,k5⟩:=zb1 hv
 have hm1:=fun w=>run_words A (by omega) w
 have hm2:=fun w=>run_pages B (by omega) w
 rw [<-hA] at hm1
 rw [<-hB] at hm2
 have HA:=qq hA
 have HB:=qq hB
 have hA5:A<=100000:=by omega
 have hB5:B<=100000:=by omega
 clear hv hA hB
 have Ho:=qq (Own6.new (w.alloc (.cells #[.int .i64 pw,.int .i64 np] 23)) (.int .i64 0) (.int .i64 0) (.slice none 0 0) (.slice none 0 0) (.int .i64 0) (.int .i64 0) 27)
 go_enter Tryz.func74,Tryz.ntmps74
 go_wp2_with fail
 refine (hc.out _).mono ?_
 rintro e w1 ⟨rfl,hb1⟩
 have hw1:=za4 hb1
 have c0:=za5 (w:=w) (cs:=#[.int .i64 pw,.int .i64 np]) (T:=23) hw1 0 (v:=.int .i64 pw) rfl
 have c1:=za5 (w:=w) (cs:=#[.int .i64 pw,.int .i64 np]) (T:=23) hw1 1 (v:=.int .i64 np) rfl
 have Ho1:=Ho.out.keep hb1
 simp only [World.size_alloc] at Ho1
 have HO:=qq Ho1
 obtain ⟨d0,d1,d2,d3,d4,d5,f0,f1,f2,f3,f4,f5⟩:=Ho1
 have lb:w.heap.size < w1.heap.size:=zb4 c0
 have lb1:=zb4 d0
 simp only [] at lb1
 have lne:w.heap.size≠w1.heap.size:=Nat.ne_of_lt lb
 have lne1:w.heap.size+1≠w1.heap.size:=Nat.ne_of_lt lb1
 have lne2:w.heap.size≠w1.heap.size+1:=by omega
 have hbw1:=hw1.size
 have lne3:w.heap.size+1≠w1.heap.size+1:=by omega
 have hwp:IntKind.i64.wrap (np*pw)=np*pw:=IntWalk.i64_in _ (by omega)
 have hwB:=za4 hw1
 clear hc Ho hb1 hw1
 have hmA:A<=maxLen:=by unfold maxLen;omega
 have hmB:B<=maxLen:=by unfold maxLen;omega
 go_wp2
 go_region
 · go_wp2
   generalize hW:(World.alloc (World.alloc _ _) _).drew=W
   obtain ⟨r0,r1,r2,r3,r4,r5,-,-,-,-,-,-⟩:=(HO.out.set (.int .i64 pw) (.int .i64 np) (.slice (some ⟨w1.heap.size,0,none⟩) A A) (.slice (some ⟨w1.heap.size+1,0,none⟩) B B) (.int .i64 0) (.int .i64 (-1))).keep (w':=W) (by rw [<-hW];exact ((za1.trans (za1.mono (by simp))).drew))
   refine bodyPost_ret (v:=.tuple #[.agg #[.int .i64 pw,.int .i64 np,.slice (some ⟨w1.heap.size,0,none⟩) A A,.slice (some ⟨w1.heap.size+1,0,none⟩) B B,.int .i64 0,.int .i64 (-1)],.int .i64 0]) (by simp [results,Tryz.results74,go_sem,r0,r1,r2,r3,r4,r5]) rfl ?_
   rw [<-hW]
   refine ⟨⟨_,_,rfl,by omega,by omega,by omega,?_,?_⟩,(((zd2 hwB (Nat.le_succ _)).alloc (by simp;omega) _).alloc (by simp;omega) _).drew⟩
   · exact OwnL.keep (made_u' _ _ A _ (by simp)) (((Below.refl _ _).alloc (Nat.le_refl _) _).drew) (by simp)
   · exact OwnL.keep (made_p' _ _ B _ (by simp)) (Below.drew (Below.refl _ _)) (by simp)
 · go_wp2
   generalize hW:(World.alloc (World.alloc _ _) _).drew=W
   obtain ⟨r0,r1,r2,r3,r4,r5,-,-,-,-,-,-⟩:=(HO.out.set (.int .i64 pw) (.int .i64 np) (.slice (some ⟨w1.heap.size+1,0,none⟩) A A) (.slice (some ⟨w1.heap.size,0,none⟩) B B) (.int .i64 0) (.int .i64 (-1))).keep (w':=W) (by rw [<-hW];exact ((za1.trans (za1.mono (by simp))).drew))
   refine bodyPost_ret (v:=.tuple #[.agg #[.int .i64 pw,.int .i64 np,.slice (some ⟨w1.heap.size+1,0,none⟩) A A,.slice (some ⟨w1.heap.size,0,none⟩) B B,.int .i64 0,.int .i64 (-1)],.int .i64 0]) (by simp [results,Tryz.results74,go_sem,r0,r1,r2,r3,r4,r5]) rfl ?_
   rw [<-hW]
   refine ⟨⟨_,_,rfl,by omega,by omega,by omega,?_,?_⟩,(((zd2 hwB (Nat.le_succ _)).alloc (by simp;omega) _).alloc (by simp;omega) _).drew⟩
   · exact OwnL.keep (made_u' _ _ A _ (by simp)) (Below.drew (Below.refl _ _)) (by simp)
   · exact OwnL.keep (made_p' _ _ B _ (by simp)) (((Below.refl _ _).alloc (Nat.le_refl _) _).drew) (by simp)
def awakeH:Hp:=⟨16,8,[29,55] ++ List.replicate 126 0,⟨1,0,2,0⟩ :: List.replicate 7 Pg.zero,0,-1⟩
theorem awake_get:getE awakeH 4096=0/\getH awakeH 4096=⟨3,1,0⟩:=⟨by kernel_rfl,by kernel_rfl⟩
theorem awake_field:zo8 awakeH 4096 0=0/\fieldV awakeH 4096 0=55:=⟨by kernel_rfl,by kernel_rfl⟩
theorem awake_any (w:World):Calls Tryz.prog 29 #[] w fun e w'=>e = .returned (.bool true)/\Below w.heap.size w w':=by
 have hn:=qq (fun w=>refNewE 16 8 128 8 w (by decide) rfl rfl)
 go_enter Tryz.func29,Tryz.ntmps29
 go_wp2_with fail
 refine (hn.out _).mono ?_
 rintro e w1 ⟨⟨g,k,rfl,hgk,hg,hk,HG,HK⟩,hb1⟩
 have hw1:=qq hb1
 have hG:=qq HG
 have hK:=qq HK
 have hgl:=HG.lt rfl
 have hkl:=HK.lt rfl
 have hg1:g≠w1.heap.size:=by omega
 have hk1:k≠w1.heap.size:=by omega
 have c0:=HK.cell 0 _ rfl
 have c1:=HK.cell 1 _ rfl
 have c2:=HK.cell 2 _ rfl
 have c3:=HK.cell 3 _ rfl
 have f0:=HK.free 0
 have f1:=HK.free 1
 have f2:=HK.free 2
 have f3:=HK.free 3
 have g0:=HG.cell 0 _ rfl
 have gg1:=HG.cell 1 _ rfl
 have e0:=HG.free 0
 have e1:=HG.free 1
 clear HG HK hb1 hn
 go_upto_region 3 with fail
 obtain ⟨w2,hw2⟩:∃ W,Hid ((((((w1.setCell ⟨k,0,none⟩ (.int .i64 1)).setCell ⟨k,1,none⟩ (.int .i64 0)).setCell ⟨k,2,none⟩ (.int .i64 2)).setCell ⟨k,3,none⟩ (.int .i64 0)).alloc (.cells #[.int .i64 16,.int .i64 8,.slice (some ⟨g,0,none⟩) 128 128,.slice (some ⟨k,0,none⟩) 8 8,.int .i64 0,.int .i64 (-1)] 27))=W):=⟨_,rfl⟩
 rw [hw2.out]
 have HK2:=qq (show OwnL w2 k (((((zc4 (List.replicate 8 Pg.zero)).set 0 (.int .i64 1)).set 1 (.int .i64 0)).set 2 (.int .i64 2)).set 3 (.int .i64 0)) from by rw [<-hw2.out];exact ((((hK.out.set 0 _ (by decide)).set 1 _ (by decide)).set 2 _ (by decide)).set 3 _ (by decide)).keep za1 (by simp [World.setCell];omega))
 have HG2:=qq (show OwnL w2 g (zb2 .u64 (List.replicate 128 0)) from by rw [<-hw2.out];exact ((((hG.out.other _ _ (Ne.symm hgk)).other _ _ (Ne.symm hgk)).other _ _ (Ne.symm hgk)).other _ _ (Ne.symm hgk)).keep za1 (by simp [World.setCell];omega))
 have HX2:=qq (show OwnL w2 w1.heap.size [.int .i64 16,.int .i64 8,.slice (some ⟨g,0,none⟩) 128 128,.slice (some ⟨k,0,none⟩) 8 8,.int .i64 0,.int .i64 (-1)] from by rw [<-hw2.out];have:=OwnL.new ((((w1.setCell ⟨k,0,none⟩ (.int .i64 1)).setCell ⟨k,1,none⟩ (.int .i64 0)).setCell ⟨k,2,none⟩ (.int .i64 2)).setCell ⟨k,3,none⟩ (.int .i64 0)) [.int .i64 16,.int .i64 8,.slice (some ⟨g,0,none⟩) 128 128,.slice (some ⟨k,0,none⟩) 8 8,.int .i64 0,.int .i64 (-1)] 27;simpa [World.setCell] using this)
 have hb2:=qq (show Below w.heap.size w w2 from by rw [<-hw2.out];exact za3 ((((hw1.out.setCell (p:=⟨k,0,none⟩) hk _).setCell (p:=⟨k,1,none⟩) hk _).setCell (p:=⟨k,2,none⟩) hk _).setCell (p:=⟨k,3,none⟩) hk _) za1)
 clear hw2 c0 c1 c2 c3 f0 f1 f2 f3 g0 gg1 e0 e1 hG hK hw1
 have x2:=HX2.out.cell 2 _ rfl
 have g0:=HG2.out.cell 0 _ rfl
 have gg1:=HG2.out.cell 1 _ rfl
 have e0:=HG2.out.free 0
 have e1:=HG2.out.free 1
 go_region
 obtain ⟨w3,hw3⟩:∃ W,Hid (((w2.setCell ⟨g,0,none⟩ (.int .u64 29)).setCell ⟨g,1,none⟩ (.int .u64 55)).drew=W):=⟨_,rfl⟩
 rw [hw3.out]
 have hgl2:g < w2.heap.size:=HG2.out.lt rfl
 have hkl2:k < w2.heap.size:=HK2.out.lt rfl
 have hxl2:w1.heap.size < w2.heap.size:=HX2.out.lt rfl
 have HG3:OwnL w3 g (zb2 .u64 awakeH.words):=by rw [<-hw3.out];exact ((HG2.out.set 0 _ (by decide)).set 1 _ (by decide)).keep (Below.drew (Below.refl _ _)) (by simp [World.setCell];omega)
 have HK3:OwnL w3 k (zc4 awakeH.pages):=by rw [<-hw3.out];exact ((HK2.out.other _ _ hgk).other _ _ hgk).keep (Below.drew (Below.refl _ _)) (by simp [World.setCell];omega)
 have HX3:OwnL w3 w1.heap.size [.int .i64 16,.int .i64 8,.slice (some ⟨g,0,none⟩) 128 128,.slice (some ⟨k,0,none⟩) 8 8,.int .i64 0,.int .i64 (-1)]:=by rw [<-hw3.out];exact ((HX2.out.other _ _ hg1).other _ _ hg1).keep (Below.drew (Below.refl _ _)) (by simp [World.setCell];omega)
 have hb3:Below w.heap.size w w3:=by rw [<-hw3.out];exact ((hb2.out.setCell (p:=⟨g,0,none⟩) hg _).setCell (p:=⟨g,1,none⟩) hg _).drew
 have hs3:SRow w3 .u64 (some ⟨g,0,none⟩) 128 128 awakeH.words:=HG3.srow (by decide)
 have hr3:PRow w3 (some ⟨k,0,none⟩) 8 8 awakeH.pages:=HK3.prow (by decide)
 have hwb:WB awakeH.words:=by
  intro x hx
  have h3:x=29\/x=55\/x=0:=by simp [awakeH] at hx;omega
  omega
 have hget:=qq (fun w' (hb:Below w3.heap.size w3 w')=>pget_any awakeH _ _ _ _ _ _ 4096 w' (hs3.keep hb) (PRow.keep hr3 hb) hwb (by decide) (by decide))
 have hfld:=qq (fun w' (hb:Below w3.heap.size w3 w')=>pfield_any awakeH _ _ _ _ _ _ 4096 0 w' (hs3.keep hb) (PRow.keep hr3 hb) hwb (by decide) (by decide))
 rw [awake_get.1,awake_get.2] at hget
 rw [awake_field.1,awake_field.2] at hfld
 have HX:=qq HX3
 have HB:=qq hb3
 have x0:=HX3.cell 0 _ rfl
 have x1:=HX3.cell 1 _ rfl
 have y2:=HX3.cell 2 _ rfl
 have x3:=HX3.cell 3 _ rfl
 have x4:=HX3.cell 4 _ rfl
 have x5:=HX3.cell 5 _ rfl
 clear hw3 HG3 HK3 HX3 hb3 hs3 hr3 hb2 HK2 HG2 HX2 x2 g0 gg1 e0 e1
 go_wp2_with fail
 refine (hget.out _ (Below.refl _ _)).mono ?_
 rintro e w4 ⟨rfl,hb4⟩
 have HX4:=qq (HX.out.keep hb4 (HX.out.lt rfl))
 have HB4:=qq (za3 HB.out hb4)
 have y0:=HX4.out.cell 0 _ rfl
 have y1:=HX4.out.cell 1 _ rfl
 have y2:=HX4.out.cell 2 _ rfl
 have y3:=HX4.out.cell 3 _ rfl
 have y4:=HX4.out.cell 4 _ rfl
 have y5:=HX4.out.cell 5 _ rfl
 have hf4:=qq (fun w' hb=>hfld.out w' (za3 hb4 hb))
 have l4:w1.heap.size < w4.heap.size:=HX4.out.lt rfl
 clear x0 x1 x3 x4 x5 hget hfld HX HB hb4
 go_wp2_with fail
 refine (hf4.out _ za1).mono ?_
 rintro e w5 ⟨rfl,hb5⟩
 have n0:=za5 hb5 0 (v:=.int .i64 3) rfl
 have n1:=za5 hb5 1 (v:=.int .i64 1) rfl
 have HB5:=qq (za3 HB4.out (za3 za1 hb5))
 clear HX4 HB4 hf4 hb5 y0 y1 y2 y3 y4 y5
 go_wp2
 go_ret
 exact ⟨rfl,HB5.out⟩
end Go.Proofs.YtipjdbhocjpmdaaGreat
