import Derived.Test.YtipjdbhocjpmdaaGreatQ01
import Derived.Test.YtipjdbhocjpmdaaGreatQ10
import Derived.Test.YtipjdbhocjpmdaaGreatQ13
import Derived.Test.YtipjdbhocjpmdaaGreatQ15
import Derived.Test.YtipjdbhocjpmdaaGreatQ19
import Derived.Test.YtipjdbhocjpmdaaGreatQ32
import Derived.Test.YtipjdbhocjpmdaaGreatQ36
import Derived.Test.YtipjdbhocjpmdaaGreatQ37
set_option linter.unusedSimpArgs false
set_option linter.unusedVariables false
set_option maxRecDepth 100000
set_option maxHeartbeats 12800000
namespace Go.Proofs.YtipjdbhocjpmdaaGreat
open Go.RowKit
theorem rd1_any (b:Nat) (p:Option Addr) (n c:Nat) (xs:List Int) (a:Int) (w:World) (hr:SRow w .u64 p n c xs) (ha:0<=a) (ha2:a < 18446744073709551616) (h2:w.cell? ⟨b,2,none⟩=some (.slice p n c)) :
 Calls Tryz.prog 97 #[.int .u64 a,.pointer (some ⟨b,0,none⟩)] w fun e w'=>e = .returned (.tuple #[.int .u64 (ze1 xs a),.int .i64 (loadE xs a)])/\w=w':=by
 have hl:=qq (load_any p n c xs a w hr ha ha2)
 clear hr
 go_enter Tryz.func97,Tryz.ntmps97
 go_wp2_with fail
 refine hl.out.mono ?_
 rintro e w' ⟨rfl,rfl⟩
 clear hl
 go_wp2
 go_ret2
 exact ⟨rfl,rfl⟩
def obFits (k u o s:Int):Bool:=if k=1 then decide (o+s<=u) else if k=2 then decide (o=0/\s=u) else false
theorem fits_any (k sp u pn o s:Int) (w:World) (ho:0<=o) (ho2:o<=100000) (hs:0<=s) (hs2:s<=100000) :
 Calls Tryz.prog 68 #[.agg #[.int .i64 k,.int .i64 sp,.int .i64 u,.int .i64 pn],.int .i64 o,.int .i64 s] w fun e w'=>e = .returned (.bool (obFits k u o s))/\Below w.heap.size w w':=by
 by_cases k1:k=1
 · subst k1
   rw [show obFits 1 u o s=decide (o+s<=u) from by unfold obFits;rw [if_pos rfl]]
   go_enter Tryz.func68,Tryz.ntmps68
   go_wp2
   go_ret
   exact ⟨rfl,za1⟩
 · by_cases k2:k=2
   · subst k2
     rw [show obFits 2 u o s=decide (o=0/\s=u) from by unfold obFits;rw [if_neg (by decide),if_pos rfl]]
     clear k1
     by_cases h:o=0
     · subst h
       rw [show decide ((0:Int)=0/\s=u)=decide (s=u) from by simp]
       go_enter Tryz.func68,Tryz.ntmps68
       go_wp2
       go_ret
       exact ⟨by rw [show decide (s=u)=(s == u) from by rw [Bool.eq_iff_iff];simp];rfl,za1⟩
     · rw [show decide (o=0/\s=u)=false from by simp [h]]
       go_enter Tryz.func68,Tryz.ntmps68
       go_wp2
       go_ret
       exact ⟨by simp,za1⟩
   · rw [show obFits k u o s=false from by unfold obFits;rw [if_neg k1,if_neg k2]]
     have e1:(k == 1)=false:=beq_eq_false_iff_ne.2 k1
     have e2:(k == 2)=false:=beq_eq_false_iff_ne.2 k2
     clear k1 k2
     go_enter Tryz.func68,Tryz.ntmps68
     go_wp2
     go_ret
     exact ⟨rfl,za1⟩
theorem pproper_is {pw np:Int} {p q:Option Addr} {n c m d:Nat} {sp bp:Int} {xs:List Int} {ps:List Pg} {b:Bool} (hb:ze8 pw np xs.length ps sp bp=b) (w:World) (hs:SRow w .u64 p n c xs) (hr:PRow w q m d ps) :
 Calls Tryz.prog 14 #[.agg #[.int .i64 pw,.int .i64 np,.slice p n c,.slice q m d,.int .i64 sp,.int .i64 bp]] w fun e w'=>e = .returned (.bool b)/\Below w.heap.size w w':=by
 subst hb;rw [<-properP_B];exact pproper_any pw np p q n c m d sp bp xs ps w hs hr
theorem pat_bad (h:Hp) (p q:Option Addr) (n c m d:Nat) (a:Int) (w:World) (hs:SRow w .u64 p n c h.words) (hr:PRow w q m d h.pages) (h1:okH h=false) :
 Calls Tryz.prog 25 #[.agg #[.int .i64 h.pw,.int .i64 h.np,.slice p n c,.slice q m d,.int .i64 h.space,.int .i64 h.bump],.int .u64 a] w fun e w'=>e = .returned (.tuple #[.agg #[.int .i64 0,.int .i64 0,.int .u32 0],.int .i64 1])/\Below w.heap.size w w':=by
 have hb0:Below w.heap.size w ((w.alloc (.cells #[.int .i64 h.pw,.int .i64 h.np,.slice p n c,.slice q m d,.int .i64 h.space,.int .i64 h.bump] 27)).alloc (.cells #[.int .i64 0,.int .i64 0,.int .u32 0] 54)):=za3 za1 za1
 have hp:=qq (pproper_is (show ze8 h.pw h.np h.words.length h.pages h.space h.bump=false from h1) _ (hs.keep hb0) (hr.keep hb0))
 have Ho:=qq (Own3.new (w.alloc (.cells #[.int .i64 h.pw,.int .i64 h.np,.slice p n c,.slice q m d,.int .i64 h.space,.int .i64 h.bump] 27)) (.int .i64 0) (.int .i64 0) (.int .u32 0) 54)
 have HB:=qq hb0
 clear hs hr h1 hb0
 go_enter Tryz.func25,Tryz.ntmps25
 go_wp2_with fail
 refine hp.out.mono ?_
 rintro e w1 ⟨rfl,hb1⟩
 have Ho1:=Ho.out.keep hb1
 simp only [World.size_alloc] at Ho1
 obtain ⟨d0,d1,d2,f0,f1,f2⟩:=Ho1
 have hw1:=za3 HB.out hb1
 clear hp Ho HB hb1
 go_wp2
 exact bodyPost_ret (v:=.tuple #[.agg #[.int .i64 0,.int .i64 0,.int .u32 0],.int .i64 1]) (by simp [results,Tryz.results25,go_sem,d0,d1,d2]) rfl ⟨rfl,zb9 hw1 (Nat.le_succ _)⟩
theorem pat_out (h:Hp) (p q:Option Addr) (n c m d:Nat) (a:Int) (w:World) (hs:SRow w .u64 p n c h.words) (hr:PRow w q m d h.pages) (ha:0<=a) (ha2:a < 18446744073709551616) (h1:okH h=true) (h2:¬ofE h.pw h.np a=0) :
 Calls Tryz.prog 25 #[.agg #[.int .i64 h.pw,.int .i64 h.np,.slice p n c,.slice q m d,.int .i64 h.space,.int .i64 h.bump],.int .u64 a] w fun e w'=>e = .returned (.tuple #[.agg #[.int .i64 0,.int .i64 0,.int .u32 0],.int .i64 2])/\Below w.heap.size w w':=by
 have hb0:Below w.heap.size w ((w.alloc (.cells #[.int .i64 h.pw,.int .i64 h.np,.slice p n c,.slice q m d,.int .i64 h.space,.int .i64 h.bump] 27)).alloc (.cells #[.int .i64 0,.int .i64 0,.int .u32 0] 54)):=za3 za1 za1
 have hp:=qq (pproper_is (show ze8 h.pw h.np h.words.length h.pages h.space h.bump=true from h1) _ (hs.keep hb0) (hr.keep hb0))
 have Ho:=qq (Own3.new (w.alloc (.cells #[.int .i64 h.pw,.int .i64 h.np,.slice p n c,.slice q m d,.int .i64 h.space,.int .i64 h.bump] 27)) (.int .i64 0) (.int .i64 0) (.int .u32 0) 54)
 have HB:=qq hb0
 have hE2:ofE h.pw h.np a=2:=by
  cases hi:inAr h.pw h.np a with
  | true=>exact absurd (of_ok (zc2 h1).1 hi).2.2 h2
  | false=>exact (of_out (zc2 h1).1 hi).2.2
 have hof:=qq (fun w=>of_any h.pw h.np a w ha ha2)
 rw [hE2] at hof
 clear hs hr h1 hb0 h2 hE2
 go_enter Tryz.func25,Tryz.ntmps25
 go_wp2_with fail
 refine hp.out.mono ?_
 rintro e w1 ⟨rfl,hb1⟩
 have x0:w1.cell? ⟨w.heap.size,0,none⟩=some (.int .i64 h.pw):=by rw [hb1.cell (by simp;omega)];simp
 have x1:w1.cell? ⟨w.heap.size,1,none⟩=some (.int .i64 h.np):=by rw [hb1.cell (by simp;omega)];simp
 have hw1:=za3 HB.out hb1
 have Ho1:=qq (Ho.out.keep hb1)
 clear hp Ho HB hb1
 go_wp2_with fail
 refine (hof.out _).mono ?_
 rintro e w2 ⟨rfl,hb2⟩
 have Ho2:=Ho1.out.keep hb2
 simp only [World.size_alloc] at Ho2
 obtain ⟨d0,d1,d2,f0,f1,f2⟩:=Ho2
 have hw2:=za3 hw1 hb2
 clear hof Ho1 hb2 hw1
 go_wp2
 exact bodyPost_ret (v:=.tuple #[.agg #[.int .i64 0,.int .i64 0,.int .u32 0],.int .i64 2]) (by simp [results,Tryz.results25,go_sem,d0,d1,d2]) rfl ⟨rfl,zb9 hw2 (Nat.le_succ _)⟩
theorem reader_any (x0 x1 x2 x3 x4 x5:Value) (w:World) :
 Calls Tryz.prog 66 #[.agg #[x0,x1,x2,x3,x4,x5]] w fun e w'=>e = .returned (.func (.func 97) #[] #[.pointer (some ⟨w.heap.size,0,none⟩)])/\w'=w.alloc (.cells #[x0,x1,x2,x3,x4,x5] 27):=by
 go_enter Tryz.func66,Tryz.ntmps66
 go_wp2
 go_ret
 exact ⟨rfl,rfl⟩
theorem pat_word_no (h:Hp) (p:Option Addr) (b off n c m d:Nat) (a:Int) (w:World) (hs:SRow w .u64 p n c h.words) (hr:PRow w (some ⟨b,off,none⟩) m d h.pages) (ha:0<=a) (ha2:a < 18446744073709551616) (h1:okH h=true) (h2:ofE h.pw h.np a=0) (i j y:Nat) (xk xs xu xp:Int) (hi:ofI h.pw h.np a=i) (hj:ofK h.pw h.np a=j) (hj9:(j:Int)<=100) (him:i < m) (hx:h.pages[i]?=some ⟨xk,xs,xu,xp⟩) (hy:y < 18446744073709551616) (hl1:ze1 h.words a=y) (hl2:loadE h.words a=0) (ho:okD y=false) :
 Calls Tryz.prog 25 #[.agg #[.int .i64 h.pw,.int .i64 h.np,.slice p n c,.slice (some ⟨b,off,none⟩) m d,.int .i64 h.space,.int .i64 h.bump],.int .u64 a] w fun e w'=>e = .returned (.tuple #[.agg #[.int .i64 0,.int .i64 0,.int .u32 0],.int .i64 19])/\Below w.heap.size w w':=by
 have hb0:Below w.heap.size w ((w.alloc (.cells #[.int .i64 h.pw,.int .i64 h.np,.slice p n c,.slice (some ⟨b,off,none⟩) m d,.int .i64 h.space,.int .i64 h.bump] 27)).alloc (.cells #[.int .i64 0,.int .i64 0,.int .u32 0] 54)):=za3 za1 za1
 have hp:=qq (pproper_is (show ze8 h.pw h.np h.words.length h.pages h.space h.bump=true from h1) _ (hs.keep hb0) (hr.keep hb0))
 have Ho:=qq (Own3.new (w.alloc (.cells #[.int .i64 h.pw,.int .i64 h.np,.slice p n c,.slice (some ⟨b,off,none⟩) m d,.int .i64 h.space,.int .i64 h.bump] 27)) (.int .i64 0) (.int .i64 0) (.int .u32 0) 54)
 have HB:=qq hb0
 have hof:=qq (fun w=>of_any h.pw h.np a w ha ha2)
 rw [hi,hj,h2] at hof
 obtain ⟨x',b',off',hx',e',z0,z1,z2,z3⟩:=hr.at_ (k:=i) him
 obtain rfl:⟨xk,xs,xu,xp⟩=x':=by rw [hx] at hx';exact Option.some.inj hx'
 obtain ⟨rfl,rfl⟩:b=b'/\off=off':=by injection e' with e';injection e' with e1 e2;exact ⟨e1,e2⟩
 simp only at z0 z1 z2 z3
 have hrd:=qq (fun w' k (hb:Below w.heap.size w w') hc=>rd1_any k p n c h.words a w' (hs.keep hb) ha ha2 hc)
 rw [hl1,hl2] at hrd
 have Z0:=qq z0;have Z1:=qq z1;have Z2:=qq z2;have Z3:=qq z3
 have hdc:=qq (fun w=>decode_any y w hy)
 have hmm:(i:Int) < m:=by omega
 clear e' hx' hx hr h1 h2 hi hj z0 z1 z2 z3 hb0 hl1 hl2 hs
 rw [ho] at hdc
 go_enter Tryz.func25,Tryz.ntmps25
 go_wp2_with fail
 refine hp.out.mono ?_
 rintro e w1 ⟨rfl,hb1⟩
 have x0:w1.cell? ⟨w.heap.size,0,none⟩=some (.int .i64 h.pw):=by rw [hb1.cell (by simp;omega)];simp
 have x1:w1.cell? ⟨w.heap.size,1,none⟩=some (.int .i64 h.np):=by rw [hb1.cell (by simp;omega)];simp
 have x2:w1.cell? ⟨w.heap.size,2,none⟩=some (.slice p n c):=by rw [hb1.cell (by simp;omega)];simp
 have x3:w1.cell? ⟨w.heap.size,3,none⟩=some (.slice (some ⟨b,off,none⟩) m d):=by rw [hb1.cell (by simp;omega)];simp
 have x4:w1.cell? ⟨w.heap.size,4,none⟩=some (.int .i64 h.space):=by rw [hb1.cell (by simp;omega)];simp
 have x5:w1.cell? ⟨w.heap.size,5,none⟩=some (.int .i64 h.bump):=by rw [hb1.cell (by simp;omega)];simp
 have hw1:=qq (za3 HB.out hb1)
 have Ho1:=qq (Ho.out.keep hb1)
 clear hp Ho HB hb1
 go_wp2_with fail
 refine (hof.out _).mono ?_
 rintro e w2 ⟨rfl,hb2⟩
 have y0:=za0 hb2 x0;have y1:=za0 hb2 x1;have y2:=za0 hb2 x2;have y3:=za0 hb2 x3;have y4:=za0 hb2 x4;have y5:=za0 hb2 x5
 have hw2:=qq (za3 hw1.out hb2)
 have Ho2:=qq (Ho1.out.keep hb2)
 clear hof Ho1 hb2 hw1 x0 x1 x2 x3 x4 x5
 go_wp2_with fail
 refine (reader_any _ _ _ _ _ _ _).mono ?_
 rintro e w3 ⟨rfl,hw3e⟩
 have hb3:Below w2.heap.size w2 w3:=by rw [hw3e];exact za1
 have hc3:w3.cell? ⟨w2.heap.size,2,none⟩=some (.slice p n c):=by rw [hw3e];simp
 have hw3:=qq (za3 hw2.out hb3)
 have Ho3:=qq (Ho2.out.keep hb3)
 have x3:=za0 hb3 y3
 clear hw3e hb3 hw2 Ho2 y0 y1 y2 y3 y4 y5
 go_wp2_with fail
 refine (hrd.out _ _ hw3.out hc3).mono ?_
 rintro e w4 ⟨rfl,rfl⟩
 clear hrd hc3
 go_wp2_with fail
 refine (hdc.out _).mono ?_
 rintro e w4 ⟨rfl,hb4⟩
 have y3:=za0 hb4 x3
 have hw4:=qq (za3 hw3.out hb4)
 have Ho4:=qq (Ho3.out.keep hb4)
 clear hdc hb4 hw3 Ho3 x3
 go_upto_region 1 with fail
 refine wp_region_held_drew (S:=fun _=>True) (by kernel_rfl) trivial (fun hHeld=>?_)
 refine draw_t 0 44 hHeld ?_
 refine draw_t 1 45 hHeld ?_
 refine draw_t 2 46 hHeld ?_
 refine draw_s 3 47 hHeld ?_
 refine draw_s 4 48 hHeld ?_
 refine draw_s 5 49 hHeld ?_
 refine draw_s 6 50 hHeld ?_
 refine draw_s 7 51 hHeld ?_
 refine draw_s 8 52 hHeld ?_
 refine draw_s 9 53 hHeld ?_
 refine draw_s 10 54 hHeld ?_
 refine draw_s 11 55 hHeld ?_
 refine draw_s 12 56 hHeld ?_
 refine draw_t 13 57 hHeld ?_
 refine wpAnyH_done (by kernel_rfl) ?_ _
 have Ho5:=Ho4.out.keep (za1 (o:=.cells #[.int .i64 (decK y),.int .i64 (decN y),.int .u32 (decM y)] 54))
 simp only [World.size_alloc] at Ho5
 have hw5:=za3 hw4.out (za1 (o:=.cells #[.int .i64 (decK y),.int .i64 (decN y),.int .u32 (decM y)] 54))
 obtain ⟨d0,d1,d2,f0,f1,f2⟩:=Ho5
 clear Ho4 hw4
 go_wp2
 exact bodyPost_ret (v:=.tuple #[.agg #[.int .i64 0,.int .i64 0,.int .u32 0],.int .i64 19]) (by simp [results,Tryz.results25,go_sem,d0,d1,d2]) rfl ⟨rfl,zb9 (hw5.drew) (Nat.le_succ _)⟩
theorem held_at {w0 w w':World} {a0 a1 a2 a3 a4 a5 a6 a7:Addr} {x0 x1 x2 x3 x4 x5 x6 x7:Value} (h:w.cell? a0=some x0/\w.cell? a1=some x1/\w.cell? a2=some x2/\w.cell? a3=some x3/\w.cell? a4=some x4/\w.cell? a5=some x5/\w.cell? a6=some x6/\w.cell? a7=some x7/\Below w0.heap.size w0 w) (hb:Below w.heap.size w w') :
 w'.cell? a0=some x0/\w'.cell? a1=some x1/\w'.cell? a2=some x2/\w'.cell? a3=some x3/\w'.cell? a4=some x4/\w'.cell? a5=some x5/\w'.cell? a6=some x6/\w'.cell? a7=some x7/\Below w0.heap.size w0 w' :=
 ⟨za0 hb h.1,za0 hb h.2.1,za0 hb h.2.2.1,za0 hb h.2.2.2.1,za0 hb h.2.2.2.2.1,za0 hb h.2.2.2.2.2.1,za0 hb h.2.2.2.2.2.2.1,za0 hb h.2.2.2.2.2.2.2.1,za3 h.2.2.2.2.2.2.2.2 hb⟩
theorem pat_word_is (h:Hp) (p:Option Addr) (b off n c m d:Nat) (a:Int) (w:World) (hs:SRow w .u64 p n c h.words) (hr:PRow w (some ⟨b,off,none⟩) m d h.pages) (ha:0<=a) (ha2:a < 18446744073709551616) (h1:okH h=true) (h2:ofE h.pw h.np a=0) (i j y:Nat) (xk xs xu xp:Int) (hi:ofI h.pw h.np a=i) (hj:ofK h.pw h.np a=j) (hj9:(j:Int)<=100) (him:i < m) (hx:h.pages[i]?=some ⟨xk,xs,xu,xp⟩) (hy:y < 18446744073709551616) (hl1:ze1 h.words a=y) (hl2:loadE h.words a=0) (ho:okD y=true) (hxu:xk=1\/xk=2->xu<=1000) (B:Bool) (hB:obFits xk xu j (dN y+1)=B) :
 Calls Tryz.prog 25 #[.agg #[.int .i64 h.pw,.int .i64 h.np,.slice p n c,.slice (some ⟨b,off,none⟩) m d,.int .i64 h.space,.int .i64 h.bump],.int .u64 a] w fun e w'=>e = .returned (if B then (.tuple #[.agg #[.int .i64 (dK y),.int .i64 (dN y),.int .u32 (dM y)],.int .i64 0]) else (.tuple #[.agg #[.int .i64 0,.int .i64 0,.int .u32 0],.int .i64 19]))/\Below w.heap.size w w':=by
 have hb0:Below w.heap.size w ((w.alloc (.cells #[.int .i64 h.pw,.int .i64 h.np,.slice p n c,.slice (some ⟨b,off,none⟩) m d,.int .i64 h.space,.int .i64 h.bump] 27)).alloc (.cells #[.int .i64 0,.int .i64 0,.int .u32 0] 54)):=za3 za1 za1
 have hp:=qq (pproper_is (show ze8 h.pw h.np h.words.length h.pages h.space h.bump=true from h1) _ (hs.keep hb0) (hr.keep hb0))
 have Ho:=qq (Own3.new (w.alloc (.cells #[.int .i64 h.pw,.int .i64 h.np,.slice p n c,.slice (some ⟨b,off,none⟩) m d,.int .i64 h.space,.int .i64 h.bump] 27)) (.int .i64 0) (.int .i64 0) (.int .u32 0) 54)
 have HB:=qq hb0
 have hof:=qq (fun w=>of_any h.pw h.np a w ha ha2)
 rw [hi,hj,h2] at hof
 obtain ⟨x',b',off',hx',e',z0,z1,z2,z3⟩:=hr.at_ (k:=i) him
 obtain rfl:⟨xk,xs,xu,xp⟩=x':=by rw [hx] at hx';exact Option.some.inj hx'
 obtain ⟨rfl,rfl⟩:b=b'/\off=off':=by injection e' with e';injection e' with e1 e2;exact ⟨e1,e2⟩
 simp only at z0 z1 z2 z3
 have hrd:=qq (fun w' k (hb:Below w.heap.size w w') hc=>rd1_any k p n c h.words a w' (hs.keep hb) ha ha2 hc)
 rw [hl1,hl2] at hrd
 have Z0:=qq z0;have Z1:=qq z1;have Z2:=qq z2;have Z3:=qq z3
 have hdc:=qq (fun w=>decode_any y w hy)
 have hmm:(i:Int) < m:=by omega
 clear e' hx' hx hr h1 h2 hi hj z0 z1 z2 z3 hb0 hl1 hl2 hs
 obtain ⟨e1,e2,e3⟩:=dec_ok ho
 rw [e1,e2,e3,ho] at hdc
 have hv:=(zr2 ho).2.2
 have hsz:=qq (fun w=>hsize_any (dK y) (dN y) (dM y) w (by unfold dM;omega) (by unfold dM;omega))
 rw [zu2 hv] at hsz
 have hn1:dN y<=255:=by have:=(ze3 hv).2.2.2.1;omega
 have hft:=qq (fun w=>fits_any xk xs xu xp j (dN y+1) w (by omega) (by omega) (by omega) (by omega))
 rw [hB] at hft
 obtain ⟨K,hK⟩:∃ K:Nat,Hid (dK y=K):=⟨_,rfl⟩
 obtain ⟨N,hN⟩:∃ N:Nat,Hid (dN y=N):=⟨_,rfl⟩
 obtain ⟨M,hM⟩:∃ M:Nat,Hid (dM y=M):=⟨_,rfl⟩
 rw [hK.out,hN.out,hM.out] at hdc hsz
 rw [hN.out] at hft
 rw [hK.out,hN.out,hM.out]
 clear e1 e2 e3 hv hn1 hB ho hxu hK hN hM
 go_enter Tryz.func25,Tryz.ntmps25
 go_wp2_with fail
 refine hp.out.mono ?_
 rintro e w1 ⟨rfl,hb1⟩
 have x0:w1.cell? ⟨w.heap.size,0,none⟩=some (.int .i64 h.pw):=by rw [hb1.cell (by simp;omega)];simp
 have x1:w1.cell? ⟨w.heap.size,1,none⟩=some (.int .i64 h.np):=by rw [hb1.cell (by simp;omega)];simp
 have x2:w1.cell? ⟨w.heap.size,2,none⟩=some (.slice p n c):=by rw [hb1.cell (by simp;omega)];simp
 have x3:w1.cell? ⟨w.heap.size,3,none⟩=some (.slice (some ⟨b,off,none⟩) m d):=by rw [hb1.cell (by simp;omega)];simp
 have x4:w1.cell? ⟨w.heap.size,4,none⟩=some (.int .i64 h.space):=by rw [hb1.cell (by simp;omega)];simp
 have x5:w1.cell? ⟨w.heap.size,5,none⟩=some (.int .i64 h.bump):=by rw [hb1.cell (by simp;omega)];simp
 have hw1:=qq (za3 HB.out hb1)
 have Ho1:=qq (Ho.out.keep hb1)
 clear hp Ho HB hb1
 go_wp2_with fail
 refine (hof.out _).mono ?_
 rintro e w2 ⟨rfl,hb2⟩
 have y0:=za0 hb2 x0;have y1:=za0 hb2 x1;have y2:=za0 hb2 x2;have y3:=za0 hb2 x3;have y4:=za0 hb2 x4;have y5:=za0 hb2 x5
 have hw2:=qq (za3 hw1.out hb2)
 have Ho2:=qq (Ho1.out.keep hb2)
 clear hof Ho1 hb2 hw1 x0 x1 x2 x3 x4 x5
 go_wp2_with fail
 refine (reader_any _ _ _ _ _ _ _).mono ?_
 rintro e w3 ⟨rfl,hw3e⟩
 have hb3:Below w2.heap.size w2 w3:=by rw [hw3e];exact za1
 have hc3:w3.cell? ⟨w2.heap.size,2,none⟩=some (.slice p n c):=by rw [hw3e];simp
 have hw3:=qq (za3 hw2.out hb3)
 have Ho3:=qq (Ho2.out.keep hb3)
 have x3:=za0 hb3 y3
 clear hw3e hb3 hw2 Ho2 y0 y1 y2 y3 y4 y5
 go_wp2_with fail
 refine (hrd.out _ _ hw3.out hc3).mono ?_
 rintro e w4 ⟨rfl,rfl⟩
 clear hrd hc3
 go_wp2_with fail
 refine (hdc.out _).mono ?_
 rintro e w4 ⟨rfl,hb4⟩
 have y3:=za0 hb4 x3
 have hw4:=qq (za3 hw3.out hb4)
 have Ho4:=qq (Ho3.out.keep hb4)
 clear hdc hb4 hw3 Ho3 x3
 go_upto_region 1 with fail
 obtain ⟨wB,hwB⟩:∃ W,Hid (w4.alloc (.cells #[.int .i64 (K:Int),.int .i64 (N:Int),.int .u32 (M:Int)] 54)=W):=⟨_,rfl⟩
 have hbB:Below w4.heap.size w4 wB:=by rw [<-hwB.out];exact za1
 have HN:Own3 wB w4.heap.size (.int .i64 K) (.int .i64 N) (.int .u32 M):=by rw [<-hwB.out];exact Own3.new _ _ _ _ _
 rw [hwB.out]
 have hw5:=qq (za3 hw4.out hbB)
 have Ho5:=qq (Ho4.out.keep hbB)
 have c3:=za0 hbB y3
 have z0:=za0 hw5.out Z0.out
 have z1:=za0 hw5.out Z1.out
 have z2:=za0 hw5.out Z2.out
 have z3:=za0 hw5.out Z3.out
 obtain ⟨n0,n1,n2,-,-,-⟩:=HN
 clear hwB hbB Ho4 hw4 y3 Z0 Z1 Z2 Z3
 go_region_held3 (fun W=>W.cell? ⟨w.heap.size,3,none⟩=some (.slice (some ⟨b,off,none⟩) m d)/\W.cell? ⟨b,off+i*4,none⟩=some (.int .i64 xk)/\W.cell? ⟨b,off+i*4+1,none⟩=some (.int .i64 xs)/\W.cell? ⟨b,off+i*4+2,none⟩=some (.int .i64 xu)/\W.cell? ⟨b,off+i*4+3,none⟩=some (.int .i64 xp)/\W.cell? ⟨w4.heap.size,0,none⟩=some (.int .i64 K)/\W.cell? ⟨w4.heap.size,1,none⟩=some (.int .i64 N)/\W.cell? ⟨w4.heap.size,2,none⟩=some (.int .u32 M)/\Below wB.heap.size wB W)
  (first
   | exact ⟨c3,z0,z1,z2,z3,n0,n1,n2,(Below.refl _ _).drew⟩
   | (exact held_at ‹_› hbq))
  (first
   | (go_at_call 69;refine (hsz.out _).mono ?_;rintro e w' ⟨rfl,hbq⟩)
   | (go_at_call 68;refine (hft.out _).mono ?_;rintro e w' ⟨rfl,hbq⟩))
 rename_i hH
 obtain ⟨-,-,-,-,-,k0,k1,k2,hbz⟩:=hH
 have hw6:=za3 hw5.out hbz
 have Ho6:=Ho5.out.keep hbz
 simp only [World.size_alloc] at Ho6
 obtain ⟨d0,d1,d2,f0,f1,f2⟩:=Ho6
 clear hw5 Ho5 hbz c3 z0 z1 z2 z3 n0 n1 n2 hsz hft
 cases B
 · go_wp2
   exact bodyPost_ret (v:=.tuple #[.agg #[.int .i64 0,.int .i64 0,.int .u32 0],.int .i64 19]) (by simp [results,Tryz.results25,go_sem,d0,d1,d2]) rfl ⟨rfl,zb9 hw6 (Nat.le_succ _)⟩
 · go_wp2
   exact bodyPost_ret (v:=.tuple #[.agg #[.int .i64 K,.int .i64 N,.int .u32 M],.int .i64 0]) (by simp [results,Tryz.results25,go_sem,d0,d1,d2]) rfl ⟨rfl,zb9 hw6 (Nat.le_succ _)⟩
theorem atB_ob {h:Hp} {a:Int} {i j:Nat} {x:Pg} (hpo:zv0 h a=x) (hj:ofK h.pw h.np a=j) (ho:okD (zg4 h a)=true):atB h a=obFits x.kind x.used j (dN (zg4 h a)+1):=by
 unfold atB obFits
 rw [hpo,hj,ho]
 by_cases k1:x.kind=1
 · rw [if_pos k1,if_pos k1,k1]
   by_cases hu:(j:Int)+(dN (zg4 h a)+1)<=x.used
   · have:(j:Int) < x.used:=by omega
     simp [hu,this]
   · simp [hu]
 · rw [if_neg k1,if_neg k1]
   by_cases k2:x.kind=2
   · rw [if_pos k2,k2]
     by_cases hu:(j:Int)=0/\(dN (zg4 h a):Int)+1=x.used
     · have:(j:Int) < x.used:=by omega
       simp [hu,this];omega
     · simp [hu];intro a b;omega
   · rw [if_neg k2];simp [k1,k2]
theorem pat_any (h:Hp) (p q:Option Addr) (n c m d:Nat) (a:Int) (w:World) (hs:SRow w .u64 p n c h.words) (hr:PRow w q m d h.pages) (hw:WB h.words) (ha:0<=a) (ha2:a < 18446744073709551616) :
 Calls Tryz.prog 25 #[.agg #[.int .i64 h.pw,.int .i64 h.np,.slice p n c,.slice q m d,.int .i64 h.space,.int .i64 h.bump],.int .u64 a] w fun e w'=>e = .returned (.tuple #[.agg #[.int .i64 (atH h a).k,.int .i64 (atH h a).n,.int .u32 (atH h a).m],.int .i64 (atE h a)])/\Below w.heap.size w w':=by
 cases h1:okH h
 · obtain ⟨e1,e2⟩:=atE_bad (a:=a) h1
   rw [e1,e2]
   exact pat_bad h p q n c m d a w hs hr h1
 · by_cases h2:ofE h.pw h.np a=0
   · obtain ⟨hin,⟨i,j,hi,hj,hil,hjl,_⟩,_⟩:=of_in h1 h2
     obtain ⟨hl1,hl2,hy⟩:=word_of hw h1 h2
     have hlen:=hr.len
     obtain ⟨x,b,off,hx,rfl,_⟩:=hr.at_ (k:=i) (by omega)
     have hpo:zv0 h a=x:=by unfold zv0;rw [hi,Int.toNat_natCast];exact zc6 hx
     have hj9:(j:Int)<=100:=by have:=(zb1 (zc2 h1).1).2.1;omega
     have hmem:=zn2 _ _ _ _ (zc2 h1).2.2.2.2.2.2 x (List.mem_of_getElem? hx)
     have hu9:(x.kind=1\/x.kind=2)->x.used<=1000:=by
      rintro (k | k)
      · have:=hmem.2.2.2.2.2.1 k;have:=(zb1 (zc2 h1).1).2.1;omega
      · have hn:=hmem.2.2.2.2.2.2.1 k
        have:=(zb1 (zc2 h1).1).2.1
        by_cases hu1:1<=x.used
        · rw [zx2 (zc2 h1).1 hu1] at hn
          unfold zl2 at hn
          repeat (first | omega | split at hn)
        · omega
     cases ho:okD (zg4 h a)
     · have hB:atB h a=false:=by unfold atB;rw [hpo,hj,ho];simp
       obtain ⟨e1,e2⟩:=atE_no h1 h2 hB
       rw [e1,e2]
       exact pat_word_no h p b off n c m d a w hs hr ha ha2 h1 h2 i j (zg4 h a) x.kind x.space x.used x.pins hi hj hj9 (by omega) hx hy hl1 hl2 ho
     · have hB:=atB_ob (i:=i) hpo hj ho
       have key:=pat_word_is h p b off n c m d a w hs hr ha ha2 h1 h2 i j (zg4 h a) x.kind x.space x.used x.pins hi hj hj9 (by omega) hx hy hl1 hl2 ho hu9 (atB h a) hB.symm
       cases hb:atB h a
       · obtain ⟨e1,e2⟩:=atE_no h1 h2 hb
         rw [e1,e2]
         rw [hb] at key
         exact key
       · obtain ⟨e1,e2⟩:=atE_ok h1 h2 hb
         rw [e1,e2]
         rw [hb] at key
         exact key
   · obtain ⟨e1,e2⟩:=atE_out h1 h2
     rw [e1,e2]
     exact pat_out h p q n c m d a w hs hr ha ha2 h1 h2
theorem of_null {h:Hp} (h1:okH h=true):¬ofE h.pw h.np 0=0:=by
 have hi:inAr h.pw h.np 0=false:=decide_eq_false (by omega)
 rw [(of_out (zc2 h1).1 hi).2.2];decide
theorem atE_two {h:Hp} {a:Int} (h0:a=0) (e:atE h a=2):getE h a=5/\getH h a=Hd.zero:=by
 subst h0
 have h1:okH h=true:=by
  cases h1:okH h
  · rw [(atE_bad (a:=0) h1).1] at e;cases e
  · rfl
 exact getE_null h1
theorem getE_kind' {h:Hp} {a:Int} (h3:atE h a=0) (h4:(atH h a).k=0):getE h a=4/\getH h a=Hd.zero:=by
 have h1:okH h=true:=by
  cases h1:okH h
  · rw [(atE_bad (a:=a) h1).1] at h3;cases h3
  · rfl
 refine getE_kind h1 ?_ h3 h4
 intro h0;subst h0
 rw [(atE_out h1 (of_null h1)).1] at h3;cases h3
theorem getE_else {h:Hp} {a:Int} (h2:¬(atE h a=2/\a=0)) (h3:¬(atE h a=0/\(atH h a).k=0)):getE h a=atE h a/\getH h a=atH h a:=by
 cases h1:okH h
 · obtain ⟨e1,e2⟩:=getE_bad (a:=a) h1
   obtain ⟨e3,e4⟩:=atE_bad (a:=a) h1
   rw [e1,e2,e3,e4];exact ⟨rfl,rfl⟩
 · refine getE_at h1 ?_ h3
   intro h0;subst h0
   exact h2 ⟨(atE_out h1 (of_null h1)).1,rfl⟩
theorem pget_any (h:Hp) (p q:Option Addr) (n c m d:Nat) (a:Int) (w:World) (hs:SRow w .u64 p n c h.words) (hr:PRow w q m d h.pages) (hw:WB h.words) (ha:0<=a) (ha2:a < 18446744073709551616) :
 Calls Tryz.prog 27 #[.agg #[.int .i64 h.pw,.int .i64 h.np,.slice p n c,.slice q m d,.int .i64 h.space,.int .i64 h.bump],.int .u64 a] w fun e w'=>e = .returned (.tuple #[.agg #[.int .i64 (getH h a).k,.int .i64 (getH h a).n,.int .u32 (getH h a).m],.int .i64 (getE h a)])/\Below w.heap.size w w':=by
 have hb0:Below w.heap.size w ((w.alloc (.cells #[.int .i64 h.pw,.int .i64 h.np,.slice p n c,.slice q m d,.int .i64 h.space,.int .i64 h.bump] 27)).alloc (.cells #[.int .i64 0,.int .i64 0,.int .u32 0] 54)):=za3 za1 za1
 have Ho:=qq (Own3.new (w.alloc (.cells #[.int .i64 h.pw,.int .i64 h.np,.slice p n c,.slice q m d,.int .i64 h.space,.int .i64 h.bump] 27)) (.int .i64 0) (.int .i64 0) (.int .u32 0) 54)
 have HB:=qq hb0
 have hat:=qq (pat_any h p q n c m d a _ (hs.keep hb0) (hr.keep hb0) hw ha ha2)
 clear hs hr hb0
 obtain ⟨E,hE⟩:∃ E,Hid (atE h a=E):=⟨_,rfl⟩
 obtain ⟨⟨K,N,M⟩,hX⟩:∃ X,Hid (atH h a=X):=⟨_,rfl⟩
 rw [hE.out,hX.out] at hat
 simp only at hat
 by_cases h2:E=2/\a=0
 · obtain ⟨e1,e2⟩:=atE_two h2.2 (by rw [hE.out];exact h2.1)
   rw [e1,e2]
   clear e1 e2
   obtain ⟨rfl,rfl⟩:=h2
   go_enter Tryz.func27,Tryz.ntmps27
   go_wp2_with fail
   refine hat.out.mono ?_
   rintro e w2 ⟨rfl,hb2⟩
   have hw2:=za3 HB.out hb2
   have Ho2:=qq (Ho.out.keep hb2)
   have Ho3:=Ho2.out.keep (za1 (w:=w2) (o:=.cells #[.int .i64 K,.int .i64 N,.int .u32 M] 54))
   simp only [World.size_alloc] at Ho3
   have hw3:=za3 hw2 (za1 (o:=.cells #[.int .i64 K,.int .i64 N,.int .u32 M] 54))
   clear Ho Ho2 hb2 hat HB hw2
   obtain ⟨d0,d1,d2,f0,f1,f2⟩:=Ho3
   go_wp2
   exact bodyPost_ret (v:=.tuple #[.agg #[.int .i64 0,.int .i64 0,.int .u32 0],.int .i64 5]) (by simp [results,Tryz.results27,go_sem,d0,d1,d2]) rfl ⟨rfl,zb9 hw3 (Nat.le_succ _)⟩
 · by_cases hk:E=0/\K=0
   · obtain ⟨e1,e2⟩:=getE_kind' (h:=h) (a:=a) (by rw [hE.out];exact hk.1) (by rw [hX.out];exact hk.2)
     rw [e1,e2]
     obtain ⟨rfl,rfl⟩:=hk
     clear e1 e2 h2
     go_enter Tryz.func27,Tryz.ntmps27
     go_wp2_with fail
     refine hat.out.mono ?_
     rintro e w2 ⟨rfl,hb2⟩
     have hw2:=za3 HB.out hb2
     have Ho2:=qq (Ho.out.keep hb2)
     have Ho3:=Ho2.out.keep (za1 (w:=w2) (o:=.cells #[.int .i64 0,.int .i64 N,.int .u32 M] 54))
     simp only [World.size_alloc] at Ho3
     have hw3:=za3 hw2 (za1 (o:=.cells #[.int .i64 0,.int .i64 N,.int .u32 M] 54))
     clear Ho Ho2 hb2 hat HB hw2
     obtain ⟨d0,d1,d2,f0,f1,f2⟩:=Ho3
     go_wp2
     exact bodyPost_ret (v:=.tuple #[.agg #[.int .i64 0,.int .i64 0,.int .u32 0],.int .i64 4]) (by simp [results,Tryz.results27,go_sem,d0,d1,d2]) rfl ⟨rfl,zb9 hw3 (Nat.le_succ _)⟩
   · obtain ⟨e1,e2⟩:=getE_else (h:=h) (a:=a) (by rw [hE.out];exact h2) (by rw [hE.out,hX.out];exact hk)
     rw [e1,e2,hE.out,hX.out]
     clear e1 e2
     by_cases he:E=0
     · subst he
       have hk0:(K == 0)=false:=beq_eq_false_iff_ne.2 fun h=>hk ⟨rfl,h⟩
       clear hk h2
       go_enter Tryz.func27,Tryz.ntmps27
       go_wp2_with fail
       refine hat.out.mono ?_
       rintro e w2 ⟨rfl,hb2⟩
       have hw2:=za3 HB.out hb2
       have Ho2:=qq (Ho.out.keep hb2)
       have Ho3:=Ho2.out.keep (za1 (w:=w2) (o:=.cells #[.int .i64 K,.int .i64 N,.int .u32 M] 54))
       simp only [World.size_alloc] at Ho3
       have hw3:=za3 hw2 (za1 (o:=.cells #[.int .i64 K,.int .i64 N,.int .u32 M] 54))
       clear Ho Ho2 hb2 hat HB hw2
       obtain ⟨d0,d1,d2,f0,f1,f2⟩:=Ho3
       go_wp2
       exact bodyPost_ret (v:=.tuple #[.agg #[.int .i64 K,.int .i64 N,.int .u32 M],.int .i64 0]) (by simp [results,Tryz.results27,go_sem,d0,d1,d2]) rfl ⟨rfl,zb9 hw3 (Nat.le_succ _)⟩
     · have he0:(E == 0)=false:=beq_eq_false_iff_ne.2 he
       by_cases hE2:E=2
       · subst hE2
         have ha0:(a == 0)=false:=beq_eq_false_iff_ne.2 fun h=>h2 ⟨rfl,h⟩
         clear hk he h2
         go_enter Tryz.func27,Tryz.ntmps27
         go_wp2_with fail
         refine hat.out.mono ?_
         rintro e w2 ⟨rfl,hb2⟩
         have hw2:=za3 HB.out hb2
         have Ho2:=qq (Ho.out.keep hb2)
         have Ho3:=Ho2.out.keep (za1 (w:=w2) (o:=.cells #[.int .i64 K,.int .i64 N,.int .u32 M] 54))
         simp only [World.size_alloc] at Ho3
         have hw3:=za3 hw2 (za1 (o:=.cells #[.int .i64 K,.int .i64 N,.int .u32 M] 54))
         clear Ho Ho2 hb2 hat HB hw2
         obtain ⟨d0,d1,d2,f0,f1,f2⟩:=Ho3
         go_wp2
         exact bodyPost_ret (v:=.tuple #[.agg #[.int .i64 K,.int .i64 N,.int .u32 M],.int .i64 2]) (by simp [results,Tryz.results27,go_sem,d0,d1,d2]) rfl ⟨rfl,zb9 hw3 (Nat.le_succ _)⟩
       · have he2:(E == 2)=false:=beq_eq_false_iff_ne.2 hE2
         clear hk he h2 hE2
         go_enter Tryz.func27,Tryz.ntmps27
         go_wp2_with fail
         refine hat.out.mono ?_
         rintro e w2 ⟨rfl,hb2⟩
         have hw2:=za3 HB.out hb2
         have Ho2:=qq (Ho.out.keep hb2)
         have Ho3:=Ho2.out.keep (za1 (w:=w2) (o:=.cells #[.int .i64 K,.int .i64 N,.int .u32 M] 54))
         simp only [World.size_alloc] at Ho3
         have hw3:=za3 hw2 (za1 (o:=.cells #[.int .i64 K,.int .i64 N,.int .u32 M] 54))
         clear Ho Ho2 hb2 hat HB hw2
         obtain ⟨d0,d1,d2,f0,f1,f2⟩:=Ho3
         go_wp2
         exact bodyPost_ret (v:=.tuple #[.agg #[.int .i64 K,.int .i64 N,.int .u32 M],.int .i64 E]) (by simp [results,Tryz.results27,go_sem,d0,d1,d2]) rfl ⟨rfl,zb9 hw3 (Nat.le_succ _)⟩
def locE (h:Hp) (a i:Int):Int:=if getE h a=0 then (if i < 0\/(getH h a).n<=i then 2 else 0) else getE h a
def locV (h:Hp) (a i:Int):Int:=if locE h a i=0 then a+1+i else 0
theorem ploc_any (h:Hp) (p q:Option Addr) (n c m d:Nat) (a i:Int) (w:World) (hs:SRow w .u64 p n c h.words) (hr:PRow w q m d h.pages) (hw:WB h.words) (ha:0<=a) (ha2:a < 18446744073709551616) :
 Calls Tryz.prog 75 #[.agg #[.int .i64 h.pw,.int .i64 h.np,.slice p n c,.slice q m d,.int .i64 h.space,.int .i64 h.bump],.int .u64 a,.int .i64 i] w fun e w'=>e = .returned (.tuple #[.int .u64 (locV h a i),.int .i64 (locE h a i)])/\Below w.heap.size w w':=by
 have hg:=qq (fun w' (hb:Below w.heap.size w w')=>pget_any h p q n c m d a w' (hs.keep hb) (hr.keep hb) hw ha ha2)
 obtain ⟨E,hE⟩:∃ E,Hid (getE h a=E):=⟨_,rfl⟩
 obtain ⟨⟨K,N,M⟩,hX⟩:∃ X,Hid (getH h a=X):=⟨_,rfl⟩
 rw [hE.out,hX.out] at hg
 simp only at hg
 unfold locV locE
 rw [hE.out,hX.out]
 simp only
 by_cases he:E=0
 · have gi:=getE_in (h:=h) (a:=a) (by rw [hE.out];exact he)
   rw [hX.out] at gi
   obtain ⟨g1,-,-,-,-,ga,gb,gn0,gn1,-⟩:=gi
   simp only at gn0 gn1
   subst he
   by_cases hi0:i < 0
   · rw [if_pos rfl,if_pos (Or.inl hi0),if_neg (by decide)]
     clear hs hr g1
     go_enter Tryz.func75,Tryz.ntmps75
     go_wp2_with fail
     refine (hg.out _ za1).mono ?_
     rintro e w1 ⟨rfl,hb1⟩
     have x2:=za5 hb1 2 (v:=.slice p n c) rfl
     have hw1:=za3 (za4 hb1) (za1 (o:=.cells #[.int .i64 K,.int .i64 N,.int .u32 M] 54))
     have lh:w.heap.size < w1.heap.size:=zb4 x2
     clear hg hb1
     go_wp2
     go_ret2
     exact ⟨rfl,hw1⟩
   · by_cases hi1:N<=i
     · rw [if_pos rfl,if_pos (Or.inr hi1),if_neg (by decide)]
       clear hs hr g1
       go_enter Tryz.func75,Tryz.ntmps75
       go_wp2_with fail
       refine (hg.out _ za1).mono ?_
       rintro e w1 ⟨rfl,hb1⟩
       have x2:=za5 hb1 2 (v:=.slice p n c) rfl
       have hw1:=za3 (za4 hb1) (za1 (o:=.cells #[.int .i64 K,.int .i64 N,.int .u32 M] 54))
       have lh:w.heap.size < w1.heap.size:=zb4 x2
       clear hg hb1
       go_wp2
       go_ret2
       exact ⟨rfl,hw1⟩
     · have hnn:¬(i < 0\/N<=i):=by omega
       rw [if_pos rfl,if_neg hnn,if_pos rfl]
       clear hnn
       clear hs hr g1
       have hi2:0<=i:=by omega
       have hi3:i < N:=by omega
       clear hi0 hi1
       go_enter Tryz.func75,Tryz.ntmps75
       go_wp2_with fail
       refine (hg.out _ za1).mono ?_
       rintro e w1 ⟨rfl,hb1⟩
       have x2:=za5 hb1 2 (v:=.slice p n c) rfl
       have hw1:=za3 (za4 hb1) (za1 (o:=.cells #[.int .i64 K,.int .i64 N,.int .u32 M] 54))
       have lh:w.heap.size < w1.heap.size:=zb4 x2
       clear hg hb1
       go_wp2
       go_ret2
       exact ⟨rfl,hw1⟩
 · rw [if_neg he,if_neg he]
   have hne:(E != 0)=true:=bne_iff_ne.2 he
   clear he hs hr
   go_enter Tryz.func75,Tryz.ntmps75
   go_wp2_with fail
   refine (hg.out _ za1).mono ?_
   rintro e w1 ⟨rfl,hb1⟩
   have x2:=za5 hb1 2 (v:=.slice p n c) rfl
   have hw1:=za3 (za4 hb1) (za1 (o:=.cells #[.int .i64 K,.int .i64 N,.int .u32 M] 54))
   have lh:w.heap.size < w1.heap.size:=zb4 x2
   clear hg hb1
   go_wp2
   go_ret2
   exact ⟨rfl,hw1⟩
theorem loc_ok {h:Hp} {a i:Int} (e:locE h a i=0):locV h a i=a+1+i/\zo8 h a i=loadE h.words (a+1+i)/\fieldV h a i=ze1 h.words (a+1+i)/\0<=a+1+i/\a+1+i < 18446744073709551616/\getE h a=0:=by
 have hg:getE h a=0:=by
  by_cases hg:getE h a=0
  · exact hg
  · unfold locE at e;rw [if_neg hg] at e;exact absurd e hg
 have hi:¬(i < 0\/(getH h a).n<=i):=by
  intro hi;unfold locE at e;rw [if_pos hg,if_pos hi] at e;cases e
 obtain ⟨-,-,-,-,-,ga,gb,gn0,gn1,-⟩:=getE_in hg
 refine ⟨by unfold locV;rw [if_pos e],by unfold zo8;rw [if_pos hg,if_neg hi],by unfold fieldV;rw [if_pos hg,if_neg hi],by omega,by omega,hg⟩
theorem loc_no {h:Hp} {a i:Int} (e:¬locE h a i=0):locV h a i=0/\zo8 h a i=locE h a i/\fieldV h a i=0:=by
 refine ⟨by unfold locV;rw [if_neg e],?_⟩
 unfold locE at e
 unfold zo8 fieldV locE
 by_cases hg:getE h a=0
 · rw [if_pos hg] at e
   by_cases hi:i < 0\/(getH h a).n<=i
   · rw [if_pos hg,if_pos hi,if_pos hg,if_pos hi,if_pos hg,if_pos hi];exact ⟨rfl,rfl⟩
   · rw [if_neg hi] at e;exact absurd rfl e
 · rw [if_neg hg,if_neg hg,if_neg hg];exact ⟨rfl,rfl⟩
theorem pfield_any (h:Hp) (p q:Option Addr) (n c m d:Nat) (a i:Int) (w:World) (hs:SRow w .u64 p n c h.words) (hr:PRow w q m d h.pages) (hw:WB h.words) (ha:0<=a) (ha2:a < 18446744073709551616) :
 Calls Tryz.prog 30 #[.agg #[.int .i64 h.pw,.int .i64 h.np,.slice p n c,.slice q m d,.int .i64 h.space,.int .i64 h.bump],.int .u64 a,.int .i64 i] w fun e w'=>e = .returned (.tuple #[.int .u64 (fieldV h a i),.int .i64 (zo8 h a i)])/\Below w.heap.size w w':=by
 have hl:=qq (fun w' (hb:Below w.heap.size w w')=>ploc_any h p q n c m d a i w' (hs.keep hb) (hr.keep hb) hw ha ha2)
 have hrd:=qq (fun w' k (hb:Below w.heap.size w w') (h1:0<=a+1+i) (h2:a+1+i < 18446744073709551616) hc=>rd1_any k p n c h.words (a+1+i) w' (hs.keep hb) h1 h2 hc)
 clear hs hr hw ha ha2
 by_cases he:locE h a i=0
 · obtain ⟨e1,e2,e3,e4,e5,-⟩:=loc_ok he
   rw [e1,he] at hl
   rw [e2,e3]
   obtain ⟨V,hV⟩:∃ V,Hid (ze1 h.words (a+1+i)=V):=⟨_,rfl⟩
   obtain ⟨F,hF⟩:∃ F,Hid (loadE h.words (a+1+i)=F):=⟨_,rfl⟩
   obtain ⟨X,hX⟩:∃ X,Hid (a+1+i=X):=⟨_,rfl⟩
   rw [hV.out,hF.out] at hrd
   rw [hV.out,hF.out]
   rw [hX.out] at hrd hl e4 e5
   replace hrd:=qq (fun w' k hb hc=>hrd.out w' k hb e4 e5 hc)
   clear e1 e2 e3 he hV hF hX e4 e5
   go_enter Tryz.func30,Tryz.ntmps30
   go_wp2_with fail
   refine (hl.out _ za1).mono ?_
   rintro e w1 ⟨rfl,hb1⟩
   have x0:=za5 hb1 0 (v:=.int .i64 h.pw) rfl
   have x1:=za5 hb1 1 (v:=.int .i64 h.np) rfl
   have x2:=za5 hb1 2 (v:=.slice p n c) rfl
   have x3:=za5 hb1 3 (v:=.slice q m d) rfl
   have x4:=za5 hb1 4 (v:=.int .i64 h.space) rfl
   have x5:=za5 hb1 5 (v:=.int .i64 h.bump) rfl
   have hw1:=qq (za4 hb1)
   clear hl hb1
   go_wp2_with fail
   refine (reader_any _ _ _ _ _ _ _).mono ?_
   rintro e w3 ⟨rfl,hw3e⟩
   have hb3:Below w1.heap.size w1 w3:=by rw [hw3e];exact za1
   have hc3:w3.cell? ⟨w1.heap.size,2,none⟩=some (.slice p n c):=by rw [hw3e];simp
   have hw3:=qq (za3 hw1.out hb3)
   clear hw3e hb3 hw1 x0 x1 x2 x3 x4 x5
   go_wp2_with fail
   refine (hrd.out _ _ hw3.out hc3).mono ?_
   rintro e w4 ⟨rfl,rfl⟩
   clear hrd hc3
   go_wp2
   go_ret2
   exact ⟨rfl,hw3.out⟩
 · obtain ⟨e1,e2,e3⟩:=loc_no he
   rw [e1] at hl
   rw [e2,e3]
   obtain ⟨F,hF⟩:∃ F,Hid (locE h a i=F):=⟨_,rfl⟩
   rw [hF.out] at hl he
   rw [hF.out]
   have hne:(F != 0)=true:=bne_iff_ne.2 he
   clear e1 e2 e3 he hF hrd
   go_enter Tryz.func30,Tryz.ntmps30
   go_wp2_with fail
   refine (hl.out _ za1).mono ?_
   rintro e w1 ⟨rfl,hb1⟩
   have x0:=za5 hb1 0 (v:=.int .i64 h.pw) rfl
   have x1:=za5 hb1 1 (v:=.int .i64 h.np) rfl
   have x2:=za5 hb1 2 (v:=.slice p n c) rfl
   have x3:=za5 hb1 3 (v:=.slice q m d) rfl
   have x4:=za5 hb1 4 (v:=.int .i64 h.space) rfl
   have x5:=za5 hb1 5 (v:=.int .i64 h.bump) rfl
   have hw1:=qq (za4 hb1)
   clear hl hb1
   go_wp2
   go_ret2
   exact ⟨rfl,hw1.out⟩
theorem psetf_any (h:Hp) (p q:Option Addr) (n c m d:Nat) (a i:Int) (w:World) (hs:SRow w .u64 p n c h.words) (hr:PRow w q m d h.pages) (hw:WB h.words) (ha:0<=a) (ha2:a < 18446744073709551616) (v:Int) (hv0:0<=v) (hv1:v < 18446744073709551616) :
 Calls Tryz.prog 37 #[.agg #[.int .i64 h.pw,.int .i64 h.np,.slice p n c,.slice q m d,.int .i64 h.space,.int .i64 h.bump],.int .u64 a,.int .i64 i,.int .u64 v] w fun e w'=>RetH (setV h a i v) (zo8 h a i) e w'/\Below w.heap.size w w':=by
 have hb0:Below w.heap.size w ((w.alloc (.cells #[.int .i64 h.pw,.int .i64 h.np,.slice p n c,.slice q m d,.int .i64 h.space,.int .i64 h.bump] 27)).alloc (.cells #[.int .i64 0,.int .i64 0,.slice none 0 0,.slice none 0 0,.int .i64 0,.int .i64 0] 27)):=za3 za1 za1
 have hl:=qq (ploc_any h p q n c m d a i _ (hs.keep hb0) (hr.keep hb0) hw ha ha2)
 have Hx:=qq ((OwnL.new w [.int .i64 h.pw,.int .i64 h.np,.slice p n c,.slice q m d,.int .i64 h.space,.int .i64 h.bump] 27).keep (za1 (o:=.cells #[.int .i64 0,.int .i64 0,.slice none 0 0,.slice none 0 0,.int .i64 0,.int .i64 0] 27)) (by simp))
 have Ho:=qq (OwnL.new (w.alloc (.cells #[.int .i64 h.pw,.int .i64 h.np,.slice p n c,.slice q m d,.int .i64 h.space,.int .i64 h.bump] 27)) [.int .i64 0,.int .i64 0,.slice none 0 0,.slice none 0 0,.int .i64 0,.int .i64 0] 27)
 have HB:=qq hb0
 simp only [World.size_alloc] at Ho
 by_cases he:locE h a i=0
 · obtain ⟨e1,e2,e3,e4,e5,e6⟩:=loc_ok he
   obtain ⟨g1,-,-,-,-,ga,gb,gn0,gn1,-⟩:=getE_in e6
   obtain ⟨k1,k2,k3,_⟩:=zc2 g1
   have hn6:n<=100000:=by have:=(zd6 k1).2;rw [hs.len] at k2;omega
   have hm6:1<=m/\m<=100000:=by have:=zb1 k1;have:=hr.len;omega
   have hwr:=qq (fun w' g (hb:Below w.heap.size w w') (hl':SRow w' .u64 g 1 1 [v])=>write_run h.pw h.np h.space h.bump (a+1+i) p q g n c m d 1 1 h.words [v] h.pages w' (hs.keep hb) (hr.keep hb) hl' hn6 hm6 e4 e5)
   have hE:zh4 h.words (a+1+i) [v]=zo8 h a i:=by rw [e2];rfl
   rw [hE] at hwr
   rw [e1,he] at hl
   have hset:Hid (zo8 h a i=0->setV h a i v={ h with words:=zc8 h.words (a+1+i) [v] }):=fun h0=>by unfold setV;exact if_pos h0
   have hset0:Hid (¬zo8 h a i=0->setV h a i v=Hp.zero):=fun h0=>by unfold setV;exact if_neg h0
   have HW:=qq (zt1 (a:=a+1+i) hw (l:=[v]) (fun x hx=>by rcases List.mem_singleton.1 hx with rfl;exact ⟨hv0,hv1⟩))
   obtain ⟨V,hV⟩:∃ V,Hid (zc8 h.words (a+1+i) [v]=V):=⟨_,rfl⟩
   obtain ⟨F,hF⟩:∃ F,Hid (zo8 h a i=F):=⟨_,rfl⟩
   obtain ⟨X,hX⟩:∃ X,Hid (a+1+i=X):=⟨_,rfl⟩
   obtain ⟨Y,hY⟩:∃ Y,Hid (setV h a i v=Y):=⟨_,rfl⟩
   rw [hV.out,hF.out] at hwr hset
   rw [hF.out] at hset0
   rw [hV.out] at HW
   rw [hF.out,hY.out]
   rw [hY.out] at hset hset0
   rw [hX.out] at hwr hl
   clear e1 e2 e3 e4 e5 e6 he ga gb gn0 gn1 g1 k1 k2 k3 hE hV hF hX hY hs hr hb0
   go_enter Tryz.func37,Tryz.ntmps37
   go_wp2_with fail
   refine hl.out.mono ?_
   rintro e w1 ⟨rfl,hb1⟩
   have hw1:=qq (za3 HB.out hb1)
   have Ho1:=qq (Ho.out.keep hb1 (by simp))
   have Hx1:=qq (Hx.out.keep hb1 (by simp;omega))
   have x0:=Hx1.out.cell 0 _ rfl
   have x1:=Hx1.out.cell 1 _ rfl
   have x2:=Hx1.out.cell 2 _ rfl
   have x3:=Hx1.out.cell 3 _ rfl
   have x4:=Hx1.out.cell 4 _ rfl
   have x5:=Hx1.out.cell 5 _ rfl
   clear hl Ho Hx HB hb1
   go_wp2_with fail
   have hb2:Below w1.heap.size w1 (w1.alloc (.cells #[.int .u64 v] 48)):=za1
   have hrow:SRow (w1.alloc (.cells #[.int .u64 v] 48)) .u64 (some ⟨w1.heap.size,0,none⟩) 1 1 [v]:=by
    obtain ⟨p',c',e',hs'⟩:=SRow.of_own (kd:=.u64) (xs:=[v]) (own_one w1 48 (.int .u64 v))
    injection e' with e1 _ e3
    subst e1 e3
    exact hs'
   have HLT:=Ho1.out.lt rfl
   refine (hwr.out _ _ (za3 hw1.out hb2) hrow).mono ?_
   rintro e w2 ⟨hret,hb3⟩
   have hw3:=qq (za3 (za3 hw1.out hb2) hb3)
   have Ho3:=qq ((Ho1.out.keep hb2 HLT).keep hb3 (by simp;omega))
   have hlt2:w.heap.size+1 < (w1.alloc (.cells #[.int .u64 v] 48)).heap.size:=by simp;omega
   clear hwr hw1 Ho1 Hx1 hb2 hb3 hrow x0 x1 x2 x3 x4 x5
   rcases hret with ⟨rfl,p6,n6,c6,q6,m6,d6,rfl,hsr,hpr⟩ | ⟨hF,rfl⟩
   · have s:∀ (w2:World) (o:Nat) (x:Value),w2.ownsRow (w1.alloc (.cells #[.int .u64 v] 48)).heap.size 77 4 (.slice q6 m6 d6) m6 (zc4 h.pages)->(w2.setCell ⟨w.heap.size+1,o,none⟩ x).ownsRow (w1.alloc (.cells #[.int .u64 v] 48)).heap.size 77 4 (.slice q6 m6 d6) m6 (zc4 h.pages):=fun w o x hh=>ownsRow_setCell_below hh hlt2 x
     have kp:=qq (s _ 5 (.int .i64 h.bump) (s _ 4 (.int .i64 h.space) (s _ 3 (.slice q6 m6 d6) (s _ 2 (.slice p6 n6 c6) (s _ 1 (.int .i64 h.np) (s _ 0 (.int .i64 h.pw) hpr))))))
     have ks:=qq (SRow.set6o hsr (Own6.ofL Ho3.out) (fun x e=>by cases e) (fun x e=>by cases e) (fun x e=>by cases e) (fun x e=>by cases e) (fun x e=>by cases e) (fun x e=>by cases e) (.int .i64 h.pw) (.int .i64 h.np) (.slice p6 n6 c6) (.slice q6 m6 d6) (.int .i64 h.space) (.int .i64 h.bump))
     obtain ⟨d0,d1,d2,d3,d4,d5,f0,f1,f2,f3,f4,f5⟩:=Own6.ofL Ho3.out
     have hY:=hset.out rfl
     clear hsr hpr hset hset0 s
     go_wp2
     refine bodyPost_ret (v:=.tuple #[.agg #[.int .i64 h.pw,.int .i64 h.np,.slice p6 n6 c6,.slice q6 m6 d6,.int .i64 h.space,.int .i64 h.bump],.int .i64 0]) (by simp [results,Tryz.results37,go_sem,d0,d1,d2,d3,d4,d5]) rfl ?_
     obtain ⟨q7,d7,hv7,hrow7⟩:=PRow.of_own kp.out
     subst hY
     exact ⟨⟨_,rfl,p6,n6,c6,q7,m6,d7,by simp only;rw [hv7],ks.out,hrow7,HW.out⟩,zd2 hw3.out (by omega)⟩
   · have hY:=hset0.out hF
     have HF:=qq hF
     obtain ⟨d0,d1,d2,d3,d4,d5,f0,f1,f2,f3,f4,f5⟩:=Own6.ofL Ho3.out
     subst hY
     clear hset hset0 hF
     go_wp2
     exact bodyPost_ret (v:=.tuple #[.agg #[.int .i64 0,.int .i64 0,.slice none 0 0,.slice none 0 0,.int .i64 0,.int .i64 0],.int .i64 F]) (by simp [results,Tryz.results37,go_sem,d0,d1,d2,d3,d4,d5]) rfl ⟨⟨_,rfl,HV.zero _⟩,zd2 hw3.out (by omega)⟩
 · obtain ⟨e1,e2,e3⟩:=loc_no he
   rw [e1] at hl
   have hset0:Hid (setV h a i v=Hp.zero):=by unfold setV;rw [e2];exact if_neg he
   rw [e2,hset0.out]
   obtain ⟨F,hF⟩:∃ F,Hid (locE h a i=F):=⟨_,rfl⟩
   rw [hF.out] at hl he
   rw [hF.out]
   have hne:(F != 0)=true:=bne_iff_ne.2 he
   clear e1 e2 e3 he hF hs hr hw ha ha2 hset0 hb0
   go_enter Tryz.func37,Tryz.ntmps37
   go_wp2_with fail
   refine hl.out.mono ?_
   rintro e w1 ⟨rfl,hb1⟩
   have hw1:=qq (za3 HB.out hb1)
   have Ho1:=qq (Ho.out.keep hb1 (by simp))
   obtain ⟨d0,d1,d2,d3,d4,d5,f0,f1,f2,f3,f4,f5⟩:=Own6.ofL Ho1.out
   clear hl Ho Hx HB hb1
   go_wp2
   exact bodyPost_ret (v:=.tuple #[.agg #[.int .i64 0,.int .i64 0,.slice none 0 0,.slice none 0 0,.int .i64 0,.int .i64 0],.int .i64 F]) (by simp [results,Tryz.results37,go_sem,d0,d1,d2,d3,d4,d5]) rfl ⟨⟨_,rfl,HV.zero _⟩,zd2 hw1.out (by omega)⟩
end Go.Proofs.YtipjdbhocjpmdaaGreat
