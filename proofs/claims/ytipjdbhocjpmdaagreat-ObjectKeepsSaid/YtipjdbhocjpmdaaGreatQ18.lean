import Derived.Test.YtipjdbhocjpmdaaGreatQ01
import Derived.Test.YtipjdbhocjpmdaaGreatQ08
import Derived.Test.YtipjdbhocjpmdaaGreatQ09
import Derived.Test.YtipjdbhocjpmdaaGreatQ13
import Derived.Test.YtipjdbhocjpmdaaGreatQ17
set_option linter.unusedSimpArgs false
set_option linter.unusedVariables false
set_option maxRecDepth 100000
set_option maxHeartbeats 12800000
namespace Go.Proofs.YtipjdbhocjpmdaaGreat
open Go.RowKit
theorem zv6 (pw np:Int) (p q:Option Addr) (n c m d:Nat) (sp bp:Int) (xs:List Int) (ps:List Pg) (w:World) (hs:SRow w .u64 p n c xs) (hr:PRow w q m d ps) :
 Calls Tryz.prog 15 #[.agg #[.int .i64 pw,.int .i64 np,.slice p n c,.slice q m d,.int .i64 sp,.int .i64 bp]] w fun e w'=>e = .returned (.bool (ze8 pw np xs.length ps sp bp))/\Below w.heap.size w w':=by
 rw [hs.len]
 by_cases hv:zb8 pw np=true
 · by_cases h:(n:Int)=np*pw/\(m:Int)=np/\0<=sp/\sp<=1
   · obtain ⟨h1,h2,h3,h4⟩:=h
     cases hbp:zm7 ps bp
     · rw [zz0 (Or.inr (Or.inr (Or.inr (Or.inr (Or.inr hbp)))))]
       exact proper_bump pw np p q n c m d sp bp ps w hv h1 h2 h3 h4 hr hbp
     · rw [properB_true hv h1 (by rw [hr.len];exact h2) h3 h4 hbp]
       exact proper_loop pw np p q n c m d sp bp ps w hv h1 h2 h3 h4 hr hbp
   · rw [zz0 (by
      rw [hr.len]
      by_cases h1:(n:Int)=np*pw
      · by_cases h2:(m:Int)=np
        · by_cases h3:sp < 0
          · exact Or.inr (Or.inr (Or.inr (Or.inl h3)))
          · exact Or.inr (Or.inr (Or.inr (Or.inr (Or.inl (by omega)))))
        · exact Or.inr (Or.inr (Or.inl h2))
      · exact Or.inr (Or.inl h1))]
     exact proper_shape pw np p q n c m d sp bp w hv (by omega)
 · have hv:zb8 pw np=false:=by simpa using hv
   rw [zz0 (Or.inl hv)]
   exact proper_conf pw np p q n c m d sp bp w hv
theorem zz1 {u:Value} {h:Hp} (w:World) (hu:HV w u h) :
 Calls Tryz.prog 15 #[u] w fun e w'=>e = .returned (.bool (ze8 h.pw h.np h.words.length h.pages h.space h.bump))/\Below w.heap.size w w':=by
 obtain ⟨p,n,c,q,m,d,rfl,h1,h2,-⟩:=hu
 exact zv6 _ _ p q n c m d _ _ _ _ w h1 h2
theorem atE_bad {h:Hp} {a:Int} (h1:okH h=false):atE h a=1/\atH h a=Hd.zero:=by
 have e:atE h a=1:=by unfold atE;rw [if_neg (by simp [h1])]
 exact ⟨e,by unfold atH;rw [if_neg (by rw [e];decide)]⟩
theorem atE_out {h:Hp} {a:Int} (h1:okH h=true) (h2:¬ofE h.pw h.np a=0):atE h a=2/\atH h a=Hd.zero:=by
 have e:atE h a=2:=by unfold atE;rw [if_pos h1,if_neg h2]
 exact ⟨e,by unfold atH;rw [if_neg (by rw [e];decide)]⟩
theorem atE_no {h:Hp} {a:Int} (h1:okH h=true) (h2:ofE h.pw h.np a=0) (h3:atB h a=false):atE h a=19/\atH h a=Hd.zero:=by
 have e:atE h a=19:=by unfold atE;rw [if_pos h1,if_pos h2,if_neg (by simp [h3])]
 exact ⟨e,by unfold atH;rw [if_neg (by rw [e];decide)]⟩
theorem atE_ok {h:Hp} {a:Int} (h1:okH h=true) (h2:ofE h.pw h.np a=0) (h3:atB h a=true):atE h a=0/\atH h a=hdOf (zg4 h a):=by
 have e:atE h a=0:=by unfold atE;rw [if_pos h1,if_pos h2,if_pos h3]
 exact ⟨e,by unfold atH;rw [if_pos e]⟩
theorem zf7 {pw np:Int} {p q:Option Addr} {n c m d:Nat} {sp bp:Int} {xs:List Int} {ps:List Pg} {b:Bool} (hb:ze8 pw np xs.length ps sp bp=b) (w:World) (hs:SRow w .u64 p n c xs) (hr:PRow w q m d ps) :
 Calls Tryz.prog 15 #[.agg #[.int .i64 pw,.int .i64 np,.slice p n c,.slice q m d,.int .i64 sp,.int .i64 bp]] w fun e w'=>e = .returned (.bool b)/\Below w.heap.size w w':=by
 subst hb;exact zv6 pw np p q n c m d sp bp xs ps w hs hr
theorem at_bad (h:Hp) (p q:Option Addr) (n c m d:Nat) (a:Int) (w:World) (hs:SRow w .u64 p n c h.words) (hr:PRow w q m d h.pages) (h1:okH h=false) :
 Calls Tryz.prog 26 #[.agg #[.int .i64 h.pw,.int .i64 h.np,.slice p n c,.slice q m d,.int .i64 h.space,.int .i64 h.bump],.int .u64 a] w fun e w'=>e = .returned (.tuple #[.agg #[.int .i64 0,.int .i64 0,.int .u32 0],.int .i64 1])/\Below w.heap.size w w':=by
 have hb0:Below w.heap.size w ((w.alloc (.cells #[.int .i64 h.pw,.int .i64 h.np,.slice p n c,.slice q m d,.int .i64 h.space,.int .i64 h.bump] 27)).alloc (.cells #[.int .i64 0,.int .i64 0,.int .u32 0] 54)):=za3 za1 za1
 have hp:=qq (zf7 (show ze8 h.pw h.np h.words.length h.pages h.space h.bump=false from h1) _ (hs.keep hb0) (hr.keep hb0))
 have Ho:=qq (Own3.new (w.alloc (.cells #[.int .i64 h.pw,.int .i64 h.np,.slice p n c,.slice q m d,.int .i64 h.space,.int .i64 h.bump] 27)) (.int .i64 0) (.int .i64 0) (.int .u32 0) 54)
 have HB:=qq hb0
 clear hs hr h1 hb0
 go_enter Tryz.func26,Tryz.ntmps26
 go_wp2_with fail
 refine hp.out.mono ?_
 rintro e w1 ⟨rfl,hb1⟩
 have Ho1:=Ho.out.keep hb1
 simp only [World.size_alloc] at Ho1
 obtain ⟨d0,d1,d2,f0,f1,f2⟩:=Ho1
 have hw1:=za3 HB.out hb1
 clear hp Ho HB hb1
 go_wp2
 exact bodyPost_ret (v:=.tuple #[.agg #[.int .i64 0,.int .i64 0,.int .u32 0],.int .i64 1]) (by simp [results,Tryz.results26,go_sem,d0,d1,d2]) rfl ⟨rfl,zb9 hw1 (Nat.le_succ _)⟩
theorem at_out (h:Hp) (p q:Option Addr) (n c m d:Nat) (a:Int) (w:World) (hs:SRow w .u64 p n c h.words) (hr:PRow w q m d h.pages) (ha:0<=a) (ha2:a < 18446744073709551616) (h1:okH h=true) (h2:¬ofE h.pw h.np a=0) :
 Calls Tryz.prog 26 #[.agg #[.int .i64 h.pw,.int .i64 h.np,.slice p n c,.slice q m d,.int .i64 h.space,.int .i64 h.bump],.int .u64 a] w fun e w'=>e = .returned (.tuple #[.agg #[.int .i64 0,.int .i64 0,.int .u32 0],.int .i64 2])/\Below w.heap.size w w':=by
 have hb0:Below w.heap.size w ((w.alloc (.cells #[.int .i64 h.pw,.int .i64 h.np,.slice p n c,.slice q m d,.int .i64 h.space,.int .i64 h.bump] 27)).alloc (.cells #[.int .i64 0,.int .i64 0,.int .u32 0] 54)):=za3 za1 za1
 have hp:=qq (zf7 (show ze8 h.pw h.np h.words.length h.pages h.space h.bump=true from h1) _ (hs.keep hb0) (hr.keep hb0))
 have Ho:=qq (Own3.new (w.alloc (.cells #[.int .i64 h.pw,.int .i64 h.np,.slice p n c,.slice q m d,.int .i64 h.space,.int .i64 h.bump] 27)) (.int .i64 0) (.int .i64 0) (.int .u32 0) 54)
 have HB:=qq hb0
 have hof:=qq (fun w=>zk6 h.pw h.np a w ha ha2)
 obtain ⟨E,hE⟩:∃ E,Hid (ofE h.pw h.np a=E):=⟨_,rfl⟩
 rw [hE.out] at hof h2
 have hne:(E != 0)=true:=bne_iff_ne.2 h2
 clear hs hr h1 hb0 h2
 go_enter Tryz.func26,Tryz.ntmps26
 go_wp2_with fail
 refine hp.out.mono ?_
 rintro e w1 ⟨rfl,hb1⟩
 have x0:w1.cell? ⟨w.heap.size,0,none⟩=some (.int .i64 h.pw):=by rw [hb1.cell (by simp;omega)];simp
 have x1:w1.cell? ⟨w.heap.size,1,none⟩=some (.int .i64 h.np):=by rw [hb1.cell (by simp;omega)];simp
 have hw1:=za3 HB.out hb1
 have Ho1:=qq (Ho.out.keep hb1)
 clear hp Ho HB hb1
 go_wp2_with fail
 refine (hof.out _).mono ?_
 rintro e w2 ⟨rfl,hb2⟩
 have Ho2:=Ho1.out.keep hb2
 simp only [World.size_alloc] at Ho2
 obtain ⟨d0,d1,d2,f0,f1,f2⟩:=Ho2
 have hw2:=za3 hw1 hb2
 clear hof Ho1 hb2 hw1
 go_wp2
 exact bodyPost_ret (v:=.tuple #[.agg #[.int .i64 0,.int .i64 0,.int .u32 0],.int .i64 2]) (by simp [results,Tryz.results26,go_sem,d0,d1,d2]) rfl ⟨rfl,zb9 hw2 (Nat.le_succ _)⟩
theorem at_word_no (h:Hp) (p:Option Addr) (b off n c m d:Nat) (a:Int) (w:World) (hs:SRow w .u64 p n c h.words) (hr:PRow w (some ⟨b,off,none⟩) m d h.pages) (ha:0<=a) (ha2:a < 18446744073709551616) (h1:okH h=true) (h2:ofE h.pw h.np a=0)
 (i j y:Nat) (xk xs xu xp:Int) (hi:ofI h.pw h.np a=i) (hj:ofK h.pw h.np a=j) (him:i < m) (hx:h.pages[i]?=some ⟨xk,xs,xu,xp⟩) (hy:y < 18446744073709551616) (hl1:ze1 h.words a=y) (hl2:loadE h.words a=0)
 (hno:(¬xk=1/\¬xk=2)\/xu<=j\/okD y=false) :
 Calls Tryz.prog 26 #[.agg #[.int .i64 h.pw,.int .i64 h.np,.slice p n c,.slice (some ⟨b,off,none⟩) m d,.int .i64 h.space,.int .i64 h.bump],.int .u64 a] w fun e w'=>e = .returned (.tuple #[.agg #[.int .i64 0,.int .i64 0,.int .u32 0],.int .i64 19])/\Below w.heap.size w w':=by
 have hb0:Below w.heap.size w ((w.alloc (.cells #[.int .i64 h.pw,.int .i64 h.np,.slice p n c,.slice (some ⟨b,off,none⟩) m d,.int .i64 h.space,.int .i64 h.bump] 27)).alloc (.cells #[.int .i64 0,.int .i64 0,.int .u32 0] 54)):=za3 za1 za1
 have hp:=qq (zf7 (show ze8 h.pw h.np h.words.length h.pages h.space h.bump=true from h1) _ (hs.keep hb0) (hr.keep hb0))
 have Ho:=qq (Own3.new (w.alloc (.cells #[.int .i64 h.pw,.int .i64 h.np,.slice p n c,.slice (some ⟨b,off,none⟩) m d,.int .i64 h.space,.int .i64 h.bump] 27)) (.int .i64 0) (.int .i64 0) (.int .u32 0) 54)
 have HB:=qq hb0
 have hof:=qq (fun w=>zk6 h.pw h.np a w ha ha2)
 rw [hi,hj,h2] at hof
 have HS:=qq hs
 have hn6:(n:Int)<=1000000:=by obtain ⟨g1,g2,_⟩:=zc2 h1;have:=(zd6 g1).2;rw [hs.len] at g2;omega
 have HL1:=qq hl1
 have HL2:=qq hl2
 have hdc:=qq (fun w=>zs0 y w hy)
 have hz:Hid (∀ w',Below w.heap.size w w'->w'.cell? ⟨b,off+i*4,none⟩=some (.int .i64 xk)/\w'.cell? ⟨b,off+i*4+1,none⟩=some (.int .i64 xs)/\w'.cell? ⟨b,off+i*4+2,none⟩=some (.int .i64 xu)/\w'.cell? ⟨b,off+i*4+3,none⟩=some (.int .i64 xp)):=fun w' hb=>by
  obtain ⟨x',b',off',e1,e2,z⟩:=(hr.keep hb).at_ him
  simp at e2
  obtain ⟨rfl,rfl⟩:=e2
  obtain rfl:(⟨xk,xs,xu,xp⟩:Pg)=x':=by rw [hx] at e1;exact Option.some.inj e1
  exact z
 have him2:(i:Int) < m:=by omega
 obtain ⟨K,hK⟩:∃ K,Hid (decK y=K):=⟨_,rfl⟩
 obtain ⟨N,hN⟩:∃ N,Hid (decN y=N):=⟨_,rfl⟩
 obtain ⟨M,hM⟩:∃ M,Hid (decM y=M):=⟨_,rfl⟩
 obtain ⟨O,hO⟩:∃ O,Hid (okD y=O):=⟨_,rfl⟩
 rw [hK.out,hN.out,hM.out,hO.out] at hdc
 rw [hO.out] at hno
 clear hs hr h1 h2 hb0 hi hj hx hl1 hl2
 by_cases k1:xk=1
 · subst k1
   by_cases hu:xu<=j
   · clear hno
     go_enter Tryz.func26,Tryz.ntmps26
     go_wp2_with fail
     refine hp.out.mono ?_
     rintro e w1 ⟨rfl,hb1⟩
     have x0:w1.cell? ⟨w.heap.size,0,none⟩=some (.int .i64 h.pw):=by rw [hb1.cell (by simp;omega)];simp
     have x1:w1.cell? ⟨w.heap.size,1,none⟩=some (.int .i64 h.np):=by rw [hb1.cell (by simp;omega)];simp
     have x2:w1.cell? ⟨w.heap.size,2,none⟩=some (.slice p n c):=by rw [hb1.cell (by simp;omega)];simp
     have x3:w1.cell? ⟨w.heap.size,3,none⟩=some (.slice (some ⟨b,off,none⟩) m d):=by rw [hb1.cell (by simp;omega)];simp
     have hw1:=za3 HB.out hb1
     have Ho1:=qq (Ho.out.keep hb1)
     clear hp Ho HB hb1
     go_wp2_with fail
     refine (hof.out _).mono ?_
     rintro e w2 ⟨rfl,hb2⟩
     have x2:=za0 hb2 x2
     have x3:=za0 hb2 x3
     have hw2:=za3 hw1 hb2
     obtain ⟨z0,z1,z2,z3⟩:=hz.out _ hw2
     have Hs2:=qq ((HS.out.keep hw2).keep (za1 (w:=w2) (o:=.cells #[.int .i64 1,.int .i64 xs,.int .i64 xu,.int .i64 xp] 77)))
     have lh:w.heap.size < w2.heap.size:=zb4 x3
     have Ho2:=qq ((Ho1.out.keep hb2).keep (za1 (w:=w2) (o:=.cells #[.int .i64 1,.int .i64 xs,.int .i64 xu,.int .i64 xp] 77)))
     clear hof Ho1 hb2 hw1 x0 x1
     go_wp2_with fail
     refine (zd9 p n c h.words a _ Hs2.out hn6 ha ha2).mono ?_
     rw [HL1.out,HL2.out]
     rintro e w' ⟨rfl,rfl⟩
     go_wp2_with fail
     refine (hdc.out _).mono ?_
     rintro e w3 ⟨rfl,hb3⟩
     have p0:=za5 hb3 0 (v:=.int .i64 1) rfl
     have p1:=za5 hb3 1 (v:=.int .i64 xs) rfl
     have p2:=za5 hb3 2 (v:=.int .i64 xu) rfl
     have p3:=za5 hb3 3 (v:=.int .i64 xp) rfl
     have hw3:=za3 (za3 hw2 za1) hb3
     have lp:w2.heap.size < w3.heap.size:=zb4 p0
     have Ho3:=qq (Ho2.out.keep hb3)
     clear hdc Hs2 Ho2 hb3 hw2 z0 z1 z2 z3
     have Ho4:=Ho3.out.keep (za1 (w:=w3) (o:=.cells #[.int .i64 K,.int .i64 N,.int .u32 M] 54))
     simp only [World.size_alloc] at Ho4
     obtain ⟨d0,d1,d2,f0,f1,f2⟩:=Ho4
     have hw4:=za3 hw3 (za1 (o:=.cells #[.int .i64 K,.int .i64 N,.int .u32 M] 54))
     clear Ho3
     go_wp2
     exact bodyPost_ret (v:=.tuple #[.agg #[.int .i64 0,.int .i64 0,.int .u32 0],.int .i64 19]) (by simp [results,Tryz.results26,go_sem,d0,d1,d2]) rfl ⟨rfl,zb9 hw4 (Nat.le_succ _)⟩
   · have ho:O=false:=by
      rcases hno with h | h | h
      · exact absurd rfl h.1
      · exact absurd h hu
      · exact h
     subst ho
     clear hno
     go_enter Tryz.func26,Tryz.ntmps26
     go_wp2_with fail
     refine hp.out.mono ?_
     rintro e w1 ⟨rfl,hb1⟩
     have x0:w1.cell? ⟨w.heap.size,0,none⟩=some (.int .i64 h.pw):=by rw [hb1.cell (by simp;omega)];simp
     have x1:w1.cell? ⟨w.heap.size,1,none⟩=some (.int .i64 h.np):=by rw [hb1.cell (by simp;omega)];simp
     have x2:w1.cell? ⟨w.heap.size,2,none⟩=some (.slice p n c):=by rw [hb1.cell (by simp;omega)];simp
     have x3:w1.cell? ⟨w.heap.size,3,none⟩=some (.slice (some ⟨b,off,none⟩) m d):=by rw [hb1.cell (by simp;omega)];simp
     have hw1:=za3 HB.out hb1
     have Ho1:=qq (Ho.out.keep hb1)
     clear hp Ho HB hb1
     go_wp2_with fail
     refine (hof.out _).mono ?_
     rintro e w2 ⟨rfl,hb2⟩
     have x2:=za0 hb2 x2
     have x3:=za0 hb2 x3
     have hw2:=za3 hw1 hb2
     obtain ⟨z0,z1,z2,z3⟩:=hz.out _ hw2
     have Hs2:=qq ((HS.out.keep hw2).keep (za1 (w:=w2) (o:=.cells #[.int .i64 1,.int .i64 xs,.int .i64 xu,.int .i64 xp] 77)))
     have lh:w.heap.size < w2.heap.size:=zb4 x3
     have Ho2:=qq ((Ho1.out.keep hb2).keep (za1 (w:=w2) (o:=.cells #[.int .i64 1,.int .i64 xs,.int .i64 xu,.int .i64 xp] 77)))
     clear hof Ho1 hb2 hw1 x0 x1
     go_wp2_with fail
     refine (zd9 p n c h.words a _ Hs2.out hn6 ha ha2).mono ?_
     rw [HL1.out,HL2.out]
     rintro e w' ⟨rfl,rfl⟩
     go_wp2_with fail
     refine (hdc.out _).mono ?_
     rintro e w3 ⟨rfl,hb3⟩
     have p0:=za5 hb3 0 (v:=.int .i64 1) rfl
     have p1:=za5 hb3 1 (v:=.int .i64 xs) rfl
     have p2:=za5 hb3 2 (v:=.int .i64 xu) rfl
     have p3:=za5 hb3 3 (v:=.int .i64 xp) rfl
     have hw3:=za3 (za3 hw2 za1) hb3
     have lp:w2.heap.size < w3.heap.size:=zb4 p0
     have Ho3:=qq (Ho2.out.keep hb3)
     clear hdc Hs2 Ho2 hb3 hw2 z0 z1 z2 z3
     have Ho4:=Ho3.out.keep (za1 (w:=w3) (o:=.cells #[.int .i64 K,.int .i64 N,.int .u32 M] 54))
     simp only [World.size_alloc] at Ho4
     obtain ⟨d0,d1,d2,f0,f1,f2⟩:=Ho4
     have hw4:=za3 hw3 (za1 (o:=.cells #[.int .i64 K,.int .i64 N,.int .u32 M] 54))
     clear Ho3
     go_wp2
     exact bodyPost_ret (v:=.tuple #[.agg #[.int .i64 0,.int .i64 0,.int .u32 0],.int .i64 19]) (by simp [results,Tryz.results26,go_sem,d0,d1,d2]) rfl ⟨rfl,zb9 hw4 (Nat.le_succ _)⟩
 · by_cases k2:xk=2
   · subst k2
     by_cases hu:xu<=j
     · clear hno k1
       go_enter Tryz.func26,Tryz.ntmps26
       go_wp2_with fail
       refine hp.out.mono ?_
       rintro e w1 ⟨rfl,hb1⟩
       have x0:w1.cell? ⟨w.heap.size,0,none⟩=some (.int .i64 h.pw):=by rw [hb1.cell (by simp;omega)];simp
       have x1:w1.cell? ⟨w.heap.size,1,none⟩=some (.int .i64 h.np):=by rw [hb1.cell (by simp;omega)];simp
       have x2:w1.cell? ⟨w.heap.size,2,none⟩=some (.slice p n c):=by rw [hb1.cell (by simp;omega)];simp
       have x3:w1.cell? ⟨w.heap.size,3,none⟩=some (.slice (some ⟨b,off,none⟩) m d):=by rw [hb1.cell (by simp;omega)];simp
       have hw1:=za3 HB.out hb1
       have Ho1:=qq (Ho.out.keep hb1)
       clear hp Ho HB hb1
       go_wp2_with fail
       refine (hof.out _).mono ?_
       rintro e w2 ⟨rfl,hb2⟩
       have x2:=za0 hb2 x2
       have x3:=za0 hb2 x3
       have hw2:=za3 hw1 hb2
       obtain ⟨z0,z1,z2,z3⟩:=hz.out _ hw2
       have Hs2:=qq ((HS.out.keep hw2).keep (za1 (w:=w2) (o:=.cells #[.int .i64 2,.int .i64 xs,.int .i64 xu,.int .i64 xp] 77)))
       have lh:w.heap.size < w2.heap.size:=zb4 x3
       have Ho2:=qq ((Ho1.out.keep hb2).keep (za1 (w:=w2) (o:=.cells #[.int .i64 2,.int .i64 xs,.int .i64 xu,.int .i64 xp] 77)))
       clear hof Ho1 hb2 hw1 x0 x1
       go_wp2_with fail
       refine (zd9 p n c h.words a _ Hs2.out hn6 ha ha2).mono ?_
       rw [HL1.out,HL2.out]
       rintro e w' ⟨rfl,rfl⟩
       go_wp2_with fail
       refine (hdc.out _).mono ?_
       rintro e w3 ⟨rfl,hb3⟩
       have p0:=za5 hb3 0 (v:=.int .i64 2) rfl
       have p1:=za5 hb3 1 (v:=.int .i64 xs) rfl
       have p2:=za5 hb3 2 (v:=.int .i64 xu) rfl
       have p3:=za5 hb3 3 (v:=.int .i64 xp) rfl
       have hw3:=za3 (za3 hw2 za1) hb3
       have lp:w2.heap.size < w3.heap.size:=zb4 p0
       have Ho3:=qq (Ho2.out.keep hb3)
       clear hdc Hs2 Ho2 hb3 hw2 z0 z1 z2 z3
       have Ho4:=Ho3.out.keep (za1 (w:=w3) (o:=.cells #[.int .i64 K,.int .i64 N,.int .u32 M] 54))
       simp only [World.size_alloc] at Ho4
       obtain ⟨d0,d1,d2,f0,f1,f2⟩:=Ho4
       have hw4:=za3 hw3 (za1 (o:=.cells #[.int .i64 K,.int .i64 N,.int .u32 M] 54))
       clear Ho3
       go_wp2
       exact bodyPost_ret (v:=.tuple #[.agg #[.int .i64 0,.int .i64 0,.int .u32 0],.int .i64 19]) (by simp [results,Tryz.results26,go_sem,d0,d1,d2]) rfl ⟨rfl,zb9 hw4 (Nat.le_succ _)⟩
     · have ho:O=false:=by
        rcases hno with h | h | h
        · exact absurd rfl h.2
        · exact absurd h hu
        · exact h
       subst ho
       clear hno k1
       go_enter Tryz.func26,Tryz.ntmps26
       go_wp2_with fail
       refine hp.out.mono ?_
       rintro e w1 ⟨rfl,hb1⟩
       have x0:w1.cell? ⟨w.heap.size,0,none⟩=some (.int .i64 h.pw):=by rw [hb1.cell (by simp;omega)];simp
       have x1:w1.cell? ⟨w.heap.size,1,none⟩=some (.int .i64 h.np):=by rw [hb1.cell (by simp;omega)];simp
       have x2:w1.cell? ⟨w.heap.size,2,none⟩=some (.slice p n c):=by rw [hb1.cell (by simp;omega)];simp
       have x3:w1.cell? ⟨w.heap.size,3,none⟩=some (.slice (some ⟨b,off,none⟩) m d):=by rw [hb1.cell (by simp;omega)];simp
       have hw1:=za3 HB.out hb1
       have Ho1:=qq (Ho.out.keep hb1)
       clear hp Ho HB hb1
       go_wp2_with fail
       refine (hof.out _).mono ?_
       rintro e w2 ⟨rfl,hb2⟩
       have x2:=za0 hb2 x2
       have x3:=za0 hb2 x3
       have hw2:=za3 hw1 hb2
       obtain ⟨z0,z1,z2,z3⟩:=hz.out _ hw2
       have Hs2:=qq ((HS.out.keep hw2).keep (za1 (w:=w2) (o:=.cells #[.int .i64 2,.int .i64 xs,.int .i64 xu,.int .i64 xp] 77)))
       have lh:w.heap.size < w2.heap.size:=zb4 x3
       have Ho2:=qq ((Ho1.out.keep hb2).keep (za1 (w:=w2) (o:=.cells #[.int .i64 2,.int .i64 xs,.int .i64 xu,.int .i64 xp] 77)))
       clear hof Ho1 hb2 hw1 x0 x1
       go_wp2_with fail
       refine (zd9 p n c h.words a _ Hs2.out hn6 ha ha2).mono ?_
       rw [HL1.out,HL2.out]
       rintro e w' ⟨rfl,rfl⟩
       go_wp2_with fail
       refine (hdc.out _).mono ?_
       rintro e w3 ⟨rfl,hb3⟩
       have p0:=za5 hb3 0 (v:=.int .i64 2) rfl
       have p1:=za5 hb3 1 (v:=.int .i64 xs) rfl
       have p2:=za5 hb3 2 (v:=.int .i64 xu) rfl
       have p3:=za5 hb3 3 (v:=.int .i64 xp) rfl
       have hw3:=za3 (za3 hw2 za1) hb3
       have lp:w2.heap.size < w3.heap.size:=zb4 p0
       have Ho3:=qq (Ho2.out.keep hb3)
       clear hdc Hs2 Ho2 hb3 hw2 z0 z1 z2 z3
       have Ho4:=Ho3.out.keep (za1 (w:=w3) (o:=.cells #[.int .i64 K,.int .i64 N,.int .u32 M] 54))
       simp only [World.size_alloc] at Ho4
       obtain ⟨d0,d1,d2,f0,f1,f2⟩:=Ho4
       have hw4:=za3 hw3 (za1 (o:=.cells #[.int .i64 K,.int .i64 N,.int .u32 M] 54))
       clear Ho3
       go_wp2
       exact bodyPost_ret (v:=.tuple #[.agg #[.int .i64 0,.int .i64 0,.int .u32 0],.int .i64 19]) (by simp [results,Tryz.results26,go_sem,d0,d1,d2]) rfl ⟨rfl,zb9 hw4 (Nat.le_succ _)⟩
   · have b1:(xk != 1)=true:=bne_iff_ne.2 k1
     have b2:(xk != 2)=true:=bne_iff_ne.2 k2
     clear hno k1 k2
     go_enter Tryz.func26,Tryz.ntmps26
     go_wp2_with fail
     refine hp.out.mono ?_
     rintro e w1 ⟨rfl,hb1⟩
     have x0:w1.cell? ⟨w.heap.size,0,none⟩=some (.int .i64 h.pw):=by rw [hb1.cell (by simp;omega)];simp
     have x1:w1.cell? ⟨w.heap.size,1,none⟩=some (.int .i64 h.np):=by rw [hb1.cell (by simp;omega)];simp
     have x2:w1.cell? ⟨w.heap.size,2,none⟩=some (.slice p n c):=by rw [hb1.cell (by simp;omega)];simp
     have x3:w1.cell? ⟨w.heap.size,3,none⟩=some (.slice (some ⟨b,off,none⟩) m d):=by rw [hb1.cell (by simp;omega)];simp
     have hw1:=za3 HB.out hb1
     have Ho1:=qq (Ho.out.keep hb1)
     clear hp Ho HB hb1
     go_wp2_with fail
     refine (hof.out _).mono ?_
     rintro e w2 ⟨rfl,hb2⟩
     have x2:=za0 hb2 x2
     have x3:=za0 hb2 x3
     have hw2:=za3 hw1 hb2
     obtain ⟨z0,z1,z2,z3⟩:=hz.out _ hw2
     have Hs2:=qq ((HS.out.keep hw2).keep (za1 (w:=w2) (o:=.cells #[.int .i64 xk,.int .i64 xs,.int .i64 xu,.int .i64 xp] 77)))
     have lh:w.heap.size < w2.heap.size:=zb4 x3
     have Ho2:=qq ((Ho1.out.keep hb2).keep (za1 (w:=w2) (o:=.cells #[.int .i64 xk,.int .i64 xs,.int .i64 xu,.int .i64 xp] 77)))
     clear hof Ho1 hb2 hw1 x0 x1
     go_wp2_with fail
     refine (zd9 p n c h.words a _ Hs2.out hn6 ha ha2).mono ?_
     rw [HL1.out,HL2.out]
     rintro e w' ⟨rfl,rfl⟩
     go_wp2_with fail
     refine (hdc.out _).mono ?_
     rintro e w3 ⟨rfl,hb3⟩
     have p0:=za5 hb3 0 (v:=.int .i64 xk) rfl
     have p1:=za5 hb3 1 (v:=.int .i64 xs) rfl
     have p2:=za5 hb3 2 (v:=.int .i64 xu) rfl
     have p3:=za5 hb3 3 (v:=.int .i64 xp) rfl
     have hw3:=za3 (za3 hw2 za1) hb3
     have lp:w2.heap.size < w3.heap.size:=zb4 p0
     have Ho3:=qq (Ho2.out.keep hb3)
     clear hdc Hs2 Ho2 hb3 hw2 z0 z1 z2 z3
     have Ho4:=Ho3.out.keep (za1 (w:=w3) (o:=.cells #[.int .i64 K,.int .i64 N,.int .u32 M] 54))
     simp only [World.size_alloc] at Ho4
     obtain ⟨d0,d1,d2,f0,f1,f2⟩:=Ho4
     have hw4:=za3 hw3 (za1 (o:=.cells #[.int .i64 K,.int .i64 N,.int .u32 M] 54))
     clear Ho3
     go_wp2
     exact bodyPost_ret (v:=.tuple #[.agg #[.int .i64 0,.int .i64 0,.int .u32 0],.int .i64 19]) (by simp [results,Tryz.results26,go_sem,d0,d1,d2]) rfl ⟨rfl,zb9 hw4 (Nat.le_succ _)⟩
theorem at_word_is (h:Hp) (p:Option Addr) (b off n c m d:Nat) (a:Int) (w:World) (hs:SRow w .u64 p n c h.words) (hr:PRow w (some ⟨b,off,none⟩) m d h.pages) (ha:0<=a) (ha2:a < 18446744073709551616) (h1:okH h=true) (h2:ofE h.pw h.np a=0)
 (i j y:Nat) (xk xs xu xp:Int) (hi:ofI h.pw h.np a=i) (hj:ofK h.pw h.np a=j) (hj9:(j:Int)<=100) (him:i < m) (hx:h.pages[i]?=some ⟨xk,xs,xu,xp⟩) (hy:y < 18446744073709551616) (hl1:ze1 h.words a=y) (hl2:loadE h.words a=0)
 (hu:(j:Int) < xu) (ho:okD y=true) (B:Bool) (hB:B=if xk=1 then decide ((j:Int)+(dN y+1)<=xu) else decide ((j:Int)=0/\(dN y:Int)+1=xu)) (k12:xk=1\/xk=2) (hu9:xu<=1000) :
 Calls Tryz.prog 26 #[.agg #[.int .i64 h.pw,.int .i64 h.np,.slice p n c,.slice (some ⟨b,off,none⟩) m d,.int .i64 h.space,.int .i64 h.bump],.int .u64 a] w fun e w'=>e = .returned (.tuple #[.agg #[.int .i64 (if B then dK y else 0),.int .i64 (if B then dN y else 0),.int .u32 (if B then dM y else 0)],.int .i64 (if B then 0 else 19)])/\Below w.heap.size w w':=by
 have hb0:Below w.heap.size w ((w.alloc (.cells #[.int .i64 h.pw,.int .i64 h.np,.slice p n c,.slice (some ⟨b,off,none⟩) m d,.int .i64 h.space,.int .i64 h.bump] 27)).alloc (.cells #[.int .i64 0,.int .i64 0,.int .u32 0] 54)):=za3 za1 za1
 have hp:=qq (zf7 (show ze8 h.pw h.np h.words.length h.pages h.space h.bump=true from h1) _ (hs.keep hb0) (hr.keep hb0))
 have Ho:=qq (Own3.new (w.alloc (.cells #[.int .i64 h.pw,.int .i64 h.np,.slice p n c,.slice (some ⟨b,off,none⟩) m d,.int .i64 h.space,.int .i64 h.bump] 27)) (.int .i64 0) (.int .i64 0) (.int .u32 0) 54)
 have HB:=qq hb0
 have hof:=qq (fun w=>zk6 h.pw h.np a w ha ha2)
 rw [hi,hj,h2] at hof
 have HS:=qq hs
 have hn6:(n:Int)<=1000000:=by obtain ⟨g1,g2,_⟩:=zc2 h1;have:=(zd6 g1).2;rw [hs.len] at g2;omega
 have HL1:=qq hl1
 have HL2:=qq hl2
 have hdc:=qq (fun w=>zs0 y w hy)
 have hz:Hid (∀ w',Below w.heap.size w w'->w'.cell? ⟨b,off+i*4,none⟩=some (.int .i64 xk)/\w'.cell? ⟨b,off+i*4+1,none⟩=some (.int .i64 xs)/\w'.cell? ⟨b,off+i*4+2,none⟩=some (.int .i64 xu)/\w'.cell? ⟨b,off+i*4+3,none⟩=some (.int .i64 xp)):=fun w' hb=>by
  obtain ⟨x',b',off',e1,e2,z⟩:=(hr.keep hb).at_ him
  simp at e2
  obtain ⟨rfl,rfl⟩:=e2
  obtain rfl:(⟨xk,xs,xu,xp⟩:Pg)=x':=by rw [hx] at e1;exact Option.some.inj e1
  exact z
 have him2:(i:Int) < m:=by omega
 obtain ⟨e1,e2,e3⟩:=dec_ok ho
 have hv:=(zr2 ho).2.2
 have hsz:=qq (fun w=>zn3 (dK y) (dN y) (dM y) w (by omega) (by unfold dM;omega))
 rw [zu2 hv] at hsz
 rw [e1,e2,e3,ho] at hdc
 have hn4:(dN y:Int)<=4095:=by unfold dN;omega
 obtain ⟨K,hK⟩:∃ K:Int,Hid (((dK y:Nat):Int)=K):=⟨_,rfl⟩
 obtain ⟨N,hN,hN0⟩:∃ N:Int,Hid (((dN y:Nat):Int)=N)/\0<=N:=⟨_,rfl,by omega⟩
 obtain ⟨M,hM⟩:∃ M:Int,Hid (((dM y:Nat):Int)=M):=⟨_,rfl⟩
 rw [hK.out,hN.out,hM.out] at hdc hsz
 rw [hN.out] at hB hn4
 rw [hK.out,hN.out,hM.out]
 clear hs hr h1 h2 hb0 hi hj hx hl1 hl2 e1 e2 e3 hv ho
 rcases k12 with rfl | rfl
 · rw [if_pos rfl] at hB
   by_cases hf:(j:Int)+(N+1)<=xu
   · rw [decide_eq_true hf] at hB
     subst hB
     go_enter Tryz.func26,Tryz.ntmps26
     go_wp2_with fail
     refine hp.out.mono ?_
     rintro e w1 ⟨rfl,hb1⟩
     have x0:w1.cell? ⟨w.heap.size,0,none⟩=some (.int .i64 h.pw):=by rw [hb1.cell (by simp;omega)];simp
     have x1:w1.cell? ⟨w.heap.size,1,none⟩=some (.int .i64 h.np):=by rw [hb1.cell (by simp;omega)];simp
     have x2:w1.cell? ⟨w.heap.size,2,none⟩=some (.slice p n c):=by rw [hb1.cell (by simp;omega)];simp
     have x3:w1.cell? ⟨w.heap.size,3,none⟩=some (.slice (some ⟨b,off,none⟩) m d):=by rw [hb1.cell (by simp;omega)];simp
     have hw1:=za3 HB.out hb1
     have Ho1:=qq (Ho.out.keep hb1)
     clear hp Ho HB hb1
     go_wp2_with fail
     refine (hof.out _).mono ?_
     rintro e w2 ⟨rfl,hb2⟩
     have x2:=za0 hb2 x2
     have x3:=za0 hb2 x3
     have hw2:=za3 hw1 hb2
     obtain ⟨z0,z1,z2,z3⟩:=hz.out _ hw2
     have Hs2:=qq ((HS.out.keep hw2).keep (za1 (w:=w2) (o:=.cells #[.int .i64 1,.int .i64 xs,.int .i64 xu,.int .i64 xp] 77)))
     have lh:w.heap.size < w2.heap.size:=zb4 x3
     have Ho2:=qq ((Ho1.out.keep hb2).keep (za1 (w:=w2) (o:=.cells #[.int .i64 1,.int .i64 xs,.int .i64 xu,.int .i64 xp] 77)))
     clear hof Ho1 hb2 hw1 x0 x1
     go_wp2_with fail
     refine (zd9 p n c h.words a _ Hs2.out hn6 ha ha2).mono ?_
     rw [HL1.out,HL2.out]
     rintro e w' ⟨rfl,rfl⟩
     go_wp2_with fail
     refine (hdc.out _).mono ?_
     rintro e w3 ⟨rfl,hb3⟩
     have p0:=za5 hb3 0 (v:=.int .i64 1) rfl
     have p1:=za5 hb3 1 (v:=.int .i64 xs) rfl
     have p2:=za5 hb3 2 (v:=.int .i64 xu) rfl
     have p3:=za5 hb3 3 (v:=.int .i64 xp) rfl
     have hw3:=za3 (za3 hw2 za1) hb3
     have lp:w2.heap.size < w3.heap.size:=zb4 p0
     have Ho3:=qq (Ho2.out.keep hb3)
     clear hdc Hs2 Ho2 hb3 hw2 z0 z1 z2 z3
     go_wp2_with fail
     refine (hsz.out _).mono ?_
     rintro e w4 ⟨rfl,hb4⟩
     have q0:=za0 (za4 hb4) p0
     have q1:=za0 (za4 hb4) p1
     have q2:=za0 (za4 hb4) p2
     have q3:=za0 (za4 hb4) p3
     have y0:=za5 hb4 0 (v:=.int .i64 K) rfl
     have y1:=za5 hb4 1 (v:=.int .i64 N) rfl
     have y2:=za5 hb4 2 (v:=.int .u32 M) rfl
     have Ho4:=Ho3.out.keep (za4 hb4)
     simp only [World.size_alloc] at Ho4
     obtain ⟨d0,d1,d2,f0,f1,f2⟩:=Ho4
     have hw4:=za3 hw3 (za4 hb4)
     have l3:w3.heap.size < w4.heap.size:=zb4 y0
     clear Ho3 hsz hb4 p0 p1 p2 p3
     go_wp2
     exact bodyPost_ret (v:=.tuple #[.agg #[.int .i64 K,.int .i64 N,.int .u32 M],.int .i64 0]) (by simp [results,Tryz.results26,go_sem,d0,d1,d2]) rfl ⟨rfl,zb9 hw4 (Nat.le_succ _)⟩
   · rw [decide_eq_false hf] at hB
     subst hB
     go_enter Tryz.func26,Tryz.ntmps26
     go_wp2_with fail
     refine hp.out.mono ?_
     rintro e w1 ⟨rfl,hb1⟩
     have x0:w1.cell? ⟨w.heap.size,0,none⟩=some (.int .i64 h.pw):=by rw [hb1.cell (by simp;omega)];simp
     have x1:w1.cell? ⟨w.heap.size,1,none⟩=some (.int .i64 h.np):=by rw [hb1.cell (by simp;omega)];simp
     have x2:w1.cell? ⟨w.heap.size,2,none⟩=some (.slice p n c):=by rw [hb1.cell (by simp;omega)];simp
     have x3:w1.cell? ⟨w.heap.size,3,none⟩=some (.slice (some ⟨b,off,none⟩) m d):=by rw [hb1.cell (by simp;omega)];simp
     have hw1:=za3 HB.out hb1
     have Ho1:=qq (Ho.out.keep hb1)
     clear hp Ho HB hb1
     go_wp2_with fail
     refine (hof.out _).mono ?_
     rintro e w2 ⟨rfl,hb2⟩
     have x2:=za0 hb2 x2
     have x3:=za0 hb2 x3
     have hw2:=za3 hw1 hb2
     obtain ⟨z0,z1,z2,z3⟩:=hz.out _ hw2
     have Hs2:=qq ((HS.out.keep hw2).keep (za1 (w:=w2) (o:=.cells #[.int .i64 1,.int .i64 xs,.int .i64 xu,.int .i64 xp] 77)))
     have lh:w.heap.size < w2.heap.size:=zb4 x3
     have Ho2:=qq ((Ho1.out.keep hb2).keep (za1 (w:=w2) (o:=.cells #[.int .i64 1,.int .i64 xs,.int .i64 xu,.int .i64 xp] 77)))
     clear hof Ho1 hb2 hw1 x0 x1
     go_wp2_with fail
     refine (zd9 p n c h.words a _ Hs2.out hn6 ha ha2).mono ?_
     rw [HL1.out,HL2.out]
     rintro e w' ⟨rfl,rfl⟩
     go_wp2_with fail
     refine (hdc.out _).mono ?_
     rintro e w3 ⟨rfl,hb3⟩
     have p0:=za5 hb3 0 (v:=.int .i64 1) rfl
     have p1:=za5 hb3 1 (v:=.int .i64 xs) rfl
     have p2:=za5 hb3 2 (v:=.int .i64 xu) rfl
     have p3:=za5 hb3 3 (v:=.int .i64 xp) rfl
     have hw3:=za3 (za3 hw2 za1) hb3
     have lp:w2.heap.size < w3.heap.size:=zb4 p0
     have Ho3:=qq (Ho2.out.keep hb3)
     clear hdc Hs2 Ho2 hb3 hw2 z0 z1 z2 z3
     go_wp2_with fail
     refine (hsz.out _).mono ?_
     rintro e w4 ⟨rfl,hb4⟩
     have q0:=za0 (za4 hb4) p0
     have q1:=za0 (za4 hb4) p1
     have q2:=za0 (za4 hb4) p2
     have q3:=za0 (za4 hb4) p3
     have y0:=za5 hb4 0 (v:=.int .i64 K) rfl
     have y1:=za5 hb4 1 (v:=.int .i64 N) rfl
     have y2:=za5 hb4 2 (v:=.int .u32 M) rfl
     have Ho4:=Ho3.out.keep (za4 hb4)
     simp only [World.size_alloc] at Ho4
     obtain ⟨d0,d1,d2,f0,f1,f2⟩:=Ho4
     have hw4:=za3 hw3 (za4 hb4)
     have l3:w3.heap.size < w4.heap.size:=zb4 y0
     clear Ho3 hsz hb4 p0 p1 p2 p3
     go_wp2
     exact bodyPost_ret (v:=.tuple #[.agg #[.int .i64 0,.int .i64 0,.int .u32 0],.int .i64 19]) (by simp [results,Tryz.results26,go_sem,d0,d1,d2]) rfl ⟨rfl,zb9 hw4 (Nat.le_succ _)⟩
 · rw [if_neg (by decide)] at hB
   by_cases hj0:(j:Int)=0
   · by_cases hf:N+1=xu
     · rw [decide_eq_true ⟨hj0,hf⟩] at hB
       subst hB
       have b1:((j:Int) != 0)=false:=by rw [hj0];rfl
       have b2:(N+1 != xu)=false:=by rw [hf];simp
       clear hf hj0
       go_enter Tryz.func26,Tryz.ntmps26
       go_wp2_with fail
       refine hp.out.mono ?_
       rintro e w1 ⟨rfl,hb1⟩
       have x0:w1.cell? ⟨w.heap.size,0,none⟩=some (.int .i64 h.pw):=by rw [hb1.cell (by simp;omega)];simp
       have x1:w1.cell? ⟨w.heap.size,1,none⟩=some (.int .i64 h.np):=by rw [hb1.cell (by simp;omega)];simp
       have x2:w1.cell? ⟨w.heap.size,2,none⟩=some (.slice p n c):=by rw [hb1.cell (by simp;omega)];simp
       have x3:w1.cell? ⟨w.heap.size,3,none⟩=some (.slice (some ⟨b,off,none⟩) m d):=by rw [hb1.cell (by simp;omega)];simp
       have hw1:=za3 HB.out hb1
       have Ho1:=qq (Ho.out.keep hb1)
       clear hp Ho HB hb1
       go_wp2_with fail
       refine (hof.out _).mono ?_
       rintro e w2 ⟨rfl,hb2⟩
       have x2:=za0 hb2 x2
       have x3:=za0 hb2 x3
       have hw2:=za3 hw1 hb2
       obtain ⟨z0,z1,z2,z3⟩:=hz.out _ hw2
       have Hs2:=qq ((HS.out.keep hw2).keep (za1 (w:=w2) (o:=.cells #[.int .i64 2,.int .i64 xs,.int .i64 xu,.int .i64 xp] 77)))
       have lh:w.heap.size < w2.heap.size:=zb4 x3
       have Ho2:=qq ((Ho1.out.keep hb2).keep (za1 (w:=w2) (o:=.cells #[.int .i64 2,.int .i64 xs,.int .i64 xu,.int .i64 xp] 77)))
       clear hof Ho1 hb2 hw1 x0 x1
       go_wp2_with fail
       refine (zd9 p n c h.words a _ Hs2.out hn6 ha ha2).mono ?_
       rw [HL1.out,HL2.out]
       rintro e w' ⟨rfl,rfl⟩
       go_wp2_with fail
       refine (hdc.out _).mono ?_
       rintro e w3 ⟨rfl,hb3⟩
       have p0:=za5 hb3 0 (v:=.int .i64 2) rfl
       have p1:=za5 hb3 1 (v:=.int .i64 xs) rfl
       have p2:=za5 hb3 2 (v:=.int .i64 xu) rfl
       have p3:=za5 hb3 3 (v:=.int .i64 xp) rfl
       have hw3:=za3 (za3 hw2 za1) hb3
       have lp:w2.heap.size < w3.heap.size:=zb4 p0
       have Ho3:=qq (Ho2.out.keep hb3)
       clear hdc Hs2 Ho2 hb3 hw2 z0 z1 z2 z3
       go_wp2_with fail
       refine (hsz.out _).mono ?_
       rintro e w4 ⟨rfl,hb4⟩
       have q0:=za0 (za4 hb4) p0
       have q1:=za0 (za4 hb4) p1
       have q2:=za0 (za4 hb4) p2
       have q3:=za0 (za4 hb4) p3
       have y0:=za5 hb4 0 (v:=.int .i64 K) rfl
       have y1:=za5 hb4 1 (v:=.int .i64 N) rfl
       have y2:=za5 hb4 2 (v:=.int .u32 M) rfl
       have Ho4:=Ho3.out.keep (za4 hb4)
       simp only [World.size_alloc] at Ho4
       obtain ⟨d0,d1,d2,f0,f1,f2⟩:=Ho4
       have hw4:=za3 hw3 (za4 hb4)
       have l3:w3.heap.size < w4.heap.size:=zb4 y0
       clear Ho3 hsz hb4 p0 p1 p2 p3
       go_wp2
       exact bodyPost_ret (v:=.tuple #[.agg #[.int .i64 K,.int .i64 N,.int .u32 M],.int .i64 0]) (by simp [results,Tryz.results26,go_sem,d0,d1,d2]) rfl ⟨rfl,zb9 hw4 (Nat.le_succ _)⟩
     · rw [decide_eq_false fun h=>hf h.2] at hB
       subst hB
       have b1:((j:Int) != 0)=false:=by rw [hj0];rfl
       have b2:(N+1 != xu)=true:=bne_iff_ne.2 hf
       clear hf hj0
       go_enter Tryz.func26,Tryz.ntmps26
       go_wp2_with fail
       refine hp.out.mono ?_
       rintro e w1 ⟨rfl,hb1⟩
       have x0:w1.cell? ⟨w.heap.size,0,none⟩=some (.int .i64 h.pw):=by rw [hb1.cell (by simp;omega)];simp
       have x1:w1.cell? ⟨w.heap.size,1,none⟩=some (.int .i64 h.np):=by rw [hb1.cell (by simp;omega)];simp
       have x2:w1.cell? ⟨w.heap.size,2,none⟩=some (.slice p n c):=by rw [hb1.cell (by simp;omega)];simp
       have x3:w1.cell? ⟨w.heap.size,3,none⟩=some (.slice (some ⟨b,off,none⟩) m d):=by rw [hb1.cell (by simp;omega)];simp
       have hw1:=za3 HB.out hb1
       have Ho1:=qq (Ho.out.keep hb1)
       clear hp Ho HB hb1
       go_wp2_with fail
       refine (hof.out _).mono ?_
       rintro e w2 ⟨rfl,hb2⟩
       have x2:=za0 hb2 x2
       have x3:=za0 hb2 x3
       have hw2:=za3 hw1 hb2
       obtain ⟨z0,z1,z2,z3⟩:=hz.out _ hw2
       have Hs2:=qq ((HS.out.keep hw2).keep (za1 (w:=w2) (o:=.cells #[.int .i64 2,.int .i64 xs,.int .i64 xu,.int .i64 xp] 77)))
       have lh:w.heap.size < w2.heap.size:=zb4 x3
       have Ho2:=qq ((Ho1.out.keep hb2).keep (za1 (w:=w2) (o:=.cells #[.int .i64 2,.int .i64 xs,.int .i64 xu,.int .i64 xp] 77)))
       clear hof Ho1 hb2 hw1 x0 x1
       go_wp2_with fail
       refine (zd9 p n c h.words a _ Hs2.out hn6 ha ha2).mono ?_
       rw [HL1.out,HL2.out]
       rintro e w' ⟨rfl,rfl⟩
       go_wp2_with fail
       refine (hdc.out _).mono ?_
       rintro e w3 ⟨rfl,hb3⟩
       have p0:=za5 hb3 0 (v:=.int .i64 2) rfl
       have p1:=za5 hb3 1 (v:=.int .i64 xs) rfl
       have p2:=za5 hb3 2 (v:=.int .i64 xu) rfl
       have p3:=za5 hb3 3 (v:=.int .i64 xp) rfl
       have hw3:=za3 (za3 hw2 za1) hb3
       have lp:w2.heap.size < w3.heap.size:=zb4 p0
       have Ho3:=qq (Ho2.out.keep hb3)
       clear hdc Hs2 Ho2 hb3 hw2 z0 z1 z2 z3
       go_wp2_with fail
       refine (hsz.out _).mono ?_
       rintro e w4 ⟨rfl,hb4⟩
       have q0:=za0 (za4 hb4) p0
       have q1:=za0 (za4 hb4) p1
       have q2:=za0 (za4 hb4) p2
       have q3:=za0 (za4 hb4) p3
       have y0:=za5 hb4 0 (v:=.int .i64 K) rfl
       have y1:=za5 hb4 1 (v:=.int .i64 N) rfl
       have y2:=za5 hb4 2 (v:=.int .u32 M) rfl
       have Ho4:=Ho3.out.keep (za4 hb4)
       simp only [World.size_alloc] at Ho4
       obtain ⟨d0,d1,d2,f0,f1,f2⟩:=Ho4
       have hw4:=za3 hw3 (za4 hb4)
       have l3:w3.heap.size < w4.heap.size:=zb4 y0
       clear Ho3 hsz hb4 p0 p1 p2 p3
       go_wp2
       exact bodyPost_ret (v:=.tuple #[.agg #[.int .i64 0,.int .i64 0,.int .u32 0],.int .i64 19]) (by simp [results,Tryz.results26,go_sem,d0,d1,d2]) rfl ⟨rfl,zb9 hw4 (Nat.le_succ _)⟩
   · rw [decide_eq_false fun h=>hj0 h.1] at hB
     subst hB
     have b1:((j:Int) != 0)=true:=bne_iff_ne.2 hj0
     clear hj0
     go_enter Tryz.func26,Tryz.ntmps26
     go_wp2_with fail
     refine hp.out.mono ?_
     rintro e w1 ⟨rfl,hb1⟩
     have x0:w1.cell? ⟨w.heap.size,0,none⟩=some (.int .i64 h.pw):=by rw [hb1.cell (by simp;omega)];simp
     have x1:w1.cell? ⟨w.heap.size,1,none⟩=some (.int .i64 h.np):=by rw [hb1.cell (by simp;omega)];simp
     have x2:w1.cell? ⟨w.heap.size,2,none⟩=some (.slice p n c):=by rw [hb1.cell (by simp;omega)];simp
     have x3:w1.cell? ⟨w.heap.size,3,none⟩=some (.slice (some ⟨b,off,none⟩) m d):=by rw [hb1.cell (by simp;omega)];simp
     have hw1:=za3 HB.out hb1
     have Ho1:=qq (Ho.out.keep hb1)
     clear hp Ho HB hb1
     go_wp2_with fail
     refine (hof.out _).mono ?_
     rintro e w2 ⟨rfl,hb2⟩
     have x2:=za0 hb2 x2
     have x3:=za0 hb2 x3
     have hw2:=za3 hw1 hb2
     obtain ⟨z0,z1,z2,z3⟩:=hz.out _ hw2
     have Hs2:=qq ((HS.out.keep hw2).keep (za1 (w:=w2) (o:=.cells #[.int .i64 2,.int .i64 xs,.int .i64 xu,.int .i64 xp] 77)))
     have lh:w.heap.size < w2.heap.size:=zb4 x3
     have Ho2:=qq ((Ho1.out.keep hb2).keep (za1 (w:=w2) (o:=.cells #[.int .i64 2,.int .i64 xs,.int .i64 xu,.int .i64 xp] 77)))
     clear hof Ho1 hb2 hw1 x0 x1
     go_wp2_with fail
     refine (zd9 p n c h.words a _ Hs2.out hn6 ha ha2).mono ?_
     rw [HL1.out,HL2.out]
     rintro e w' ⟨rfl,rfl⟩
     go_wp2_with fail
     refine (hdc.out _).mono ?_
     rintro e w3 ⟨rfl,hb3⟩
     have p0:=za5 hb3 0 (v:=.int .i64 2) rfl
     have p1:=za5 hb3 1 (v:=.int .i64 xs) rfl
     have p2:=za5 hb3 2 (v:=.int .i64 xu) rfl
     have p3:=za5 hb3 3 (v:=.int .i64 xp) rfl
     have hw3:=za3 (za3 hw2 za1) hb3
     have lp:w2.heap.size < w3.heap.size:=zb4 p0
     have Ho3:=qq (Ho2.out.keep hb3)
     clear hdc Hs2 Ho2 hb3 hw2 z0 z1 z2 z3
     go_wp2_with fail
     refine (hsz.out _).mono ?_
     rintro e w4 ⟨rfl,hb4⟩
     have q0:=za0 (za4 hb4) p0
     have q1:=za0 (za4 hb4) p1
     have q2:=za0 (za4 hb4) p2
     have q3:=za0 (za4 hb4) p3
     have y0:=za5 hb4 0 (v:=.int .i64 K) rfl
     have y1:=za5 hb4 1 (v:=.int .i64 N) rfl
     have y2:=za5 hb4 2 (v:=.int .u32 M) rfl
     have Ho4:=Ho3.out.keep (za4 hb4)
     simp only [World.size_alloc] at Ho4
     obtain ⟨d0,d1,d2,f0,f1,f2⟩:=Ho4
     have hw4:=za3 hw3 (za4 hb4)
     have l3:w3.heap.size < w4.heap.size:=zb4 y0
     clear Ho3 hsz hb4 p0 p1 p2 p3
     go_wp2
     exact bodyPost_ret (v:=.tuple #[.agg #[.int .i64 0,.int .i64 0,.int .u32 0],.int .i64 19]) (by simp [results,Tryz.results26,go_sem,d0,d1,d2]) rfl ⟨rfl,zb9 hw4 (Nat.le_succ _)⟩
end Go.Proofs.YtipjdbhocjpmdaaGreat
