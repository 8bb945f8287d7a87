import Derived.Test.YtipjdbhocjpmdaaGreatQ01
import Derived.Test.YtipjdbhocjpmdaaGreatQ05
import Derived.Test.YtipjdbhocjpmdaaGreatQ18
import Derived.Deep.RegionHeld3
set_option linter.unusedSimpArgs false
set_option linter.unusedVariables false
set_option maxRecDepth 100000
set_option maxHeartbeats 12800000
namespace Go.Proofs.YtipjdbhocjpmdaaGreat
open Go.RowKit
theorem word_of {h:Hp} {a:Int} (hw:WB h.words) (hp:okH h=true) (he:ofE h.pw h.np a=0):ze1 h.words a=zg4 h a/\loadE h.words a=0/\zg4 h a < 18446744073709551616:=by
 obtain ⟨_,_,t,rfl,ht⟩:=of_in hp he
 have hx:h.words[t]?=some (h.words[t]):=List.getElem?_eq_getElem ht
 have hk:okA h.words.length (4096+(t:Int)) 1=true:=decide_eq_true (by omega)
 obtain ⟨e1,e2⟩:=load_ok' hk hx
 obtain ⟨b1,b2⟩:=hw _ (List.getElem_mem ht)
 have e3:zg4 h (4096+(t:Int))=(h.words[t]).toNat:=by unfold zg4;rw [okA_off,List.getD_eq_getElem?_getD,hx];rfl
 rw [e1,e2,e3]
 exact ⟨by omega,rfl,by omega⟩
theorem yc4 (h:Hp) (p q:Option Addr) (n c m d:Nat) (a:Int) (w:World) (hs:SRow w .u64 p n c h.words) (hr:PRow w q m d h.pages) (hw:WB h.words) (ha:0<=a) (ha2:a < 18446744073709551616) :
 Calls Tryz.prog 26 #[.agg #[.int .i64 h.pw,.int .i64 h.np,.slice p n c,.slice q m d,.int .i64 h.space,.int .i64 h.bump],.int .u64 a] w fun e w'=>e = .returned (.tuple #[.agg #[.int .i64 (atH h a).k,.int .i64 (atH h a).n,.int .u32 (atH h a).m],.int .i64 (atE h a)])/\Below w.heap.size w w':=by
 cases h1:okH h
 · obtain ⟨e1,e2⟩:=atE_bad (a:=a) h1
   rw [e1,e2]
   exact at_bad h p q n c m d a w hs hr h1
 · by_cases h2:ofE h.pw h.np a=0
   · obtain ⟨hin,⟨i,j,hi,hj,hil,hjl,_⟩,_⟩:=of_in h1 h2
     obtain ⟨hl1,hl2,hy⟩:=word_of hw h1 h2
     have hlen:=hr.len
     obtain ⟨x,b,off,hx,rfl,_⟩:=hr.at_ (k:=i) (by omega)
     have hpo:zv0 h a=x:=by unfold zv0;rw [hi,Int.toNat_natCast];exact zc6 hx
     have hj9:(j:Int)<=100:=by have:=(zb1 (zc2 h1).1).2.1;omega
     have hmem:=zn2 _ _ _ _ (zc2 h1).2.2.2.2.2.2 x (List.mem_of_getElem? hx)
     have hu9:(x.kind=1\/x.kind=2)->x.used<=1000:=by
      rintro (k | k)
      · have:=hmem.2.2.2.2.2.1 k;have:=(zb1 (zc2 h1).1).2.1;omega
      · have hn:=hmem.2.2.2.2.2.2.1 k
        have:=(zb1 (zc2 h1).1).2.1
        by_cases hu1:1<=x.used
        · rw [zx2 (zc2 h1).1 hu1] at hn
          unfold zl2 at hn
          repeat (first | omega | split at hn)
        · omega
     obtain ⟨xk,xs,xu,xp⟩:=x
     simp only at hu9
     by_cases hno:(¬xk=1/\¬xk=2)\/xu<=j\/okD (zg4 h a)=false
     · have hB:atB h a=false:=by
        unfold atB
        rw [hpo,hj]
        rcases hno with e | e | e
        · have:decide (xk=1\/xk=2)=false:=decide_eq_false (by rintro (h | h);exact e.1 h;exact e.2 h)
          simp [this]
        · have:decide ((j:Int) < xu)=false:=decide_eq_false (by omega)
          simp [this]
        · simp [e]
       obtain ⟨e1,e2⟩:=atE_no h1 h2 hB
       rw [e1,e2]
       exact at_word_no h p b off n c m d a w hs hr ha ha2 h1 h2 i j (zg4 h a) xk xs xu xp hi hj (by omega) hx hy hl1 hl2 hno
     · have k12:xk=1\/xk=2:=by
        by_cases k1:xk=1
        · exact Or.inl k1
        · by_cases k2:xk=2
          · exact Or.inr k2
          · exact absurd (Or.inl ⟨k1,k2⟩) hno
       have hu:(j:Int) < xu:=by
        by_cases hu:xu<=j
        · exact absurd (Or.inr (Or.inl hu)) hno
        · omega
       have ho:okD (zg4 h a)=true:=by
        cases ho:okD (zg4 h a)
        · exact absurd (Or.inr (Or.inr ho)) hno
        · rfl
       have hB:atB h a=if xk=1 then decide ((j:Int)+(dN (zg4 h a)+1)<=xu) else decide ((j:Int)=0/\(dN (zg4 h a):Int)+1=xu):=by
        unfold atB
        rw [hpo,hj,ho,decide_eq_true k12,decide_eq_true hu]
        simp
       have key:=at_word_is h p b off n c m d a w hs hr ha ha2 h1 h2 i j (zg4 h a) xk xs xu xp hi hj hj9 (by omega) hx hy hl1 hl2 hu ho (atB h a) hB k12 (hu9 k12)
       cases hb:atB h a
       · obtain ⟨e1,e2⟩:=atE_no h1 h2 hb
         rw [e1,e2]
         rw [hb] at key
         exact key
       · obtain ⟨e1,e2⟩:=atE_ok h1 h2 hb
         rw [e1,e2]
         rw [hb] at key
         exact key
   · obtain ⟨e1,e2⟩:=atE_out h1 h2
     rw [e1,e2]
     exact at_out h p q n c m d a w hs hr ha ha2 h1 h2
theorem yc5 {h:Hp} {a:Int} (e:¬getE h a=0):getH h a=Hd.zero:=by unfold getH;rw [if_neg e]
theorem getE_bad {h:Hp} {a:Int} (h1:okH h=false):getE h a=1/\getH h a=Hd.zero:=by
 have e:getE h a=1:=by unfold getE;rw [if_neg (by simp [h1])]
 exact ⟨e,yc5 (by rw [e];decide)⟩
theorem getE_null {h:Hp} (h1:okH h=true):getE h 0=5/\getH h 0=Hd.zero:=by
 have e:getE h 0=5:=by unfold getE;rw [if_pos h1,if_pos rfl]
 exact ⟨e,yc5 (by rw [e];decide)⟩
theorem getE_kind {h:Hp} {a:Int} (h1:okH h=true) (h2:¬a=0) (h3:atE h a=0) (h4:(atH h a).k=0):getE h a=4/\getH h a=Hd.zero:=by
 have e:getE h a=4:=by unfold getE;rw [if_pos h1,if_neg h2,if_pos ⟨h3,h4⟩]
 exact ⟨e,yc5 (by rw [e];decide)⟩
theorem getE_at {h:Hp} {a:Int} (h1:okH h=true) (h2:¬a=0) (h3:¬(atE h a=0/\(atH h a).k=0)):getE h a=atE h a/\getH h a=atH h a:=by
 have e:getE h a=atE h a:=by unfold getE;rw [if_pos h1,if_neg h2,if_neg h3]
 refine ⟨e,?_⟩
 unfold getH
 by_cases h4:getE h a=0
 · rw [if_pos h4]
 · rw [if_neg h4];rw [e] at h4;unfold atH;rw [if_neg h4]
theorem ya2 (h:Hp) (p q:Option Addr) (n c m d:Nat) (a:Int) (w:World) (hs:SRow w .u64 p n c h.words) (hr:PRow w q m d h.pages) (hw:WB h.words) (ha:0<=a) (ha2:a < 18446744073709551616) :
 Calls Tryz.prog 28 #[.agg #[.int .i64 h.pw,.int .i64 h.np,.slice p n c,.slice q m d,.int .i64 h.space,.int .i64 h.bump],.int .u64 a] w fun e w'=>e = .returned (.tuple #[.agg #[.int .i64 (getH h a).k,.int .i64 (getH h a).n,.int .u32 (getH h a).m],.int .i64 (getE h a)])/\Below w.heap.size w w':=by
 have hb0:Below w.heap.size w ((w.alloc (.cells #[.int .i64 h.pw,.int .i64 h.np,.slice p n c,.slice q m d,.int .i64 h.space,.int .i64 h.bump] 27)).alloc (.cells #[.int .i64 0,.int .i64 0,.int .u32 0] 54)):=za3 za1 za1
 obtain ⟨OK,hOK⟩:∃ b,Hid (okH h=b):=⟨_,rfl⟩
 have hp:=qq (zf7 hOK.out _ (hs.keep hb0) (hr.keep hb0))
 have Ho:=qq (Own3.new (w.alloc (.cells #[.int .i64 h.pw,.int .i64 h.np,.slice p n c,.slice q m d,.int .i64 h.space,.int .i64 h.bump] 27)) (.int .i64 0) (.int .i64 0) (.int .u32 0) 54)
 have HB:=qq hb0
 have HS:=qq hs
 have HR:=qq hr
 have hat:=qq (fun w' (hb:Below w.heap.size w w')=>yc4 h p q n c m d a w' (hs.keep hb) (hr.keep hb) hw ha ha2)
 clear hs hr hb0
 cases OK
 · obtain ⟨e1,e2⟩:=getE_bad (a:=a) hOK.out
   rw [e1,e2]
   clear e1 e2
   go_enter Tryz.func28,Tryz.ntmps28
   go_wp2_with fail
   refine hp.out.mono ?_
   rintro e w1 ⟨rfl,hb1⟩
   have hw1:=za3 HB.out hb1
   have Ho1:=qq (Ho.out.keep hb1)
   have Ho2:=Ho1.out
   simp only [World.size_alloc] at Ho2
   clear hp Ho HB hb1 hat
   obtain ⟨d0,d1,d2,f0,f1,f2⟩:=Ho2
   go_wp2
   exact bodyPost_ret (v:=.tuple #[.agg #[.int .i64 0,.int .i64 0,.int .u32 0],.int .i64 1]) (by simp [results,Tryz.results28,go_sem,d0,d1,d2]) rfl ⟨rfl,zb9 hw1 (Nat.le_succ _)⟩
 · by_cases h0:a=0
   · subst h0
     obtain ⟨e1,e2⟩:=getE_null hOK.out
     rw [e1,e2]
     clear e1 e2
     go_enter Tryz.func28,Tryz.ntmps28
     go_wp2_with fail
     refine hp.out.mono ?_
     rintro e w1 ⟨rfl,hb1⟩
     have hw1:=za3 HB.out hb1
     have Ho1:=qq (Ho.out.keep hb1)
     have Ho2:=Ho1.out
     simp only [World.size_alloc] at Ho2
     clear hp Ho HB hb1 hat
     obtain ⟨d0,d1,d2,f0,f1,f2⟩:=Ho2
     go_wp2
     exact bodyPost_ret (v:=.tuple #[.agg #[.int .i64 0,.int .i64 0,.int .u32 0],.int .i64 5]) (by simp [results,Tryz.results28,go_sem,d0,d1,d2]) rfl ⟨rfl,zb9 hw1 (Nat.le_succ _)⟩
   · have hne:(a == 0)=false:=beq_eq_false_iff_ne.2 h0
     have H0:=qq h0
     clear h0
     obtain ⟨E,hE⟩:∃ E,Hid (atE h a=E):=⟨_,rfl⟩
     obtain ⟨⟨K,N,M⟩,hX⟩:∃ X,Hid (atH h a=X):=⟨_,rfl⟩
     rw [hE.out,hX.out] at hat
     simp only at hat
     by_cases hk:E=0/\K=0
     · obtain ⟨e1,e2⟩:=getE_kind hOK.out H0.out (by rw [hE.out];exact hk.1) (by rw [hX.out];exact hk.2)
       obtain ⟨rfl,rfl⟩:=hk
       rw [e1,e2]
       clear e1 e2
       go_enter Tryz.func28,Tryz.ntmps28
       go_wp2_with fail
       refine hp.out.mono ?_
       rintro e w1 ⟨rfl,hb1⟩
       have hw1:=za3 HB.out hb1
       have Ho1:=qq (Ho.out.keep hb1)
       have x0:w1.cell? ⟨w.heap.size,0,none⟩=some (.int .i64 h.pw):=by rw [hb1.cell (by simp;omega)];simp
       have x1:w1.cell? ⟨w.heap.size,1,none⟩=some (.int .i64 h.np):=by rw [hb1.cell (by simp;omega)];simp
       have x2:w1.cell? ⟨w.heap.size,2,none⟩=some (.slice p n c):=by rw [hb1.cell (by simp;omega)];simp
       have x3:w1.cell? ⟨w.heap.size,3,none⟩=some (.slice q m d):=by rw [hb1.cell (by simp;omega)];simp
       have x4:w1.cell? ⟨w.heap.size,4,none⟩=some (.int .i64 h.space):=by rw [hb1.cell (by simp;omega)];simp
       have x5:w1.cell? ⟨w.heap.size,5,none⟩=some (.int .i64 h.bump):=by rw [hb1.cell (by simp;omega)];simp
       clear hp Ho HB hb1
       go_wp2_with fail
       refine (hat.out _ hw1).mono ?_
       rintro e w2 ⟨rfl,hb2⟩
       have hw2:=za3 hw1 hb2
       have Ho2:=qq (Ho1.out.keep hb2)
       have Ho3:=Ho2.out.keep (za1 (w:=w2) (o:=.cells #[.int .i64 0,.int .i64 N,.int .u32 M] 54))
       simp only [World.size_alloc] at Ho3
       have hw3:=za3 hw2 (za1 (o:=.cells #[.int .i64 0,.int .i64 N,.int .u32 M] 54))
       clear Ho1 hb2 hat x0 x1 x2 x3 x4 x5
       obtain ⟨d0,d1,d2,f0,f1,f2⟩:=Ho3
       go_wp2
       exact bodyPost_ret (v:=.tuple #[.agg #[.int .i64 0,.int .i64 0,.int .u32 0],.int .i64 4]) (by simp [results,Tryz.results28,go_sem,d0,d1,d2]) rfl ⟨rfl,zb9 hw3 (Nat.le_succ _)⟩
     · obtain ⟨e1,e2⟩:=getE_at hOK.out H0.out (by rw [hE.out,hX.out];exact hk)
       rw [e1,e2,hE.out,hX.out]
       clear e1 e2
       by_cases he:E=0
       · subst he
         have hk0:(K == 0)=false:=beq_eq_false_iff_ne.2 fun h=>hk ⟨rfl,h⟩
         clear hk
         go_enter Tryz.func28,Tryz.ntmps28
         go_wp2_with fail
         refine hp.out.mono ?_
         rintro e w1 ⟨rfl,hb1⟩
         have hw1:=za3 HB.out hb1
         have Ho1:=qq (Ho.out.keep hb1)
         have x0:w1.cell? ⟨w.heap.size,0,none⟩=some (.int .i64 h.pw):=by rw [hb1.cell (by simp;omega)];simp
         have x1:w1.cell? ⟨w.heap.size,1,none⟩=some (.int .i64 h.np):=by rw [hb1.cell (by simp;omega)];simp
         have x2:w1.cell? ⟨w.heap.size,2,none⟩=some (.slice p n c):=by rw [hb1.cell (by simp;omega)];simp
         have x3:w1.cell? ⟨w.heap.size,3,none⟩=some (.slice q m d):=by rw [hb1.cell (by simp;omega)];simp
         have x4:w1.cell? ⟨w.heap.size,4,none⟩=some (.int .i64 h.space):=by rw [hb1.cell (by simp;omega)];simp
         have x5:w1.cell? ⟨w.heap.size,5,none⟩=some (.int .i64 h.bump):=by rw [hb1.cell (by simp;omega)];simp
         clear hp Ho HB hb1
         go_wp2_with fail
         refine (hat.out _ hw1).mono ?_
         rintro e w2 ⟨rfl,hb2⟩
         have hw2:=za3 hw1 hb2
         have Ho2:=qq (Ho1.out.keep hb2)
         have Ho3:=Ho2.out.keep (za1 (w:=w2) (o:=.cells #[.int .i64 K,.int .i64 N,.int .u32 M] 54))
         simp only [World.size_alloc] at Ho3
         have hw3:=za3 hw2 (za1 (o:=.cells #[.int .i64 K,.int .i64 N,.int .u32 M] 54))
         clear Ho1 hb2 hat x0 x1 x2 x3 x4 x5
         obtain ⟨d0,d1,d2,f0,f1,f2⟩:=Ho3
         go_wp2
         exact bodyPost_ret (v:=.tuple #[.agg #[.int .i64 K,.int .i64 N,.int .u32 M],.int .i64 0]) (by simp [results,Tryz.results28,go_sem,d0,d1,d2]) rfl ⟨rfl,zb9 hw3 (Nat.le_succ _)⟩
       · have he0:(E == 0)=false:=beq_eq_false_iff_ne.2 he
         clear hk he
         go_enter Tryz.func28,Tryz.ntmps28
         go_wp2_with fail
         refine hp.out.mono ?_
         rintro e w1 ⟨rfl,hb1⟩
         have hw1:=za3 HB.out hb1
         have Ho1:=qq (Ho.out.keep hb1)
         have x0:w1.cell? ⟨w.heap.size,0,none⟩=some (.int .i64 h.pw):=by rw [hb1.cell (by simp;omega)];simp
         have x1:w1.cell? ⟨w.heap.size,1,none⟩=some (.int .i64 h.np):=by rw [hb1.cell (by simp;omega)];simp
         have x2:w1.cell? ⟨w.heap.size,2,none⟩=some (.slice p n c):=by rw [hb1.cell (by simp;omega)];simp
         have x3:w1.cell? ⟨w.heap.size,3,none⟩=some (.slice q m d):=by rw [hb1.cell (by simp;omega)];simp
         have x4:w1.cell? ⟨w.heap.size,4,none⟩=some (.int .i64 h.space):=by rw [hb1.cell (by simp;omega)];simp
         have x5:w1.cell? ⟨w.heap.size,5,none⟩=some (.int .i64 h.bump):=by rw [hb1.cell (by simp;omega)];simp
         clear hp Ho HB hb1
         go_wp2_with fail
         refine (hat.out _ hw1).mono ?_
         rintro e w2 ⟨rfl,hb2⟩
         have hw2:=za3 hw1 hb2
         have Ho2:=qq (Ho1.out.keep hb2)
         have Ho3:=Ho2.out.keep (za1 (w:=w2) (o:=.cells #[.int .i64 K,.int .i64 N,.int .u32 M] 54))
         simp only [World.size_alloc] at Ho3
         have hw3:=za3 hw2 (za1 (o:=.cells #[.int .i64 K,.int .i64 N,.int .u32 M] 54))
         clear Ho1 hb2 hat x0 x1 x2 x3 x4 x5
         obtain ⟨d0,d1,d2,f0,f1,f2⟩:=Ho3
         go_wp2
         exact bodyPost_ret (v:=.tuple #[.agg #[.int .i64 K,.int .i64 N,.int .u32 M],.int .i64 E]) (by simp [results,Tryz.results28,go_sem,d0,d1,d2]) rfl ⟨rfl,zb9 hw3 (Nat.le_succ _)⟩
theorem getE_in {h:Hp} {a:Int} (e:getE h a=0):okH h=true/\atE h a=0/\getH h a=atH h a/\ofE h.pw h.np a=0/\atB h a=true/\4096<=a/\a < 8192/\0<=(getH h a).n/\(getH h a).n<=255/\¬(getH h a).k=0:=by
 have h1:okH h=true:=by
  cases h1:okH h
  · rw [(getE_bad (a:=a) h1).1] at e;cases e
  · rfl
 have h2:¬a=0:=by intro h2;subst h2;rw [(getE_null h1).1] at e;cases e
 have h3:¬(atE h a=0/\(atH h a).k=0):=by rintro ⟨h3,h4⟩;rw [(getE_kind h1 h2 h3 h4).1] at e;cases e
 obtain ⟨e1,e2⟩:=getE_at h1 h2 h3
 have h4:atE h a=0:=by rw [<-e1];exact e
 have h5:ofE h.pw h.np a=0:=by
  by_cases h5:ofE h.pw h.np a=0
  · exact h5
  · rw [(atE_out h1 h5).1] at h4;cases h4
 have h6:atB h a=true:=by
  cases h6:atB h a
  · rw [(atE_no h1 h5 h6).1] at h4;cases h4
  · rfl
 obtain ⟨hin,_,t,ht,htl⟩:=of_in h1 h5
 obtain ⟨g1,g2,_⟩:=zc2 h1
 have:=(zd6 g1).2
 have hok:okD (zg4 h a)=true:=by
  unfold atB at h6
  simp only [Bool.and_eq_true] at h6
  exact h6.1.2
 have hv:=ze3 (zr2 hok).2.2
 have hH:getH h a=hdOf (zg4 h a):=by rw [e2,(atE_ok h1 h5 h6).2]
 refine ⟨h1,h4,e2,h5,h6,by omega,by omega,?_,?_,?_⟩
 · rw [hH];exact hv.2.2.1
 · rw [hH];exact hv.2.2.2.1
 · rw [e2];intro c;exact h3 ⟨h4,c⟩
theorem refField_any (h:Hp) (p q:Option Addr) (n c m d:Nat) (a i:Int) (w:World) (hs:SRow w .u64 p n c h.words) (hr:PRow w q m d h.pages) (hw:WB h.words) (ha:0<=a) (ha2:a < 18446744073709551616) :
 Calls Tryz.prog 31 #[.agg #[.int .i64 h.pw,.int .i64 h.np,.slice p n c,.slice q m d,.int .i64 h.space,.int .i64 h.bump],.int .u64 a,.int .i64 i] w fun e w'=>e = .returned (.tuple #[.int .u64 (fieldV h a i),.int .i64 (zo8 h a i)])/\Below w.heap.size w w':=by
 have hg:=qq (fun w' (hb:Below w.heap.size w w')=>ya2 h p q n c m d a w' (hs.keep hb) (hr.keep hb) hw ha ha2)
 have HS:=qq hs
 obtain ⟨E,hE⟩:∃ E,Hid (getE h a=E):=⟨_,rfl⟩
 obtain ⟨⟨K,N,M⟩,hX⟩:∃ X,Hid (getH h a=X):=⟨_,rfl⟩
 rw [hE.out,hX.out] at hg
 simp only at hg
 unfold zo8 fieldV
 rw [hE.out,hX.out]
 simp only
 by_cases he:E=0
 · have gi:=getE_in (h:=h) (a:=a) (by rw [hE.out];exact he)
   rw [hX.out] at gi
   obtain ⟨g1,-,-,-,-,ga,gb,gn0,gn1,-⟩:=gi
   simp only at gn0 gn1
   have hn6:n<=100000:=by obtain ⟨k1,k2,_⟩:=zc2 g1;have:=(zd6 k1).2;rw [hs.len] at k2;omega
   subst he
   by_cases hi:i < 0\/N<=i
   · rw [if_pos rfl,if_pos hi,if_pos rfl,if_pos hi]
     by_cases hi0:i < 0
     · clear hi hs hr g1
       go_enter Tryz.func31,Tryz.ntmps31
       go_wp2_with fail
       refine (hg.out _ za1).mono ?_
       rintro e w1 ⟨rfl,hb1⟩
       have x2:=za5 hb1 2 (v:=.slice p n c) rfl
       have hw1:=za3 (za4 hb1) (za1 (o:=.cells #[.int .i64 K,.int .i64 N,.int .u32 M] 54))
       have lh:w.heap.size < w1.heap.size:=zb4 x2
       clear hg hb1
       go_wp2
       go_ret2
       exact ⟨rfl,hw1⟩
     · have hi1:N<=i:=by omega
       clear hi hs hr g1
       go_enter Tryz.func31,Tryz.ntmps31
       go_wp2_with fail
       refine (hg.out _ za1).mono ?_
       rintro e w1 ⟨rfl,hb1⟩
       have x2:=za5 hb1 2 (v:=.slice p n c) rfl
       have hw1:=za3 (za4 hb1) (za1 (o:=.cells #[.int .i64 K,.int .i64 N,.int .u32 M] 54))
       have lh:w.heap.size < w1.heap.size:=zb4 x2
       clear hg hb1
       go_wp2
       go_ret2
       exact ⟨rfl,hw1⟩
   · rw [if_pos rfl,if_neg hi,if_pos rfl,if_neg hi]
     obtain ⟨V,hV⟩:∃ V,Hid (ze1 h.words (a+1+i)=V):=⟨_,rfl⟩
     obtain ⟨F,hF⟩:∃ F,Hid (loadE h.words (a+1+i)=F):=⟨_,rfl⟩
     have hi0:0<=i:=by omega
     have hi1:i < N:=by omega
     have hl:=qq (fun w' (hb:Below w.heap.size w w')=>zd9 p n c h.words (a+1+i) w' (hs.keep hb) (by omega) (by omega) (by omega))
     rw [hV.out,hF.out] at hl
     rw [hV.out,hF.out]
     clear hi hs hr g1
     go_enter Tryz.func31,Tryz.ntmps31
     go_wp2_with fail
     refine (hg.out _ za1).mono ?_
     rintro e w1 ⟨rfl,hb1⟩
     have x2:=za5 hb1 2 (v:=.slice p n c) rfl
     have hw1:=za3 (za4 hb1) (za1 (o:=.cells #[.int .i64 K,.int .i64 N,.int .u32 M] 54))
     have lh:w.heap.size < w1.heap.size:=zb4 x2
     clear hg hb1
     go_wp2_with fail
     refine (hl.out _ hw1).mono ?_
     rintro e w' ⟨rfl,rfl⟩
     go_wp2
     go_ret2
     exact ⟨rfl,hw1⟩
 · rw [if_neg he,if_neg he]
   have hne:(E != 0)=true:=bne_iff_ne.2 he
   clear he hs hr
   go_enter Tryz.func31,Tryz.ntmps31
   go_wp2_with fail
   refine (hg.out _ za1).mono ?_
   rintro e w1 ⟨rfl,hb1⟩
   have x2:=za5 hb1 2 (v:=.slice p n c) rfl
   have hw1:=za3 (za4 hb1) (za1 (o:=.cells #[.int .i64 K,.int .i64 N,.int .u32 M] 54))
   have lh:w.heap.size < w1.heap.size:=zb4 x2
   clear hg hb1
   go_wp2
   go_ret2
   exact ⟨rfl,hw1⟩
theorem wb_splice {xs l:List Int} {i:Nat} (h:WB xs) (hl:WB l):WB (splice xs i l):=by
 intro x hx
 unfold splice at hx
 rcases List.mem_append.1 hx with hx | hx
 · exact h x (List.mem_of_mem_take hx)
 · rcases List.mem_append.1 hx with hx | hx
   · exact hl x hx
   · exact h x (List.mem_of_mem_drop hx)
theorem zt1 {xs l:List Int} {a:Int} (h:WB xs) (hl:WB l):WB (zc8 xs a l):=by
 unfold zc8
 split
 · exact wb_splice h hl
 · exact WB.nil
def RetW (h:Hp) (q:Option Addr) (m d:Nat) (er:Int) (e:Ending) (w':World):Prop:=∃ p n c,e = .returned (.tuple #[.agg #[.int .i64 h.pw,.int .i64 h.np,.slice p n c,.slice q m d,.int .i64 h.space,.int .i64 h.bump],.int .i64 er])/\SRow w' .u64 p n c h.words
def RetZ (er:Int) (e:Ending):Prop:=e = .returned (.tuple #[.agg #[.int .i64 0,.int .i64 0,.slice none 0 0,.slice none 0 0,.int .i64 0,.int .i64 0],.int .i64 er])
theorem Own6.other {w:World} {b:Nat} {x0 x1 x2 x3 x4 x5:Value} (h:Own6 w b x0 x1 x2 x3 x4 x5) (a:Addr) (v:Value) (hne:a.block≠b):Own6 (w.setCell a v) b x0 x1 x2 x3 x4 x5:=by
 have hc:∀ o,(w.setCell a v).cell? ⟨b,o,none⟩=w.cell? ⟨b,o,none⟩:=fun o=>World.cell?_setCell_other _ _ _ _ (by intro e;subst e;exact hne rfl)
 have hf:∀ o,(w.setCell a v).frozen? ⟨b,o,none⟩=w.frozen? ⟨b,o,none⟩:=fun o=>by simp
 constructor <;> first | rw [hc] | rw [hf]
 · exact h.c0
 · exact h.c1
 · exact h.c2
 · exact h.c3
 · exact h.c4
 · exact h.c5
 · exact h.f0
 · exact h.f1
 · exact h.f2
 · exact h.f3
 · exact h.f4
 · exact h.f5
theorem SRow.set6 {w:World} {p:Option Addr} {n cap:Nat} {xs:List Int} {b:Nat} {y0 y1 y2 y3 y4 y5:Value} (h:SRow w .u64 p n cap xs) (ho:Own6 w b y0 y1 y2 y3 y4 y5)
 (k0:∀ x,y0≠.int .u64 x) (k1:∀ x,y1≠.int .u64 x) (k2:∀ x,y2≠.int .u64 x) (k3:∀ x,y3≠.int .u64 x) (k4:∀ x,y4≠.int .u64 x) (k5:∀ x,y5≠.int .u64 x) (x0 x1 x2 x3 x4 x5:Value) :
 SRow ((((((w.setCell ⟨b,0,none⟩ x0).setCell ⟨b,1,none⟩ x1).setCell ⟨b,2,none⟩ x2).setCell ⟨b,3,none⟩ x3).setCell ⟨b,4,none⟩ x4).setCell ⟨b,5,none⟩ x5) .u64 p n cap xs:=by
 obtain ⟨c0,c1,c2,c3,c4,c5,-,-,-,-,-,-⟩:=ho
 refine (((((h.setOther _ y0 _ c0 k0).setOther _ y1 _ ?_ k1).setOther _ y2 _ ?_ k2).setOther _ y3 _ ?_ k3).setOther _ y4 _ ?_ k4).setOther _ y5 _ ?_ k5
 all_goals simp [go_sem,c1,c2,c3,c4,c5]
theorem setField_bad (h:Hp) (p q:Option Addr) (n c m d:Nat) (a i v:Int) (w:World) (hs:SRow w .u64 p n c h.words) (hr:PRow w q m d h.pages) (hw:WB h.words) (ha:0<=a) (ha2:a < 18446744073709551616) (he:¬zo8 h a i=0) :
 Calls Tryz.prog 38 #[.agg #[.int .i64 h.pw,.int .i64 h.np,.slice p n c,.slice q m d,.int .i64 h.space,.int .i64 h.bump],.int .u64 a,.int .i64 i,.int .u64 v] w fun e w'=>RetZ (zo8 h a i) e/\Below w.heap.size w w':=by
 have hb0:Below w.heap.size w ((w.alloc (.cells #[.int .i64 h.pw,.int .i64 h.np,.slice p n c,.slice q m d,.int .i64 h.space,.int .i64 h.bump] 27)).alloc (.cells #[.int .i64 0,.int .i64 0,.slice none 0 0,.slice none 0 0,.int .i64 0,.int .i64 0] 27)):=za3 za1 za1
 have hf:=qq (refField_any h p q n c m d a i _ (hs.keep hb0) (hr.keep hb0) hw ha ha2)
 have Ho:=qq (Own6.new (w.alloc (.cells #[.int .i64 h.pw,.int .i64 h.np,.slice p n c,.slice q m d,.int .i64 h.space,.int .i64 h.bump] 27)) (.int .i64 0) (.int .i64 0) (.slice none 0 0) (.slice none 0 0) (.int .i64 0) (.int .i64 0) 27)
 have HB:=qq hb0
 obtain ⟨E,hE⟩:∃ E,Hid (zo8 h a i=E):=⟨_,rfl⟩
 rw [hE.out] at hf he
 rw [hE.out]
 have hne:(E != 0)=true:=bne_iff_ne.2 he
 clear hs hr hb0 he
 go_enter Tryz.func38,Tryz.ntmps38
 go_wp2_with fail
 refine hf.out.mono ?_
 rintro e w1 ⟨rfl,hb1⟩
 have hw1:=za3 HB.out hb1
 have Ho1:=Ho.out.keep hb1
 simp only [World.size_alloc] at Ho1
 obtain ⟨d0,d1,d2,d3,d4,d5,f0,f1,f2,f3,f4,f5⟩:=Ho1
 clear hf Ho HB hb1
 go_wp2
 exact bodyPost_ret (v:=.tuple #[.agg #[.int .i64 0,.int .i64 0,.slice none 0 0,.slice none 0 0,.int .i64 0,.int .i64 0],.int .i64 E]) (by simp [results,Tryz.results38,go_sem,d0,d1,d2,d3,d4,d5]) rfl ⟨rfl,zd2 hw1 (Nat.le_succ _)⟩
theorem setField_ok (h:Hp) (p q:Option Addr) (n c m d:Nat) (a i v:Int) (w:World) (hs:SRow w .u64 p n c h.words) (hr:PRow w q m d h.pages) (hw:WB h.words) (ha:0<=a) (ha2:a < 18446744073709551616) (he:zo8 h a i=0) :
 Calls Tryz.prog 38 #[.agg #[.int .i64 h.pw,.int .i64 h.np,.slice p n c,.slice q m d,.int .i64 h.space,.int .i64 h.bump],.int .u64 a,.int .i64 i,.int .u64 v] w fun e w'=>RetW (setV h a i v) q m d 0 e w'/\Below w.heap.size w w':=by
 have hb0:Below w.heap.size w ((w.alloc (.cells #[.int .i64 h.pw,.int .i64 h.np,.slice p n c,.slice q m d,.int .i64 h.space,.int .i64 h.bump] 27)).alloc (.cells #[.int .i64 0,.int .i64 0,.slice none 0 0,.slice none 0 0,.int .i64 0,.int .i64 0] 27)):=za3 za1 za1
 have hf:=qq (refField_any h p q n c m d a i _ (hs.keep hb0) (hr.keep hb0) hw ha ha2)
 have Ho:=qq (Own6.new (w.alloc (.cells #[.int .i64 h.pw,.int .i64 h.np,.slice p n c,.slice q m d,.int .i64 h.space,.int .i64 h.bump] 27)) (.int .i64 0) (.int .i64 0) (.slice none 0 0) (.slice none 0 0) (.int .i64 0) (.int .i64 0) 27)
 have Hh:=qq ((Own6.new w (.int .i64 h.pw) (.int .i64 h.np) (.slice p n c) (.slice q m d) (.int .i64 h.space) (.int .i64 h.bump) 27).keep (za1 (w:=w.alloc (.cells #[.int .i64 h.pw,.int .i64 h.np,.slice p n c,.slice q m d,.int .i64 h.space,.int .i64 h.bump] 27)) (o:=.cells #[.int .i64 0,.int .i64 0,.slice none 0 0,.slice none 0 0,.int .i64 0,.int .i64 0] 27)))
 have HB:=qq hb0
 have hg:getE h a=0:=by
  by_cases hg:getE h a=0
  · exact hg
  · unfold zo8 at he;rw [if_neg hg] at he;exact absurd he hg
 have hi:¬(i < 0\/(getH h a).n<=i):=by
  intro hi;unfold zo8 at he;rw [if_pos hg,if_pos hi] at he;cases he
 obtain ⟨g1,-,-,-,-,ga,gb,gn0,gn1,-⟩:=getE_in hg
 have hn6:n<=100000:=by obtain ⟨k1,k2,_⟩:=zc2 g1;have:=(zd6 k1).2;rw [hs.len] at k2;omega
 have hi0:0<=i:=by omega
 have hi1:i<=255:=by omega
 have hst:=qq (fun w' (hb:Below w.heap.size w w')=>refStore_any p n c h.words (a+1+i) v w' (hs.keep hb) hn6 (by omega) (by omega))
 have hset:Hid (setV h a i v={ h with words:=zc8 h.words (a+1+i) [v] }):=by unfold setV;exact if_pos he
 rw [he] at hf
 obtain ⟨V,hV⟩:∃ V,Hid (fieldV h a i=V):=⟨_,rfl⟩
 rw [hV.out] at hf
 clear hs hr hb0 he hg hi g1 gn0 gn1
 go_enter Tryz.func38,Tryz.ntmps38
 go_wp2_with fail
 refine hf.out.mono ?_
 rintro e w1 ⟨rfl,hb1⟩
 have hw1:=za3 HB.out hb1
 have Ho1:=qq (Ho.out.keep hb1)
 have Hh1:=qq (Hh.out.keep hb1)
 obtain ⟨x0,x1,x2,x3,x4,x5,-,-,-,-,-,-⟩:=Hh1.out
 clear hf Ho Hh HB hb1
 go_wp2_with fail
 refine (hst.out _ hw1).mono ?_
 rintro e w2 ⟨⟨p',n',c',rfl,hrow⟩,hb2⟩
 have Hrow:=qq hrow
 have hw2:=za3 hw1 hb2
 have Ho2:=Ho1.out.keep hb2
 simp only [World.size_alloc] at Ho2
 have Hh2:=Hh1.out.keep hb2
 have HO:=qq Ho2
 have HH:=qq Hh2
 obtain ⟨d0,d1,d2,d3,d4,d5,f0,f1,f2,f3,f4,f5⟩:=Ho2
 obtain ⟨y0,y1,y2,y3,y4,y5,z0,z1,z2,z3,z4,z5⟩:=Hh2
 clear hst Ho1 Hh1 hb2 hw1 x0 x1 x2 x3 x4 x5 hrow
 go_wp2
 have key:SRow (((((((w2.setCell ⟨w.heap.size,2,none⟩ (.slice p' n' c')).setCell ⟨w.heap.size+1,0,none⟩ (.int .i64 h.pw)).setCell ⟨w.heap.size+1,1,none⟩ (.int .i64 h.np)).setCell ⟨w.heap.size+1,2,none⟩ (.slice p' n' c')).setCell ⟨w.heap.size+1,3,none⟩ (.slice q m d)).setCell ⟨w.heap.size+1,4,none⟩ (.int .i64 h.space)).setCell ⟨w.heap.size+1,5,none⟩ (.int .i64 h.bump)) .u64 p' n' c' (zc8 h.words (a+1+i) [v]) :=
  SRow.set6 (Hrow.out.setOther _ _ _ y2 (fun x e=>by cases e)) (HO.out.other _ _ (show w.heap.size≠w.heap.size+1 by omega)) (fun x e=>by cases e) (fun x e=>by cases e) (fun x e=>by cases e) (fun x e=>by cases e) (fun x e=>by cases e) (fun x e=>by cases e) _ _ _ _ _ _
 refine bodyPost_ret (v:=.tuple #[.agg #[.int .i64 h.pw,.int .i64 h.np,.slice p' n' c',.slice q m d,.int .i64 h.space,.int .i64 h.bump],.int .i64 0]) (by simp [results,Tryz.results38,go_sem,d0,d1,d2,d3,d4,d5]) rfl ?_
 rw [hset.out]
 exact ⟨⟨p',n',c',rfl,key⟩,zd2 (hw2.setCell (Nat.le_refl _) _) (Nat.le_succ _)⟩
def zq0 (k n m:Int):List Int:=zg9 k n m :: List.replicate n.toNat 0
def initE (h:Hp) (a k n m:Int):Int:=if zb3 k n m=true/\okH h=true then zh4 h.words a (zq0 k n m) else 1
def zo3 (h:Hp) (a k n m:Int):Hp:=if initE h a k n m=0 then { h with words:=zc8 h.words a (zq0 k n m) } else Hp.zero
theorem initL_len {k n m:Int}:(zq0 k n m).length=n.toNat+1:=by unfold zq0;rw [List.length_cons,List.length_replicate]
theorem initL_wb {k n m:Int} (h:zb3 k n m=true) (hm:0<=m):WB (zq0 k n m):=by
 intro x hx
 rcases List.mem_cons.1 hx with rfl | hx
 · have:=word_bd h hm;omega
 · exact WB.zeros _ x hx
theorem init_bad (h:Hp) (p q:Option Addr) (n c m d:Nat) (a k l b:Int) (w:World) (hs:SRow w .u64 p n c h.words) (hr:PRow w q m d h.pages) (hb:0<=b) (hb2:b < 4294967296) (he:¬(zb3 k l b=true/\okH h=true)) :
 Calls Tryz.prog 41 #[.agg #[.int .i64 h.pw,.int .i64 h.np,.slice p n c,.slice q m d,.int .i64 h.space,.int .i64 h.bump],.int .u64 a,.agg #[.int .i64 k,.int .i64 l,.int .u32 b]] w fun e w'=>RetZ 1 e/\Below w.heap.size w w':=by
 have hb0:Below w.heap.size w (((w.alloc (.cells #[.int .i64 h.pw,.int .i64 h.np,.slice p n c,.slice q m d,.int .i64 h.space,.int .i64 h.bump] 27)).alloc (.cells #[.int .i64 k,.int .i64 l,.int .u32 b] 54)).alloc (.cells #[.int .i64 0,.int .i64 0,.slice none 0 0,.slice none 0 0,.int .i64 0,.int .i64 0] 27)):=za3 (za3 za1 za1) za1
 have hf:=qq (fun w=>zr9 k l b w hb hb2)
 have Hs:=qq (hs.keep hb0)
 have Hr:=qq (hr.keep hb0)
 have Hx:=qq ((Own6.new w (.int .i64 h.pw) (.int .i64 h.np) (.slice p n c) (.slice q m d) (.int .i64 h.space) (.int .i64 h.bump) 27).keep (za3 (za1 (o:=.cells #[.int .i64 k,.int .i64 l,.int .u32 b] 54)) (za1 (o:=.cells #[.int .i64 0,.int .i64 0,.slice none 0 0,.slice none 0 0,.int .i64 0,.int .i64 0] 27))))
 have Ho:=qq (Own6.new ((w.alloc (.cells #[.int .i64 h.pw,.int .i64 h.np,.slice p n c,.slice q m d,.int .i64 h.space,.int .i64 h.bump] 27)).alloc (.cells #[.int .i64 k,.int .i64 l,.int .u32 b] 54)) (.int .i64 0) (.int .i64 0) (.slice none 0 0) (.slice none 0 0) (.int .i64 0) (.int .i64 0) 27)
 have HB:=qq hb0
 clear hs hr hb0
 have he2:Hid (okH h=false\/(okH h=true/\encE k l b=1)):=by
  cases ho:okH h
  · exact Or.inl rfl
  · refine Or.inr ⟨rfl,?_⟩
    unfold encE
    rw [if_neg (fun hv=>he ⟨hv,ho⟩)]
 clear he
 obtain ⟨E,hE⟩:∃ E,Hid (encE k l b=E):=⟨_,rfl⟩
 obtain ⟨V,hV⟩:∃ V,Hid (encV k l b=V):=⟨_,rfl⟩
 rw [hE.out,hV.out] at hf
 rw [hE.out] at he2
 go_enter Tryz.func41,Tryz.ntmps41
 go_wp2_with fail
 refine (hf.out _).mono ?_
 rintro e w1 ⟨rfl,hb1⟩
 have hw1:=za3 HB.out hb1
 have Ho1:=qq (Ho.out.keep hb1)
 have Hx1:=qq (Hx.out.keep hb1)
 have hpr:=qq (zv6 h.pw h.np p q n c m d h.space h.bump h.words h.pages w1 (Hs.out.keep hb1) (Hr.out.keep hb1))
 rw [show ze8 h.pw h.np h.words.length h.pages h.space h.bump=okH h from rfl] at hpr
 obtain ⟨x0,x1,x2,x3,x4,x5,-,-,-,-,-,-⟩:=Hx1.out
 clear hf Hs Hr Ho Hx HB hb1
 go_wp2_with fail
 refine hpr.out.mono ?_
 rintro e w2 ⟨rfl,hb2⟩
 have hw2:=za3 hw1 hb2
 have Ho2:=Ho1.out.keep hb2
 simp only [World.size_alloc] at Ho2
 obtain ⟨d0,d1,d2,d3,d4,d5,f0,f1,f2,f3,f4,f5⟩:=Ho2
 clear hpr Ho1 Hx1 hb2 hw1 x0 x1 x2 x3 x4 x5
 rcases he2.out with ho | ⟨ho,hE1⟩
 · rw [ho]
   go_wp2
   exact bodyPost_ret (v:=.tuple #[.agg #[.int .i64 0,.int .i64 0,.slice none 0 0,.slice none 0 0,.int .i64 0,.int .i64 0],.int .i64 1]) (by simp [results,Tryz.results41,go_sem,d0,d1,d2,d3,d4,d5]) rfl ⟨rfl,zd2 hw2 (by omega)⟩
 · rw [ho]
   subst hE1
   go_wp2
   exact bodyPost_ret (v:=.tuple #[.agg #[.int .i64 0,.int .i64 0,.slice none 0 0,.slice none 0 0,.int .i64 0,.int .i64 0],.int .i64 1]) (by simp [results,Tryz.results41,go_sem,d0,d1,d2,d3,d4,d5]) rfl ⟨rfl,zd2 hw2 (by omega)⟩
theorem held_keepI {B:Nat} {w0 w w':World} {x y:Value} {q:Option Addr} {n c:Nat} {xs:List Int} (h:w.cell? ⟨B,2,none⟩=some x/\w.cell? ⟨B+1,1,none⟩=some y/\Below w0.heap.size w0 w/\SRow w .u64 q n c xs) (hb:Below w.heap.size w w') :
 w'.cell? ⟨B,2,none⟩=some x/\w'.cell? ⟨B+1,1,none⟩=some y/\Below w0.heap.size w0 w'/\SRow w' .u64 q n c xs :=
 ⟨za0 hb h.1,za0 hb h.2.1,za3 h.2.2.1 hb,h.2.2.2.keep hb⟩
theorem zrow {w:World} {base g L cap:Nat} {e:TypeId} {V:Int} (h:w.ownsRow base e 1 (.slice (some ⟨g,0,none⟩) (1+L) cap) (1+L) ([.int .u64 V] ++ (Builtin.zeroCells (Value.int .u64 0).cells L).toList)):SRow w .u64 (some ⟨g,0,none⟩) (1+L) cap (V :: List.replicate L 0):=by
 rw [zr3] at h
 obtain ⟨p,c,he,hs⟩:=SRow.of_own (kd:=.u64) (xs:=V :: List.replicate L 0) h
 injection he with e1 _ e3
 subst e1 e3
 exact hs
theorem init_run (h:Hp) (p q:Option Addr) (n c m d:Nat) (a k l b:Int) (w:World) (hs:SRow w .u64 p n c h.words) (hr:PRow w q m d h.pages) (ha:0<=a) (ha2:a < 18446744073709551616) (hb:0<=b) (hb2:b < 4294967296) (hv:zb3 k l b=true) (ho:okH h=true) (E:Int) (hE:zh4 h.words a (zq0 k l b)=E) (hE2:E=0\/¬E=0) :
 Calls Tryz.prog 41 #[.agg #[.int .i64 h.pw,.int .i64 h.np,.slice p n c,.slice q m d,.int .i64 h.space,.int .i64 h.bump],.int .u64 a,.agg #[.int .i64 k,.int .i64 l,.int .u32 b]] w fun e w'=>((E=0/\RetW { h with words:=zc8 h.words a (zq0 k l b) } q m d 0 e w')\/(¬E=0/\RetZ E e))/\Below w.heap.size w w':=by
 obtain ⟨i0,hin,hz0,hz1,hz2⟩:=info_parts zf2
 have hb0:Below w.heap.size w (((w.alloc (.cells #[.int .i64 h.pw,.int .i64 h.np,.slice p n c,.slice q m d,.int .i64 h.space,.int .i64 h.bump] 27)).alloc (.cells #[.int .i64 k,.int .i64 l,.int .u32 b] 54)).alloc (.cells #[.int .i64 0,.int .i64 0,.slice none 0 0,.slice none 0 0,.int .i64 0,.int .i64 0] 27)):=za3 (za3 za1 za1) za1
 have hf:=qq (fun w=>refEncode_ok k l b w hb hb2 hv)
 have Hs:=qq (hs.keep hb0)
 have Hr:=qq (hr.keep hb0)
 have Hx:=qq ((Own6.new w (.int .i64 h.pw) (.int .i64 h.np) (.slice p n c) (.slice q m d) (.int .i64 h.space) (.int .i64 h.bump) 27).keep (za3 (za1 (o:=.cells #[.int .i64 k,.int .i64 l,.int .u32 b] 54)) (za1 (o:=.cells #[.int .i64 0,.int .i64 0,.slice none 0 0,.slice none 0 0,.int .i64 0,.int .i64 0] 27))))
 have Ho:=qq (Own6.new ((w.alloc (.cells #[.int .i64 h.pw,.int .i64 h.np,.slice p n c,.slice q m d,.int .i64 h.space,.int .i64 h.bump] 27)).alloc (.cells #[.int .i64 k,.int .i64 l,.int .u32 b] 54)) (.int .i64 0) (.int .i64 0) (.slice none 0 0) (.slice none 0 0) (.int .i64 0) (.int .i64 0) 27)
 have HB:=qq hb0
 have Eh:Hid (((w.alloc (.cells #[.int .i64 h.pw,.int .i64 h.np,.slice p n c,.slice q m d,.int .i64 h.space,.int .i64 h.bump] 27)).alloc (.cells #[.int .i64 k,.int .i64 l,.int .u32 b] 54)).cell? ⟨(w.alloc (.cells #[.int .i64 h.pw,.int .i64 h.np,.slice p n c,.slice q m d,.int .i64 h.space,.int .i64 h.bump] 27)).heap.size,1,none⟩=some (.int .i64 l)):=by unfold Hid;simp
 obtain ⟨k1,k2,_⟩:=zc2 ho
 have hn6:n<=100000:=by have:=(zd6 k1).2;rw [hs.len] at k2;omega
 obtain ⟨-,-,v3,v4,-,-⟩:=ze3 hv
 obtain ⟨L,hL⟩:=Int.eq_ofNat_of_zero_le v3
 subst hL
 have hL1:L<=255:=by omega
 have hwr:=qq (fun w' (q':Option Addr) (c':Nat) (hs:SRow w' .u64 p n c h.words) (hq:SRow w' .u64 q' (1+L) c' (zg9 k L b :: List.replicate L 0))=>yb6 p q' n c (1+L) c' h.words (zq0 k L b) a w' hs hq hn6 (by omega) ha ha2)
 rw [hE] at hwr
 clear hs hr hb0 k1 k2 v3 v4 hv hE
 obtain ⟨V,hV⟩:∃ V,Hid (zg9 k L b=V):=⟨_,rfl⟩
 rw [hV.out] at hf hwr
 go_enter Tryz.func41,Tryz.ntmps41
 go_wp2_with fail
 refine (hf.out _).mono ?_
 rintro e w1 ⟨rfl,hb1⟩
 have hw1:=za3 HB.out hb1
 have Ho1:=qq (Ho.out.keep hb1)
 have Hx1:=qq (Hx.out.keep hb1)
 have Hs1:=qq (Hs.out.keep hb1)
 have e1:=za0 hb1 (za0 za1 (Eh.out))
 simp only [World.size_alloc] at e1
 have hpr:=qq (zv6 h.pw h.np p q n c m d h.space h.bump h.words h.pages w1 (Hs.out.keep hb1) (Hr.out.keep hb1))
 rw [show ze8 h.pw h.np h.words.length h.pages h.space h.bump=okH h from rfl,ho] at hpr
 obtain ⟨x0,x1,x2,x3,x4,x5,-,-,-,-,-,-⟩:=Hx1.out
 clear hf Hs Hr Ho Hx HB hb1 ho
 go_wp2_with fail
 refine hpr.out.mono ?_
 rintro e w2 ⟨rfl,hb2⟩
 have hw2:=za3 hw1 hb2
 have Ho2:=qq (Ho1.out.keep hb2)
 have Hx2:=qq (Hx1.out.keep hb2)
 have Hs2:=qq (Hs1.out.keep hb2)
 have e2:=za0 hb2 e1
 have y2:=za0 hb2 x2
 clear hpr Ho1 Hx1 Hs1 hb2 hw1 x0 x1 x2 x3 x4 x5 e1
 go_wp2_with fail
 go_region_held3 (fun w'=>w'.cell? ⟨w.heap.size,2,none⟩=some (.slice p n c)/\w'.cell? ⟨w.heap.size+1,1,none⟩=some (.int .i64 L)/\Below w2.heap.size w2 w'/\SRow w' .u64 p n c h.words)
  (first
   | exact ⟨y2,e2,(Below.refl _ _).drew,Hs2.out.keep (Below.drew (Below.refl _ _))⟩
   | (exact ⟨za0 hbz y2,za0 hbz e2,hbz,hw3⟩)
   | (exact held_keepI ‹_› za1)
   | (exact held_keepI ‹_› hbq))
  (first
   | (go_at_call 81;refine (hwr.out _ _ _ hw3 hq3).mono ?_;rintro e w4 ⟨⟨p',n',c',rfl,hrow⟩,hbq⟩)
   | ((refine zp9 (by rfl) _ _ 24 3 (by rfl) _ 48 i0 _ 1 8 .i64 .i64 Tryz.underlying24 Tryz.underlying3 hin hz0 hz1 hz2 rfl (by decide) _ 1 [.int .u64 V] (by rfl) (own_one _ _ _) (by simp [Value.ownBlock]) L (by rfl) (by rw [zr3];exact zq9 _ _) (by unfold maxLen;omega) (by omega) (by simp) ?_;intro gg cap w3 hown1 hgrow hat hlt;have hbz:Below w2.heap.size w2 w3:=(za1 (w:=w2)).drew.grown hgrow (by simp) (fun j hj=>by simp [Value.ownBlock] at hj;omega);have hw3:=Hs2.out.keep hbz;have hq3:=zrow hown1)))
 rename_i hH
 have hw4:=za3 hw2 hH.2.2.1
 have Ho4:=Ho2.out.keep hH.2.2.1
 simp only [World.size_alloc] at Ho4
 have Hx4:=Hx2.out.keep hH.2.2.1
 have HO:=qq Ho4
 have HX:=qq Hx4
 have Hrow:=qq hrow
 obtain ⟨d0,d1,d2,d3,d4,d5,f0,f1,f2,f3,f4,f5⟩:=Ho4
 obtain ⟨y0,y1,y2,y3,y4,y5,z0,z1,z2,z3,z4,z5⟩:=Hx4
 clear hH Ho2 Hx2 Hs2 hwr hown1 hgrow hat hlt hbz hw3 hq3 hbq hrow e2 hw2 Eh hin hz0 hz1 hz2
 rcases hE2 with rfl | hne
 · go_wp2
   have key:SRow (((((((w4.setCell ⟨w.heap.size,2,none⟩ (.slice p' n' c')).setCell ⟨w.heap.size+1+1,0,none⟩ (.int .i64 h.pw)).setCell ⟨w.heap.size+1+1,1,none⟩ (.int .i64 h.np)).setCell ⟨w.heap.size+1+1,2,none⟩ (.slice p' n' c')).setCell ⟨w.heap.size+1+1,3,none⟩ (.slice q m d)).setCell ⟨w.heap.size+1+1,4,none⟩ (.int .i64 h.space)).setCell ⟨w.heap.size+1+1,5,none⟩ (.int .i64 h.bump)) .u64 p' n' c' (zc8 h.words a (zq0 k L b)) :=
    SRow.set6 (Hrow.out.setOther _ _ _ y2 (fun x e=>by cases e)) (HO.out.other _ _ (show w.heap.size≠w.heap.size+1+1 by omega)) (fun x e=>by cases e) (fun x e=>by cases e) (fun x e=>by cases e) (fun x e=>by cases e) (fun x e=>by cases e) (fun x e=>by cases e) _ _ _ _ _ _
   exact bodyPost_ret (v:=.tuple #[.agg #[.int .i64 h.pw,.int .i64 h.np,.slice p' n' c',.slice q m d,.int .i64 h.space,.int .i64 h.bump],.int .i64 0]) (by simp [results,Tryz.results41,go_sem,d0,d1,d2,d3,d4,d5]) rfl ⟨⟨p',n',c',rfl,key⟩,zd2 (hw4.setCell (Nat.le_refl _) _) (by omega)⟩
 · have hne2:(E != 0)=true:=bne_iff_ne.2 hne
   have HNE:=qq hne
   clear hne
   go_wp2
   exact bodyPost_ret (v:=.tuple #[.agg #[.int .i64 0,.int .i64 0,.slice none 0 0,.slice none 0 0,.int .i64 0,.int .i64 0],.int .i64 E]) (by simp [results,Tryz.results41,go_sem,d0,d1,d2,d3,d4,d5]) rfl ⟨Or.inr ⟨HNE.out,rfl⟩,zd2 hw4 (by omega)⟩
def zx7 (h:Hp) (a:Int):Int:=if getE h a=0 then zs7 h.words (a+1) (getH h a).n else getE h a
def zn5 (h:Hp) (a:Int):List Int:=if getE h a=0 then zp8 h.words (a+1) (getH h a).n else []
theorem refFields_any (h:Hp) (p q:Option Addr) (n c m d:Nat) (a:Int) (w:World) (hs:SRow w .u64 p n c h.words) (hr:PRow w q m d h.pages) (hw:WB h.words) (ha:0<=a) (ha2:a < 18446744073709551616) :
 Calls Tryz.prog 33 #[.agg #[.int .i64 h.pw,.int .i64 h.np,.slice p n c,.slice q m d,.int .i64 h.space,.int .i64 h.bump],.int .u64 a] w fun e w'=>RetS (zn5 h a) (zx7 h a) e w'/\Below w.heap.size w w':=by
 have hb0:Below w.heap.size w (w.alloc (.cells #[.int .i64 h.pw,.int .i64 h.np,.slice p n c,.slice q m d,.int .i64 h.space,.int .i64 h.bump] 27)):=za1
 have hg:=qq (ya2 h p q n c m d a _ (hs.keep hb0) (hr.keep hb0) hw ha ha2)
 have Hs:=qq (hs.keep hb0)
 have Hx:=qq (Own6.new w (.int .i64 h.pw) (.int .i64 h.np) (.slice p n c) (.slice q m d) (.int .i64 h.space) (.int .i64 h.bump) 27)
 have HB:=qq hb0
 by_cases he:getE h a=0
 · have E1:Hid (zx7 h a=zs7 h.words (a+1) (getH h a).n):=by unfold Hid zx7;exact if_pos he
   have E2:Hid (zn5 h a=zp8 h.words (a+1) (getH h a).n):=by unfold Hid zn5;exact if_pos he
   obtain ⟨g1,-,-,-,-,ga,gb,gn0,gn1,-⟩:=getE_in he
   have hn6:n<=100000:=by obtain ⟨k1,k2,_⟩:=zc2 g1;have:=(zd6 k1).2;rw [hs.len] at k2;omega
   have hwr:IntKind.u64.wrap (a+1)=a+1:=by rw [IntKind.wrap_u64];omega
   rw [he] at hg
   obtain ⟨N,hN⟩:∃ N,Hid ((getH h a).n=N):=⟨_,rfl⟩
   rw [hN.out] at hg E1 E2 gn0 gn1
   have hrd:=qq (fun w' (hs:SRow w' .u64 p n c h.words)=>refRead_any p n c h.words (a+1) N w' hs hn6 (by omega) (by omega) (by omega))
   clear hs hr hb0 he g1
   go_enter Tryz.func33,Tryz.ntmps33
   go_wp2_with fail
   refine hg.out.mono ?_
   rintro e w1 ⟨rfl,hb1⟩
   have hw1:=za3 HB.out hb1
   have HS:=qq (hrd.out _ ((Hs.out.keep hb1).keep (za1 (o:=.cells #[.int .i64 (getH h a).k,.int .i64 N,.int .u32 (getH h a).m] 54))))
   obtain ⟨x0,x1,x2,x3,x4,x5,-,-,-,-,-,-⟩:=Hx.out.keep hb1
   have lb:=zb4 x2
   simp only [] at lb
   have lne:w.heap.size≠w1.heap.size:=Nat.ne_of_lt lb
   clear hg Hs Hx HB hb1 hrd x0 x1 x3 x4 x5
   go_wp2_with fail
   refine HS.out.mono ?_
   rintro e w2 ⟨⟨p',n',c',rfl,hrow⟩,hb2⟩
   have Hrow:=qq hrow
   have hw2:=za3 (za3 hw1 za1) hb2
   clear HS hrow hb2 hw1 x2
   go_wp2
   go_ret2
   rw [E1.out,E2.out]
   exact ⟨⟨p',n',c',rfl,Hrow.out⟩,hw2⟩
 · have E1:Hid (zx7 h a=getE h a):=by unfold Hid zx7;exact if_neg he
   have E2:Hid (zn5 h a=[]):=by unfold Hid zn5;exact if_neg he
   obtain ⟨E,hE⟩:∃ E,Hid (getE h a=E):=⟨_,rfl⟩
   rw [hE.out] at hg E1 he
   have hne:(E != 0)=true:=bne_iff_ne.2 he
   clear hs hr hb0 he
   go_enter Tryz.func33,Tryz.ntmps33
   go_wp2_with fail
   refine hg.out.mono ?_
   rintro e w1 ⟨rfl,hb1⟩
   have hw1:=za3 HB.out hb1
   clear hg Hs Hx HB hb1
   go_wp2
   go_ret2
   rw [E1.out,E2.out]
   exact ⟨RetS.nil _ _,za3 hw1 za1⟩
theorem addr_bd (pw np p o:Int):0<=zd4 pw np p o/\zd4 pw np p o < 18446744073709551616:=by
 cases h:zb8 pw np
 · unfold zd4;rw [h];simp
 · cases h1:inPg pw np p o
   · rw [(yb2 h h1).1];omega
   · rw [(addr_ok h h1).1]
     have hc:=zd6 h
     obtain ⟨a1,a2,a3,a4⟩:=of_decide_eq_true h1
     obtain ⟨c1,c2,_⟩:=zb1 h
     have e1:p*pw<=(np - 1)*pw:=Int.mul_le_mul_of_nonneg_right (by omega) (by omega)
     have e2:(np - 1)*pw=np*pw - pw:=by rw [Int.sub_mul,Int.one_mul]
     have e3:0<=p*pw:=Int.mul_nonneg a1 (by omega)
     omega
theorem at_in {h:Hp} {a:Int} (e:atE h a=0):okH h=true/\zb3 (atH h a).k (atH h a).n (atH h a).m=true/\0<=(atH h a).m/\(atH h a).m < 4294967296/\0<=(atH h a).n/\(atH h a).n<=255:=by
 have h1:okH h=true:=by
  cases h1:okH h
  · unfold atE at e;rw [h1] at e;simp at e
  · rfl
 have h5:ofE h.pw h.np a=0:=by
  by_cases h5:ofE h.pw h.np a=0
  · exact h5
  · rw [(atE_out h1 h5).1] at e;cases e
 have h6:atB h a=true:=by
  cases h6:atB h a
  · rw [(atE_no h1 h5 h6).1] at e;cases e
  · rfl
 have hok:okD (zg4 h a)=true:=by
  unfold atB at h6
  simp only [Bool.and_eq_true] at h6
  exact h6.1.2
 have hv:=(zr2 hok).2.2
 have hp:=ze3 hv
 have hm:=valid_map hv
 rw [(atE_ok h1 h5 h6).2]
 exact ⟨h1,hv,Int.natCast_nonneg _,hm,hp.2.2.1,hp.2.2.2.1⟩
theorem atH_no {h:Hp} {a:Int} (e:¬atE h a=0):atH h a=Hd.zero:=by unfold atH;exact if_neg e
def zg5 (h:Hp) (i:Int) (big:Bool) (u o:Nat):Option (List Int) :=
 if _hlt:o < u then
  if atE h (zd4 h.pw h.np i o)=0 then
   if big then some [zd4 h.pw h.np i o]
   else (zg5 h i big u (o+((atH h (zd4 h.pw h.np i o)).n.toNat+1))).map (zd4 h.pw h.np i o :: ·)
  else none
 else some []
termination_by u - o
theorem zp5 {h:Hp} {i:Int} {big:Bool} {u o:Nat} (hlt:¬o < u):zg5 h i big u o=some []:=by
 rw [zg5,dif_neg hlt]
theorem zv7 {h:Hp} {i:Int} {big:Bool} {u o:Nat} (hlt:o < u) (e:¬atE h (zd4 h.pw h.np i o)=0):zg5 h i big u o=none:=by
 rw [zg5,dif_pos hlt,if_neg e]
theorem yb7 {h:Hp} {i:Int} {u o:Nat} (hlt:o < u) (e:atE h (zd4 h.pw h.np i o)=0):zg5 h i true u o=some [zd4 h.pw h.np i o]:=by
 rw [zg5,dif_pos hlt,if_pos e,if_pos rfl]
theorem zy8 {h:Hp} {i:Int} {u o:Nat} (hlt:o < u) (e:atE h (zd4 h.pw h.np i o)=0):zg5 h i false u o=(zg5 h i false u (o+((atH h (zd4 h.pw h.np i o)).n.toNat+1))).map (zd4 h.pw h.np i o :: ·):=by
 rw [zg5,dif_pos hlt,if_pos e,if_neg (by decide)]
def zk0 (h:Hp) (i:Int) (big:Bool) (u o:Nat) (acc:List Int):Prop:=zg5 h i big u 0=(zg5 h i big u o).map (acc ++ ·)
theorem zk0.start (h:Hp) (i:Int) (big:Bool) (u:Nat):zk0 h i big u 0 []:=by
 unfold zk0;cases zg5 h i big u 0 <;> simp
theorem zk0.fin {h:Hp} {i:Int} {big:Bool} {u o:Nat} {acc:List Int} (hw:zk0 h i big u o acc) (hlt:¬o < u):zg5 h i big u 0=some acc:=by
 unfold zk0 at hw;rw [hw,zp5 hlt];simp
theorem zk0.bad {h:Hp} {i:Int} {big:Bool} {u o:Nat} {acc:List Int} (hw:zk0 h i big u o acc) (hlt:o < u) (e:¬atE h (zd4 h.pw h.np i o)=0):zg5 h i big u 0=none:=by
 unfold zk0 at hw;rw [hw,zv7 hlt e];rfl
theorem zk0.big {h:Hp} {i:Int} {u o:Nat} {acc:List Int} (hw:zk0 h i true u o acc) (hlt:o < u) (e:atE h (zd4 h.pw h.np i o)=0):zg5 h i true u 0=some (acc ++ [zd4 h.pw h.np i o]):=by
 unfold zk0 at hw;rw [hw,yb7 hlt e];rfl
theorem zk0.step {h:Hp} {i:Int} {u o:Nat} {acc:List Int} (hw:zk0 h i false u o acc) (hlt:o < u) (e:atE h (zd4 h.pw h.np i o)=0):zk0 h i false u (o+((atH h (zd4 h.pw h.np i o)).n.toNat+1)) (acc ++ [zd4 h.pw h.np i o]):=by
 unfold zk0 at hw ⊢;rw [hw,zy8 hlt e]
 cases zg5 h i false u (o+((atH h (zd4 h.pw h.np i o)).n.toNat+1)) <;> simp
def pgAt (h:Hp) (i:Int):Pg:=h.pages.getD i.toNat Pg.zero
def zq1 (h:Hp) (i:Int):Option (List Int):=zg5 h i (decide ((pgAt h i).kind=2)) (pgAt h i).used.toNat 0
def zh0 (h:Hp) (i:Int):Int:=if okH h then (if i < 0\/h.pages.length<=i then 2 else if (pgAt h i).kind=0\/(pgAt h i).kind=3 then 0 else if (zq1 h i).isSome then 0 else 19) else 1
def zf4 (h:Hp) (i:Int):List Int:=if okH h then (if i < 0\/h.pages.length<=i then [] else if (pgAt h i).kind=0\/(pgAt h i).kind=3 then [] else (zq1 h i).getD []) else []
theorem page_bad {h:Hp} {i:Int} (h1:okH h=false):zh0 h i=1/\zf4 h i=[]:=by
 unfold zh0 zf4;rw [if_neg (by simp [h1]),if_neg (by simp [h1])];exact ⟨rfl,rfl⟩
theorem page_out {h:Hp} {i:Int} (h1:okH h=true) (h2:i < 0\/h.pages.length<=i):zh0 h i=2/\zf4 h i=[]:=by
 unfold zh0 zf4;rw [if_pos h1,if_pos h1,if_pos h2,if_pos h2];exact ⟨rfl,rfl⟩
theorem page_none {h:Hp} {i:Int} (h1:okH h=true) (h2:¬(i < 0\/h.pages.length<=i)) (h3:(pgAt h i).kind=0\/(pgAt h i).kind=3):zh0 h i=0/\zf4 h i=[]:=by
 unfold zh0 zf4;rw [if_pos h1,if_pos h1,if_neg h2,if_neg h2,if_pos h3,if_pos h3];exact ⟨rfl,rfl⟩
theorem yc6 {h:Hp} {i:Int} (h1:okH h=true) (h2:¬(i < 0\/h.pages.length<=i)) (h3:¬((pgAt h i).kind=0\/(pgAt h i).kind=3)):zh0 h i=(if (zq1 h i).isSome then 0 else 19)/\zf4 h i=(zq1 h i).getD []:=by
 unfold zh0 zf4;rw [if_pos h1,if_pos h1,if_neg h2,if_neg h2,if_neg h3,if_neg h3];exact ⟨rfl,rfl⟩
theorem page_some {h:Hp} {i:Int} {l:List Int} (h1:okH h=true) (h2:¬(i < 0\/h.pages.length<=i)) (h3:¬((pgAt h i).kind=0\/(pgAt h i).kind=3)) (h4:zq1 h i=some l):zh0 h i=0/\zf4 h i=l:=by
 obtain ⟨e1,e2⟩:=yc6 h1 h2 h3
 rw [e1,e2,h4];exact ⟨rfl,rfl⟩
theorem page_fail {h:Hp} {i:Int} (h1:okH h=true) (h2:¬(i < 0\/h.pages.length<=i)) (h3:¬((pgAt h i).kind=0\/(pgAt h i).kind=3)) (h4:zq1 h i=none):zh0 h i=19/\zf4 h i=[]:=by
 obtain ⟨e1,e2⟩:=yc6 h1 h2 h3
 rw [e1,e2,h4];exact ⟨rfl,rfl⟩
theorem page_small (h:Hp) (p:Option Addr) (b off n c m d:Nat) (i:Nat) (w:World) (hs:SRow w .u64 p n c h.words) (hr:PRow w (some ⟨b,off,none⟩) m d h.pages) (hw:WB h.words) (h1:okH h=true)
 (him:i < m) (xs xu xp:Int) (hx:h.pages[i]?=some ⟨1,xs,xu,xp⟩) (hu:xu<=h.pw) :
 Calls Tryz.prog 96 #[.agg #[.int .i64 h.pw,.int .i64 h.np,.slice p n c,.slice (some ⟨b,off,none⟩) m d,.int .i64 h.space,.int .i64 h.bump],.int .i64 i] w fun e w'=>RetS (zf4 h i) (zh0 h i) e w'/\Below w.heap.size w w':=by
 obtain ⟨i0,hin,hz0,hz1,hz2⟩:=info_parts zf2
 have hb0:Below w.heap.size w (w.alloc (.cells #[.int .i64 h.pw,.int .i64 h.np,.slice p n c,.slice (some ⟨b,off,none⟩) m d,.int .i64 h.space,.int .i64 h.bump] 27)):=za1
 have hp:=qq (zf7 (show ze8 h.pw h.np h.words.length h.pages h.space h.bump=true from h1) _ (hs.keep hb0) (hr.keep hb0))
 have Hx:=qq (Own6.new w (.int .i64 h.pw) (.int .i64 h.np) (.slice p n c) (.slice (some ⟨b,off,none⟩) m d) (.int .i64 h.space) (.int .i64 h.bump) 27)
 have HB:=qq hb0
 have hz:Hid (∀ w',Below w.heap.size w w'->w'.cell? ⟨b,off+i*4,none⟩=some (.int .i64 1)/\w'.cell? ⟨b,off+i*4+1,none⟩=some (.int .i64 xs)/\w'.cell? ⟨b,off+i*4+2,none⟩=some (.int .i64 xu)/\w'.cell? ⟨b,off+i*4+3,none⟩=some (.int .i64 xp)):=fun w' hb=>by
  obtain ⟨x',b',off',e1,e2,z⟩:=(hr.keep hb).at_ him
  simp at e2
  obtain ⟨rfl,rfl⟩:=e2
  obtain rfl:(⟨1,xs,xu,xp⟩:Pg)=x':=by rw [hx] at e1;exact Option.some.inj e1
  exact z
 have him2:(i:Int) < m:=by omega
 have hpa:pgAt h i=⟨1,xs,xu,xp⟩:=by unfold pgAt;rw [Int.toNat_natCast];exact zc6 hx
 have hir:¬((i:Int) < 0\/(h.pages.length:Int)<=i):=by rw [hr.len];omega
 have hk:¬((pgAt h i).kind=0\/(pgAt h i).kind=3):=by rw [hpa];show ¬((1:Int)=0\/(1:Int)=3);decide
 have hpw:zq1 h i=zg5 h i false xu.toNat 0:=by unfold zq1;rw [hpa];rfl
 have HY:=qq (fun l (hl:zg5 h i false xu.toNat 0=some l)=>page_some h1 hir hk (hpw.trans hl))
 have HN:=qq (fun (hl:zg5 h i false xu.toNat 0=none)=>page_fail h1 hir hk (hpw.trans hl))
 have hpw64:=(zb1 (zc2 h1).1).2.1
 have hu6:xu<=64:=by omega
 have hat:=qq (fun a w' (hb:Below w.heap.size w w') (ha:0<=a/\a < 18446744073709551616)=>yc4 h p (some ⟨b,off,none⟩) n c m d a w' (hs.keep hb) (hr.keep hb) hw ha.1 ha.2)
 have had:=qq (fun o w'=>zx5 h.pw h.np i o w')
 clear hs hr hw h1 hx hu hb0 hpa hir hk hpw hpw64
 go_enter Tryz.func96,Tryz.ntmps96
 go_wp2_with fail
 refine hp.out.mono ?_
 rintro e w1 ⟨rfl,hb1⟩
 have hw1:=qq (za3 HB.out hb1)
 obtain ⟨z0,z1,z2,z3⟩:=hz.out _ hw1.out
 have Hx1:=Hx.out.keep hb1
 have HX1:=qq Hx1
 obtain ⟨x0,x1,x2,x3,x4,x5,-,-,-,-,-,-⟩:=Hx1
 have lh:w.heap.size≠w1.heap.size:=Nat.ne_of_lt (zb4 x0)
 clear hp Hx HB hb1 hz
 go_wp2_with fail
 rename (0<=(i:Int)/\_)=>hh
 clear hh him him2
 go_loopw [7,8] (fun v j wr=>∃ (o:Nat) (acc:List Int),wr.ownsRow (w1.heap.size+1) 48 1 v acc.length (zb2 .u64 acc)/\j = .int .i64 o/\acc.length<=o/\o<=1000/\zk0 h i false xu.toNat o acc/\Below (w1.alloc (.cells #[.int .i64 1,.int .i64 xs,.int .i64 xu,.int .i64 xp] 77)).heap.size (w1.alloc (.cells #[.int .i64 1,.int .i64 xs,.int .i64 xu,.int .i64 xp] 77)) wr) (fun _ j _=>xu.toNat - (intOf j).toNat)
 case atStart=>exact ⟨0,[],World.ownsRow_nil _ _ _ _,rfl,Nat.le_refl _,by omega,zk0.start _ _ _ _,Below.refl _ _⟩
 case round =>
  obtain ⟨o,acc,hown,rfl,hal,ho6,hwk,hb⟩:=hrel
  have p0:=za5 (w:=w1) (cs:=#[.int .i64 1,.int .i64 xs,.int .i64 xu,.int .i64 xp]) hb 0 (v:=.int .i64 1) rfl
  have p2:=za5 (w:=w1) (cs:=#[.int .i64 1,.int .i64 xs,.int .i64 xu,.int .i64 xp]) hb 2 (v:=.int .i64 xu) rfl
  have hwr1:=za4 hb
  obtain ⟨x0,x1,x2,x3,x4,x5,-,-,-,-,-,-⟩:=HX1.out.keep hwr1
  have hwr:=za3 hw1.out hwr1
  by_cases hlt:o < xu.toNat
  · have hlt2:(o:Int) < xu:=by omega
    have hA:=addr_bd h.pw h.np i o
    have hadr:=qq (fun w'=>had.out o w')
    obtain ⟨A,hAn⟩:∃ A,Hid (zd4 h.pw h.np i o=A):=⟨_,rfl⟩
    rw [hAn.out] at hA hadr
    have hatr:=qq (fun w' hb=>hat.out A w' hb hA)
    obtain ⟨K,hK⟩:∃ K,Hid ((atH h A).k=K):=⟨_,rfl⟩
    obtain ⟨N,hN⟩:∃ N,Hid ((atH h A).n=N):=⟨_,rfl⟩
    obtain ⟨M,hM⟩:∃ M,Hid ((atH h A).m=M):=⟨_,rfl⟩
    obtain ⟨E,hE⟩:∃ E,Hid (atE h A=E):=⟨_,rfl⟩
    rw [hK.out,hN.out,hM.out,hE.out] at hatr
    have HW:=qq hwk
    have Hown:=qq hown
    have Hal:=qq hal
    have Hb:=qq hb
    have Hwr:=qq hwr
    clear hwk hown hal hb hwr hwr1 had hat hA
    go_wp2_with fail
    refine (hadr.out _).mono ?_
    rintro e w2 ⟨rfl,hb2⟩
    have p0:=za0 hb2 p0
    have x0:=za0 hb2 x0
    have x1:=za0 hb2 x1
    have x2:=za0 hb2 x2
    have x3:=za0 hb2 x3
    have x4:=za0 hb2 x4
    have x5:=za0 hb2 x5
    have Hb2:=qq (za3 Hb.out hb2)
    have Hwr2:=qq (za3 Hwr.out hb2)
    have Hown2:=qq (zb5 Hown.out hb2)
    clear hb2 hadr Hb Hwr Hown
    go_wp2_with fail
    refine (hatr.out _ Hwr2.out).mono ?_
    rintro e w3 ⟨rfl,hb3⟩
    have p0:=za0 hb3 p0
    have Hb3:=qq (za3 Hb2.out hb3)
    have Hwr3:=qq (za3 Hwr2.out hb3)
    have hown3:=zb5 Hown2.out hb3
    have lp:w1.heap.size≠w3.heap.size:=Nat.ne_of_lt (zb4 p0)
    clear hb3 hatr Hb2 Hwr2 Hown2 x0 x1 x2 x3 x4 x5
    by_cases hE0:E=0
    · subst hE0
      obtain ⟨-,hv,hm0,hm1,hn0,hn1⟩:=at_in hE.out
      rw [hK.out,hN.out,hM.out] at hv
      rw [hM.out] at hm0 hm1
      rw [hN.out] at hn0 hn1
      have hsz:=qq (fun w=>zn3 K N M w hm0 hm1)
      rw [zu2 hv] at hsz
      have hsn:=qq (HW.out.step hlt (by rw [hAn.out];exact hE.out))
      rw [hAn.out,hN.out] at hsn
      have hwr:IntKind.i64.wrap ((o:Int)+(N+1))=(o:Int)+(N+1):=IntWalk.i64_in _ (by omega)
      have hal2:=Hal.out
      have hsz3:=(za4 Hb3.out).size
      clear hv hm0 hm1
      go_wp2_with (at_builtin;refine wpList_append_own _ rfl _ _ 24 rfl (w1.heap.size+1) 48 i0 (.int .u64 0) 1 8 Tryz.underlying24 hin hz0 hz1 hz2 rfl (by decide) _ _ _ rfl ((hown3.alloc _).alloc _) ⟨w3.heap.size+1,0,none⟩ 1 1 [.int .u64 A] rfl rfl ?c1 ?c2 ?c3 ?c4 ?c5 ?_)
      case c1=>simpa using cell_one_new (w3.alloc (.cells #[.int .i64 K,.int .i64 N,.int .u32 M] 54)) _ _
      case c2=>simp [Value.oneCell']
      case c3=>unfold maxLen;omega
      case c4=>omega
      case c5=>simp;omega
      intro v' w4 hown4 hgrow4 _
      have k0:w4.cell? ⟨w3.heap.size,0,none⟩=some (.int .i64 K):=hgrow4.cell (by simp) (fun e=>by have:=(hown3.lt _ e.symm).2;simp at this)
      have k1:w4.cell? ⟨w3.heap.size,1,none⟩=some (.int .i64 N):=hgrow4.cell (by simp) (fun e=>by have:=(hown3.lt _ e.symm).2;simp at this)
      have k2:w4.cell? ⟨w3.heap.size,2,none⟩=some (.int .u32 M):=hgrow4.cell (by simp) (fun e=>by have:=(hown3.lt _ e.symm).2;simp at this)
      have hb4:Below (w1.alloc (.cells #[.int .i64 1,.int .i64 xs,.int .i64 xu,.int .i64 xp] 77)).heap.size (w1.alloc (.cells #[.int .i64 1,.int .i64 xs,.int .i64 xu,.int .i64 xp] 77)) w4 :=
       (za3 (za3 Hb3.out za1) za1).grown hgrow4 (by have:=Hb3.out.size;simp at this ⊢;omega) (fun j hj=>by have:=(hown3.lt j hj).1;simpa using this)
      have p0:=za5 (w:=w1) (cs:=#[.int .i64 1,.int .i64 xs,.int .i64 xu,.int .i64 xp]) hb4 0 (v:=.int .i64 1) rfl
      rw [zz6] at hown4
      have Hown4:=qq hown4
      have Hb4:=qq hb4
      clear hown4 hgrow4 hown3 hb4
      go_wp2_with fail
      refine (hsz.out _).mono ?_
      rintro e w5 ⟨rfl,hb5⟩
      have Hb5:=qq (za3 Hb4.out hb5)
      have Hown5:=qq (zb5 Hown4.out hb5)
      clear hb5 Hb4 Hown4 k0 k1 k2
      go_wp2
      go_roundw
      case rel =>
       obtain ⟨T,rfl⟩:=Int.eq_ofNat_of_zero_le hn0
       exact ⟨o+(T+1),acc ++ [A],by rw [List.length_append];exact Hown5.out,by go_num,by rw [List.length_append];simp;omega,by omega,hsn.out,Hb5.out⟩
      case measure=>simp [intOf];omega
    · have hne:(E != 0)=true:=bne_iff_ne.2 hE0
      have hE1:¬atE h (zd4 h.pw h.np i o)=0:=by rw [hAn.out,hE.out];exact hE0
      obtain ⟨e1,e2⟩:=HN.out (HW.out.bad hlt hE1)
      have E1:=qq e1
      have E2:=qq e2
      clear hE1 e1 e2 hown3
      go_wp2
      go_ret2
      rw [E1.out,E2.out]
      exact ⟨RetS.nil _ _,za3 Hwr3.out za1⟩
  · obtain ⟨e1,e2⟩:=HY.out _ (hwk.fin hlt)
    have hlt2:¬(o:Int) < xu:=by omega
    obtain ⟨q,k,rfl,hrow⟩:=SRow.of_own hown
    have Hrow:=qq hrow
    have E1:=qq e1
    have E2:=qq e2
    clear hown hrow e1 e2 hwk
    go_wp2
    go_ret2
    rw [E1.out,E2.out]
    exact ⟨⟨q,_,k,rfl,Hrow.out⟩,hwr⟩
end Go.Proofs.YtipjdbhocjpmdaaGreat
