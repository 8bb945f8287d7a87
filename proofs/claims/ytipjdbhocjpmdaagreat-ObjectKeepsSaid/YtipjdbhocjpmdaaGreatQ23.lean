import Derived.Test.YtipjdbhocjpmdaaGreatQ01
import Derived.Test.YtipjdbhocjpmdaaGreatQ13
import Derived.Test.YtipjdbhocjpmdaaGreatQ22
import Derived.Maps.RangeWalk
set_option linter.unusedSimpArgs false
set_option linter.unusedVariables false
set_option maxRecDepth 100000
set_option maxHeartbeats 12800000
namespace Go.Proofs.YtipjdbhocjpmdaaGreat
open Go.RowKit
theorem getH_m (h:Hp) (a:Int):0<=(getH h a).m/\(getH h a).m < 4294967296:=by
 by_cases e:getE h a=0
 · rw [(getE_in e).2.2.1];exact atH_m h a
 · rw [yc5 e];decide
theorem refGet_val {u:Value} {h:Hp} (a:Int) (w:World) (hu:HV w u h) (ha:0<=a) (ha2:a < 18446744073709551616) :
 Calls Tryz.prog 28 #[u,.int .u64 a] w fun e w'=>e = .returned (.tuple #[.agg #[.int .i64 (getH h a).k,.int .i64 (getH h a).n,.int .u32 (getH h a).m],.int .i64 (getE h a)])/\Below w.heap.size w w':=by
 obtain ⟨p,n,c,q,m,d,rfl,hs,hr,hw⟩:=hu
 exact ya2 h p q n c m d a w hs hr hw ha ha2
theorem refFields_val {u:Value} {h:Hp} (a:Int) (w:World) (hu:HV w u h) (ha:0<=a) (ha2:a < 18446744073709551616) :
 Calls Tryz.prog 33 #[u,.int .u64 a] w fun e w'=>RetS (zn5 h a) (zx7 h a) e w'/\Below w.heap.size w w':=by
 obtain ⟨p,n,c,q,m,d,rfl,hs,hr,hw⟩:=hu
 exact refFields_any h p q n c m d a w hs hr hw ha ha2
theorem fieldsV_len (h:Hp) (a:Int):(zn5 h a).length<=h.words.length:=by
 unfold zn5;split
 · exact readV_len _ _ _
 · simp
def zo5 (all:List Int) (x:Hd):Nat->List Int->Option Nat
 | _,[]=>none
 | k,f :: r=>if ptrB x.k x.n x.m k=true/\¬f=0/\¬f∈all then some k else zo5 all x (k+1) r
theorem bad_at {all:List Int} {x:Hd} {l:List Int} {k:Nat} {f:Int} (hf:l[k]?=some f):zo5 all x k (l.drop k)=if ptrB x.k x.n x.m k=true/\¬f=0/\¬f∈all then some k else zo5 all x (k+1) (l.drop (k+1)):=by
 obtain ⟨hk,rfl⟩:=List.getElem?_eq_some_iff.1 hf
 rw [List.drop_eq_getElem_cons hk,zo5]
theorem bad_end {all:List Int} {x:Hd} {l:List Int} {k:Nat} (hk:l.length<=k):zo5 all x k (l.drop k)=none:=by
 rw [List.drop_eq_nil_of_le hk];rfl
def ptrFd (h:Hp) (a:Int):Fd:=⟨6,ofI h.pw h.np a,a⟩
def zv2 (h:Hp) (all:List Int):List Int->Fd
 | []=>Fd.none
 | x :: r=>match zo5 all (getH h x) 0 (zn5 h x) with | some k=>ptrFd h (x+1+k) | none=>zv2 h all r
def zt2 (h:Hp):Fd:=zv2 h (zc0 h) (zc0 h)
theorem ptrs_at {h:Hp} {all l:List Int} {k:Nat} {x:Int} (hx:l[k]?=some x):zv2 h all (l.drop k)=match zo5 all (getH h x) 0 (zn5 h x) with | some k=>ptrFd h (x+1+k) | none=>zv2 h all (l.drop (k+1)):=by
 obtain ⟨hk,rfl⟩:=List.getElem?_eq_some_iff.1 hx
 rw [List.drop_eq_getElem_cons hk,zv2]
theorem ptrs_end {h:Hp} {all l:List Int} {k:Nat} (hk:l.length<=k):zv2 h all (l.drop k)=Fd.none:=by
 rw [List.drop_eq_nil_of_le hk];rfl
theorem readV_wb {xs:List Int} (h:WB xs) (a n:Int):WB (zp8 xs a n):=by
 unfold zp8;split
 · exact WB.nil
 · split
   · exact fun x hx=>h x (List.mem_of_mem_drop (List.mem_of_mem_take hx))
   · exact WB.nil
theorem fieldsV_wb {h:Hp} (hw:WB h.words) (a:Int):WB (zn5 h a):=by
 unfold zn5;split
 · exact readV_wb hw _ _
 · exact WB.nil
theorem refPointers9_val {u:Value} {h:Hp} (w:World) (hu:HV w u h) (h1:okH h=true) :
 Calls Tryz.prog 153 #[u] w fun e w'=>e = .returned (zt2 h).val/\Below w.heap.size w w':=by
 obtain ⟨p,n,c,q,m,d,rfl,hs,hr,hwb⟩:=hu
 obtain ⟨x0,x1,x2,x3,x4,x5,hbx⟩:=boxH w (.int .i64 h.pw) (.int .i64 h.np) (.slice p n c) (.slice q m d) (.int .i64 h.space) (.int .i64 h.bump) 27
 have Ho:=Own3.new (w.alloc (.cells #[.int .i64 h.pw,.int .i64 h.np,.slice p n c,.slice q m d,.int .i64 h.space,.int .i64 h.bump] 27)) (.int .i64 0) (.int .i64 0) (.int .u64 0) 166
 simp only [World.size_alloc] at Ho
 have hbx2:=za3 hbx (za1 (o:=(.cells #[.int .i64 0,.int .i64 0,.int .u64 0] 166)))
 have x0:=za0 (za1 (o:=(.cells #[.int .i64 0,.int .i64 0,.int .u64 0] 166))) x0
 have x1:=za0 (za1 (o:=(.cells #[.int .i64 0,.int .i64 0,.int .u64 0] 166))) x1
 have x2:=za0 (za1 (o:=(.cells #[.int .i64 0,.int .i64 0,.int .u64 0] 166))) x2
 have x3:=za0 (za1 (o:=(.cells #[.int .i64 0,.int .i64 0,.int .u64 0] 166))) x3
 have x4:=za0 (za1 (o:=(.cells #[.int .i64 0,.int .i64 0,.int .u64 0] 166))) x4
 have x5:=za0 (za1 (o:=(.cells #[.int .i64 0,.int .i64 0,.int .u64 0] 166))) x5
 have hHV:=qq (fun w' (hb:Below w.heap.size w w')=>(⟨p,n,c,q,m,d,rfl,hs.keep hb,hr.keep hb,hwb⟩:HV w' (.agg #[.int .i64 h.pw,.int .i64 h.np,.slice p n c,.slice q m d,.int .i64 h.space,.int .i64 h.bump]) h))
 have hob:=qq (fun w' (hb:Below w.heap.size w w')=>zx8 w' (hHV.out w' hb))
 have hgt:=qq (fun w' (hb:Below w.heap.size w w') (x:Int) (h0:0<=x) (h2:x < 18446744073709551616)=>refGet_val x w' (hHV.out w' hb) h0 h2)
 have hfd:=qq (fun w' (hb:Below w.heap.size w w') (x:Int) (h0:0<=x) (h2:x < 18446744073709551616)=>refFields_val x w' (hHV.out w' hb) h0 h2)
 have hF0:zt2 h=zv2 h (zc0 h) (zc0 h):=rfl
 have hxb:=qq (fun x (hx:x∈zc0 h)=>at_bd (zy5 hx).1)
 have hol:(zc0 h).length<=4096:=by
  unfold zc0 zm3;exact Nat.le_trans (List.length_filter_le _ _) (yd6 h)
 have hwl:h.words.length<=4096:=by obtain ⟨g1,g2,-⟩:=zc2 h1;have:=(zd6 g1).2;omega
 have hfl:=qq (fun x=>Nat.le_trans (fieldsV_len h x) hwl)
 have hfw:=qq (fun x=>fieldsV_wb hwb x)
 have hof:=qq (fun (a:Int) w h0 h2=>zk6 h.pw h.np a w h0 h2)
 generalize zl8 h=SE at hob
 generalize zc0 h=all at hob hF0 hxb hol
 obtain ⟨F,hF⟩:∃ F,Hid (zv2 h all all=F):=⟨_,rfl⟩
 rw [hF0,hF.out]
 have HB0:=qq hbx2
 have HO:=qq Ho
 clear hs hr hHV hF0 hbx hbx2 Ho hwb h1 hwl
 go_enter Tryz.func153,Tryz.ntmps153
 go_wp2_with fail
 refine (hob.out _ HB0.out).mono ?_
 rintro e w1 ⟨⟨lp,N,lc,rfl,hlr⟩,hb1⟩
 have x0:=za0 hb1 x0
 have x1:=za0 hb1 x1
 have x2:=za0 hb1 x2
 have x3:=za0 hb1 x3
 have x4:=za0 hb1 x4
 have x5:=za0 hb1 x5
 have HO:=qq (HO.out.keep hb1)
 have HB:=qq (za3 HB0.out hb1)
 have Hlr:=qq (fun w' (hb:Below w1.heap.size w1 w')=>hlr.keep hb)
 have HNl:=qq hlr.len
 have hN9:N<=4096:=by have:=hlr.len;omega
 clear hob hb1 HB0 hlr
 go_wp2
 go_loopw [5] (fun j wr=>∃ (k:Nat),k<=N/\zv2 h all (all.drop k)=F/\j = .int .i64 k/\Below w1.heap.size w1 wr) (fun j _=>N - (intOf j).toNat)
 case atStart=>exact ⟨0,by omega,by rw [List.drop_zero];exact hF.out,rfl,Below.refl _ _⟩
 case round =>
  obtain ⟨k,hk,hf,rfl,hb⟩:=hrel
  have Hf:=qq hf
  clear hf
  have x0:=za0 hb x0
  have x1:=za0 hb x1
  have x2:=za0 hb x2
  have x3:=za0 hb x3
  have x4:=za0 hb x4
  have x5:=za0 hb x5
  have HOr:=qq (HO.out.keep hb)
  have Hwr:=qq (za3 HB.out hb)
  by_cases hlt:k < N
  · have hlt2:(k:Int) < N:=by omega
    obtain ⟨x,lb,lo,hx,rfl,lc0⟩:=(Hlr.out _ hb).at_ hlt
    have hxw:=hxb.out x (List.mem_of_getElem? hx)
    have hat:=qq (fun w' (hB:Below wr.heap.size wr w')=>hgt.out w' (za3 Hwr.out hB) x (by omega) (by omega))
    have hfx:=qq (fun w' (hB:Below wr.heap.size wr w')=>hfd.out w' (za3 Hwr.out hB) x (by omega) (by omega))
    have hst:=ptrs_at (h:=h) (all:=all) hx
    rw [Hf.out] at hst
    have hM:=getH_m h x
    have hfl9:=hfl.out x
    have hfw9:=hfw.out x
    generalize zn5 h x=fs at hfx hst hfl9 hfw9
    generalize zx7 h x=fE at hfx
    generalize getH h x=HD at hat hst hM
    obtain ⟨K,N0,M0⟩:=HD
    simp only [] at hat hM
    generalize getE h x=E0 at hat
    have Hst:=qq hst
    have Hb:=qq hb
    have hpt:=qq (fun (i:Int) w=>zn4 K N0 M0 i w hM.1 hM.2)
    have Hfw:=qq hfw9
    clear hx hb hst hM hfw9
    have hSof:=qq (fun W (hB:Below wr.heap.size wr W)=>(⟨za0 hB x0,za0 hB x1,za0 hB x2,za0 hB x3,za0 hB x4,za0 hB x5,za0 hB lc0,hB⟩:(fun w'=>w'.cell? ⟨w.heap.size,0,none⟩=some (.int .i64 h.pw)/\w'.cell? ⟨w.heap.size,1,none⟩=some (.int .i64 h.np)/\w'.cell? ⟨w.heap.size,2,none⟩=some (.slice p n c)/\w'.cell? ⟨w.heap.size,3,none⟩=some (.slice q m d)/\w'.cell? ⟨w.heap.size,4,none⟩=some (.int .i64 h.space)/\w'.cell? ⟨w.heap.size,5,none⟩=some (.int .i64 h.bump)/\w'.cell? ⟨lb,lo+k,none⟩=some (.int .u64 x)/\Below wr.heap.size wr w') W))
    go_upto_region 5 with fail
    go_cut [6,7] (fun th te wx=>∃ b:Nat,th = .pointer (some ⟨b,0,none⟩)/\te = .int .i64 E0/\Own3 wx b (.int .i64 K) (.int .i64 N0) (.int .u32 M0)/\wr.heap.size<=b/\Below wr.heap.size wr wx)
    case first =>
     refine wp_region_held_drew (S:=fun w'=>w'.cell? ⟨w.heap.size,0,none⟩=some (.int .i64 h.pw)/\w'.cell? ⟨w.heap.size,1,none⟩=some (.int .i64 h.np)/\w'.cell? ⟨w.heap.size,2,none⟩=some (.slice p n c)/\w'.cell? ⟨w.heap.size,3,none⟩=some (.slice q m d)/\w'.cell? ⟨w.heap.size,4,none⟩=some (.int .i64 h.space)/\w'.cell? ⟨w.heap.size,5,none⟩=some (.int .i64 h.bump)/\w'.cell? ⟨lb,lo+k,none⟩=some (.int .u64 x)/\Below wr.heap.size wr w') (by kernel_rfl) (hSof.out _ (Below.drew (Below.refl _ _))) (fun hHeld=>?_)
     refine draw_t 0 27 hHeld ?_
     refine draw_t 1 28 hHeld ?_
     refine draw_t 2 29 hHeld ?_
     refine draw_t 3 30 hHeld ?_
     refine draw_t 4 31 hHeld ?_
     refine rdy2 5 9 (fun K hK=>?_) (fun K hK=>?_)
     · go_simp
       (go_at_call 28;refine (hat.out _ ((Below.refl _ _).drew)).mono ?_;rintro e w2 ⟨rfl,hbq⟩)
       have hb2:Below wr.heap.size wr w2:=(Below.refl _ _).drew.trans (by simpa using hbq)
       go_wp2_with fail
       refine hK.out _ _ (hSof.out _ ((Below.refl _ _).drew.trans (by simpa using hbq))) (fun hHeld=>?_)
       clear hK K
       try go_frame
       refine draw_t 6 26 hHeld ?_
       refine draw_t 7 33 hHeld ?_
       refine draw_t 8 34 hHeld ?_
       refine rdy1 9 (fun K hK=>?_)
       go_simp
       refine hK.out _ _ (hSof.out _ (za3 hb2 za1)) (fun hHeld=>?_)
       clear hK K
       try go_frame
       refine rdy1 10 (fun K hK=>?_)
       go_simp
       refine hK.out _ _ (hSof.out _ (za3 hb2 za1)) (fun hHeld=>?_)
       clear hK K
       try go_frame
       refine draw_t 11 7 hHeld ?_
       refine wpAnyH_done (by kernel_rfl) ?_ _
       go_wp2_with fail
       go_meet
       exact ⟨_,rfl,rfl,Own3.new _ _ _ _ _,hb2.size,za3 hb2 za1⟩
     · go_simp
       refine hK.out _ _ (hSof.out _ ((Below.refl _ _).drew.alloc (by simp) _)) (fun hHeld=>?_)
       clear hK K
       try go_frame
       refine rdy1 5 (fun K hK=>?_)
       go_simp
       (go_at_call 28;refine (hat.out _ ((Below.refl _ _).drew.alloc (by simp) _)).mono ?_;rintro e w2 ⟨rfl,hbq⟩)
       have hb2:Below wr.heap.size wr w2:=((Below.refl _ _).drew.alloc (by simp) _).trans (hbq.mono (by simp))
       have ho3:=(Own3.new wr.drew (.int .i64 0) (.int .i64 0) (.int .u32 0) 54).keep hbq
       simp only [World.size_drew] at ho3
       obtain ⟨d0,d1,d2,f0,f1,f2⟩:=ho3
       go_wp2_with fail
       refine hK.out _ _ (hSof.out _ hb2) (fun hHeld=>?_)
       clear hK K
       try go_frame
       refine draw_t 6 26 hHeld ?_
       refine draw_t 7 33 hHeld ?_
       refine draw_t 8 34 hHeld ?_
       refine rdy1 10 (fun K hK=>?_)
       go_simp
       refine hK.out _ _ (hSof.out _ (zb9 hb2 (by simp))) (fun hHeld=>?_)
       clear hK K
       try go_frame
       refine draw_t 11 7 hHeld ?_
       refine wpAnyH_done (by kernel_rfl) ?_ _
       go_wp2_with fail
       go_meet
       exact ⟨_,rfl,rfl,Own3.set3 ⟨d0,d1,d2,f0,f1,f2⟩ _ _ _,by simp,zb9 hb2 (by simp)⟩
    case rest =>
     obtain ⟨b,rfl,rfl,ho3,hbs,hbc⟩:=hcut
     obtain ⟨d0,d1,d2,-,-,-⟩:=ho3
     have lc0:=za0 hbc lc0
     have x0:=za0 hbc x0
     have x1:=za0 hbc x1
     have x2:=za0 hbc x2
     have x3:=za0 hbc x3
     have x4:=za0 hbc x4
     have x5:=za0 hbc x5
     have HOc:=qq (HOr.out.keep hbc)
     have Hbc:=qq hbc
     clear hSof hat HOr hbc
     go_wp2_with fail
     go_region_held3 (fun w'=>w'.cell? ⟨w.heap.size,0,none⟩=some (.int .i64 h.pw)/\w'.cell? ⟨w.heap.size,1,none⟩=some (.int .i64 h.np)/\w'.cell? ⟨w.heap.size,2,none⟩=some (.slice p n c)/\w'.cell? ⟨w.heap.size,3,none⟩=some (.slice q m d)/\w'.cell? ⟨w.heap.size,4,none⟩=some (.int .i64 h.space)/\w'.cell? ⟨w.heap.size,5,none⟩=some (.int .i64 h.bump)/\w'.cell? ⟨lb,lo+k,none⟩=some (.int .u64 x)/\Below wc.heap.size wc w')
      (first | exact ⟨x0,x1,x2,x3,x4,x5,lc0,Below.drew (Below.refl _ _)⟩ | (exact keep8 ‹_› (Below.drew (Below.refl _ _))) | (exact keep8 ‹_› hbq))
      (first
       | (go_at_call 33;refine (hfx.out _ (za3 Hbc.out (And.right (And.right (And.right (And.right (And.right (And.right (And.right ‹_›))))))))).mono ?_;rintro e w' ⟨⟨fp,FN,fc,rfl,hfrow⟩,hbq⟩))
     rename_i hH
     obtain ⟨x0,x1,x2,x3,x4,x5,lc0,hb3⟩:=hH
     have d0:=za0 hb3 d0
     have d1:=za0 hb3 d1
     have d2:=za0 hb3 d2
     have HO3:=qq (HOc.out.keep hb3)
     have HB3:=qq (za3 Hwr.out (za3 Hbc.out hb3))
     have Hb13:=qq (za3 Hb.out (za3 Hbc.out hb3))
     have hFN:=hfrow.len
     have hFN9:FN<=4096:=by omega
     have HFN:=qq hFN
     have Hfr:=qq (fun w'' (hb:Below w'.heap.size w' w'')=>hfrow.keep hb)
     obtain ⟨BK,hBK⟩:∃ BK,Hid (zo5 all ⟨K,N0,M0⟩ 0 fs=BK):=⟨_,rfl⟩
     have hst2:=Hst.out
     rw [hBK.out] at hst2
     have Hst2:=qq hst2
     clear hfx HOc hb3 hbq hfrow hFN hst2 Hst Hbc Hwr
     go_wp2
     go_loopw [10] (fun v wy=>∃ t:Nat,t<=FN/\zo5 all ⟨K,N0,M0⟩ t (fs.drop t)=BK/\v = .int .i64 t/\Below w'.heap.size w' wy) (fun v _=>FN - (intOf v).toNat)
     case atStart=>exact ⟨0,by omega,by rw [List.drop_zero];exact hBK.out,rfl,Below.refl _ _⟩
     case round =>
      obtain ⟨t,ht,hf,rfl,hby⟩:=hrel
      have Hft:=qq hf
      clear hf
      have Hby:=qq hby
      have HBy:=qq (za3 HB3.out hby)
      by_cases htl:t < FN
      · have htl2:(t:Int) < FN:=by omega
        obtain ⟨f,fb,fo,hff,rfl,fc0⟩:=(Hfr.out _ hby).at_ htl
        have hfb:=Hfw.out f (List.mem_of_getElem? hff)
        have hbt:=bad_at (all:=all) (x:=⟨K,N0,M0⟩) hff
        rw [Hft.out] at hbt
        simp only [] at hbt
        have hpt2:=qq (hpt.out t)
        generalize ptrB K N0 M0 t=PB at hpt2 hbt
        have x0:=za0 hby x0
        have x1:=za0 hby x1
        have x2:=za0 hby x2
        have x3:=za0 hby x3
        have x4:=za0 hby x4
        have x5:=za0 hby x5
        have d0:=za0 hby d0
        have d1:=za0 hby d1
        have d2:=za0 hby d2
        have lc0:=za0 hby lc0
        have HOy:=qq (HO3.out.keep hby)
        clear hff hby
        cases PB
        · have E:=qq (show zo5 all ⟨K,N0,M0⟩ (t+1) (fs.drop (t+1))=BK from by rw [hbt,if_neg (fun h=>by cases h.1)])
          clear hbt
          go_wp2_with fail
          refine (hpt2.out _).mono ?_
          rintro e w5 ⟨rfl,hb5⟩
          have Hb5:=qq (za3 Hby.out hb5)
          clear hb5 hpt2
          go_wp2
          go_roundw
          case rel=>exact ⟨t+1,by omega,E.out,by go_num,Hb5.out⟩
          case measure=>simp [intOf];omega
        · by_cases hf0:f=0
          · have E:=qq (show zo5 all ⟨K,N0,M0⟩ (t+1) (fs.drop (t+1))=BK from by rw [hbt,if_neg (fun h=>h.2.1 hf0)])
            subst hf0
            clear hbt
            go_wp2_with fail
            refine (hpt2.out _).mono ?_
            rintro e w5 ⟨rfl,hb5⟩
            have fc0:=za0 hb5 fc0
            have Hb5:=qq (za3 Hby.out hb5)
            clear hb5 hpt2
            go_wp2
            go_roundw
            case rel=>exact ⟨t+1,by omega,E.out,by go_num,Hb5.out⟩
            case measure=>simp [intOf];omega
          · have b9:(f != 0)=true:=bne_iff_ne.2 hf0
            by_cases hfm:f∈all
            · have E:=qq (show zo5 all ⟨K,N0,M0⟩ (t+1) (fs.drop (t+1))=BK from by rw [hbt,if_neg (fun h=>h.2.2 hfm)])
              have hhas:=qq (fun w' hl=>ya3 (some ⟨lb,lo,none⟩) N lc all f w' hl)
              rw [decide_eq_true hfm] at hhas
              clear hbt hf0 hfm
              go_wp2_with fail
              refine (hpt2.out _).mono ?_
              rintro e w5 ⟨rfl,hb5⟩
              have fc0:=za0 hb5 fc0
              have Hb5:=qq (za3 Hby.out hb5)
              clear hb5 hpt2
              go_wp2_with fail
              refine (hhas.out _ (Hlr.out _ (za3 Hb13.out Hb5.out))).mono ?_
              rintro e w6 ⟨rfl,hb6⟩
              have Hb6:=qq (za3 Hb5.out hb6)
              clear hb6 hhas
              go_wp2
              go_roundw
              case rel=>exact ⟨t+1,by omega,E.out,by go_num,Hb6.out⟩
              case measure=>simp [intOf];omega
            · have E:=qq (show ptrFd h (x+1+t)=F from by
               have h9:=Hst2.out
               rw [show BK=some t from by rw [hbt,if_pos ⟨rfl,hf0,hfm⟩]] at h9
               exact h9.symm)
              have hhas:=qq (fun w' hl=>ya3 (some ⟨lb,lo,none⟩) N lc all f w' hl)
              rw [decide_eq_false hfm] at hhas
              have hof2:=qq (fun w=>hof.out (x+1+t) w (by omega) (by omega))
              obtain ⟨OI,hOI⟩:∃ OI,Hid (ofI h.pw h.np (x+1+t)=OI):=⟨_,rfl⟩
              rw [hOI.out] at hof2
              clear hbt hf0 hfm
              go_wp2_with fail
              refine (hpt2.out _).mono ?_
              rintro e w5 ⟨rfl,hb5⟩
              have fc0:=za0 hb5 fc0
              have lc0:=za0 hb5 lc0
              have x0:=za0 hb5 x0
              have x1:=za0 hb5 x1
              have HO5:=qq (HOy.out.keep hb5)
              have Hb5:=qq (za3 Hby.out hb5)
              clear hb5 hpt2
              go_wp2_with fail
              refine (hhas.out _ (Hlr.out _ (za3 Hb13.out Hb5.out))).mono ?_
              rintro e w6 ⟨rfl,hb6⟩
              have fc0:=za0 hb6 fc0
              have lc0:=za0 hb6 lc0
              have x0:=za0 hb6 x0
              have x1:=za0 hb6 x1
              have HO6:=qq (HO5.out.keep hb6)
              have Hb6:=qq (za3 Hb5.out hb6)
              clear hb6 hhas
              go_wp2_with fail
              refine (hof2.out _).mono ?_
              rintro e w7 ⟨rfl,hb7⟩
              have HO7:=HO6.out.keep hb7
              have HB7:=qq (za3 (za3 HB3.out Hb6.out) hb7)
              obtain ⟨d0,d1,d2,f0,f1,f2⟩:=HO7
              clear hb7 hof2 fc0 lc0 x0 x1 x2 x3 x4 x5
              go_wp2
              exact bodyPost_ret (v:=.agg #[.int .i64 6,.int .i64 OI,.int .u64 (x+1+t)]) (by simp [results,Tryz.results153,go_sem,d0,d1,d2]) rfl ⟨by rw [<-E.out];unfold ptrFd;rw [hOI.out];rfl,zb9 HB7.out (by omega)⟩
      · have E:=qq (show zv2 h all (all.drop (k+1))=F from by
         have h9:=Hst2.out
         rw [show BK=none from by rw [<-Hft.out,bad_end (by rw [HFN.out];omega)]] at h9
         exact h9.symm)
        have Hb14:=qq (za3 Hb13.out hby)
        clear hby
        go_wp2
        go_roundw
        case rel=>exact ⟨k+1,by omega,E.out,by go_num,Hb14.out⟩
        case measure=>simp [intOf];omega
  · have E:=qq (show Fd.none=F from by rw [<-Hf.out,ptrs_end (by rw [HNl.out];omega)])
    obtain ⟨d0,d1,d2,f0,f1,f2⟩:=HOr.out
    clear hb x0 x1 x2 x3 x4 x5
    go_wp2
    exact bodyPost_ret (v:=.agg #[.int .i64 0,.int .i64 0,.int .u64 0]) (by simp [results,Tryz.results153,go_sem,d0,d1,d2]) rfl ⟨by rw [<-E.out];rfl,zb9 Hwr.out (by omega)⟩
end Go.Proofs.YtipjdbhocjpmdaaGreat
