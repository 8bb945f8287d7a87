import Derived.Test.YtipjdbhocjpmdaaGreatQ01
import Derived.Test.YtipjdbhocjpmdaaGreatQ05
import Derived.Test.YtipjdbhocjpmdaaGreatQ08
import Derived.Test.YtipjdbhocjpmdaaGreatQ13
import Derived.Test.YtipjdbhocjpmdaaGreatQ20
import Derived.Deep.RegionHeld3
import Derived.Maps.RangeWalk
import Derived.IntWalk
set_option linter.unusedSimpArgs false
set_option linter.unusedVariables false
set_option maxRecDepth 100000
set_option maxHeartbeats 12800000
namespace Go.Proofs.YtipjdbhocjpmdaaGreat
open Go.RowKit
def findD (P:Int->Bool):List Int->Int
 | []=>0
 | x :: r=>if P x then x else findD P r
theorem findD_at {P:Int->Bool} {l:List Int} {k:Nat} {x:Int} (h:l[k]?=some x):findD P (l.drop k)=if P x then x else findD P (l.drop (k+1)):=by
 obtain ⟨hk,rfl⟩:=List.getElem?_eq_some_iff.1 h
 rw [List.drop_eq_getElem_cons hk,findD]
theorem findD_end {P:Int->Bool} {l:List Int} {k:Nat} (h:l.length<=k):findD P (l.drop k)=0:=by
 rw [List.drop_eq_nil_of_le h];rfl
theorem atH_m (h:Hp) (a:Int):0<=(atH h a).m/\(atH h a).m < 4294967296:=by
 by_cases e:atE h a=0
 · have:=at_in e;exact ⟨this.2.2.1,this.2.2.2.1⟩
 · rw [atH_no e];decide
def clsB (h:Hp) (i:Nat) (x:Int):Bool :=
 (decide ((pgAt h i).kind=1) && !decide (zd8 (atH h x).k (atH h x).n (atH h x).m<=zs9 h.pw h.np)) || (decide ((pgAt h i).kind=2) && decide ((atH h x).k=0))
def clsV (h:Hp) (i:Nat) (l:List Int):Int:=findD (clsB h i) l
theorem keep6b {w0 w w':World} {a b c d e:Addr} {va vb vc vd ve:Value} (h:w.cell? a=some va/\w.cell? b=some vb/\w.cell? c=some vc/\w.cell? d=some vd/\w.cell? e=some ve/\Below w0.heap.size w0 w) (hb:Below w.heap.size w w') :
 w'.cell? a=some va/\w'.cell? b=some vb/\w'.cell? c=some vc/\w'.cell? d=some vd/\w'.cell? e=some ve/\Below w0.heap.size w0 w' :=
 ⟨za0 hb h.1,za0 hb h.2.1,za0 hb h.2.2.1,za0 hb h.2.2.2.1,za0 hb h.2.2.2.2.1,za3 h.2.2.2.2.2 hb⟩
theorem refClass_val {u:Value} {h:Hp} (i:Nat) (lp:Option Addr) (N lc:Nat) (ls:List Int) (w:World) (hu:HV w u h) (hi:i < h.pages.length) (hl:SRow w .u64 lp N lc ls) (hwl:WB ls) :
 Calls Tryz.prog 154 #[u,.int .i64 i,.slice lp N lc] w fun e w'=>e = .returned (.int .u64 (clsV h i ls))/\Below w.heap.size w w':=by
 obtain ⟨p,n,c,q,m,d,rfl,hs,hr,hwb⟩:=hu
 have hb0:Below w.heap.size w (w.alloc (.cells #[.int .i64 h.pw,.int .i64 h.np,.slice p n c,.slice q m d,.int .i64 h.space,.int .i64 h.bump] 27)):=za1
 have Hx:=qq (Own6.new w (.int .i64 h.pw) (.int .i64 h.np) (.slice p n c) (.slice q m d) (.int .i64 h.space) (.int .i64 h.bump) 27)
 have hatG:=qq (fun (a:Int) w' (hb:Below w.heap.size w w') (h1:0<=a) (h2:a < 18446744073709551616)=>refAt_val a w' (⟨p,n,c,q,m,d,rfl,hs.keep hb,hr.keep hb,hwb⟩:HV w' (.agg #[.int .i64 h.pw,.int .i64 h.np,.slice p n c,.slice q m d,.int .i64 h.space,.int .i64 h.bump]) h) h1 h2)
 have HWL:=qq hwl
 have HB:=qq hb0
 have Hlr:=qq (fun w' (hb:Below w.heap.size w w')=>hl.keep hb)
 have Hpr:=qq (fun w' (hb:Below w.heap.size w w')=>hr.keep hb)
 have hN9:=hl.i63.2
 have HNl:=qq hl.len
 have him:i < m:=by rw [<-hr.len];exact hi
 have himi:(i:Int) < m:=by omega
 obtain ⟨X,b1,off,hX,rfl,-,-,-,-⟩:=hr.at_ him
 have hpg:pgAt h i=X:=by unfold pgAt;rw [Int.toNat_natCast];exact zc6 hX
 have hm9:=hr.i63.2
 have HPG:=qq hpg
 clear hs hr hb0 hl hwl hpg hX him
 go_enter Tryz.func154,Tryz.ntmps154
 go_wp2_with fail
 go_loopw [7] (fun j wr=>∃ (k:Nat),k<=N/\findD (clsB h i) (ls.drop k)=clsV h i ls/\j = .int .i64 k/\Below (w.heap.size+1) (w.alloc (.cells #[.int .i64 h.pw,.int .i64 h.np,.slice p n c,.slice (some ⟨b1,off,none⟩) m d,.int .i64 h.space,.int .i64 h.bump] 27)) wr) (fun j _=>N - (intOf j).toNat)
 case atStart=>exact ⟨0,by omega,by rw [List.drop_zero];rfl,rfl,Below.refl _ _⟩
 case round =>
  obtain ⟨k,hk,hf,rfl,hb⟩:=hrel
  have hx6:=Hx.out.keep (by simpa using hb)
  have Hwr:=qq (HB.out.trans (hb.mono (by omega)))
  have Hf:=qq hf
  clear hf
  by_cases hlt:k < N
  · have hlt2:(k:Int) < N:=by omega
    obtain ⟨x,lb,lo,hx,rfl,lc0⟩:=(Hlr.out _ Hwr.out).at_ hlt
    obtain ⟨x0,x1,x2,x3,x4,x5,-,-,-,-,-,-⟩:=hx6
    have hxw:=HWL.out x (List.mem_of_getElem? hx)
    have hat:=qq (fun w' (hB:Below wr.heap.size wr w')=>hatG.out x w' (za3 Hwr.out hB) hxw.1 hxw.2)
    have hM:=atH_m h x
    have hcb:clsB h i x=((decide ((pgAt h i).kind=1) && !decide (zd8 (atH h x).k (atH h x).n (atH h x).m<=zs9 h.pw h.np)) || (decide ((pgAt h i).kind=2) && decide ((atH h x).k=0))):=rfl
    rw [HPG.out] at hcb
    have hst:=findD_at (P:=clsB h i) hx
    rw [Hf.out,hcb] at hst
    generalize (atH h x).k=K at hat hst hcb
    generalize (atH h x).n=N0 at hat hst hcb
    generalize (atH h x).m=M0 at hat hst hcb hM
    generalize atE h x=E0 at hat
    have hsz:=qq (fun w=>zn3 K N0 M0 w hM.1 hM.2)
    have hsm:=qq (fun w=>yb3 h.pw h.np w)
    generalize zd8 K N0 M0=Z at hsz hst hcb
    generalize zs9 h.pw h.np=V at hsm hst hcb
    have Hst:=qq hst
    have Hb:=qq hb
    obtain ⟨X',b1',off',hX',ha',g0,-,-,-⟩:=(Hpr.out _ Hwr.out).at_ (k:=i) (by omega)
    injection ha' with ha'
    injection ha' with ha1 ha2
    subst ha1 ha2
    obtain rfl:X=X':=by rw [<-HPG.out];unfold pgAt;rw [Int.toNat_natCast];exact zc6 hX'
    clear hX'
    clear hx hxw hb hst hcb hM
    have hSof:=qq (fun W (hB:Below wr.heap.size wr W)=>(⟨za0 hB x0,za0 hB x1,za0 hB x2,za0 hB x3,za0 hB x4,za0 hB x5,za0 hB lc0,hB⟩:(fun w'=>w'.cell? ⟨w.heap.size,0,none⟩=some (.int .i64 h.pw)/\w'.cell? ⟨w.heap.size,1,none⟩=some (.int .i64 h.np)/\w'.cell? ⟨w.heap.size,2,none⟩=some (.slice p n c)/\w'.cell? ⟨w.heap.size,3,none⟩=some (.slice (some ⟨b1,off,none⟩) m d)/\w'.cell? ⟨w.heap.size,4,none⟩=some (.int .i64 h.space)/\w'.cell? ⟨w.heap.size,5,none⟩=some (.int .i64 h.bump)/\w'.cell? ⟨lb,lo+k,none⟩=some (.int .u64 x)/\Below wr.heap.size wr w') W))
    go_upto_region 4 with fail
    go_cut [8,9] (fun th te wx=>∃ b:Nat,th = .pointer (some ⟨b,0,none⟩)/\te = .int .i64 E0/\Own3 wx b (.int .i64 K) (.int .i64 N0) (.int .u32 M0)/\wr.heap.size<=b/\Below wr.heap.size wr wx)
    case first =>
     refine wp_region_held_drew (S:=fun w'=>w'.cell? ⟨w.heap.size,0,none⟩=some (.int .i64 h.pw)/\w'.cell? ⟨w.heap.size,1,none⟩=some (.int .i64 h.np)/\w'.cell? ⟨w.heap.size,2,none⟩=some (.slice p n c)/\w'.cell? ⟨w.heap.size,3,none⟩=some (.slice (some ⟨b1,off,none⟩) m d)/\w'.cell? ⟨w.heap.size,4,none⟩=some (.int .i64 h.space)/\w'.cell? ⟨w.heap.size,5,none⟩=some (.int .i64 h.bump)/\w'.cell? ⟨lb,lo+k,none⟩=some (.int .u64 x)/\Below wr.heap.size wr w') (by kernel_rfl) (hSof.out _ (Below.drew (Below.refl _ _))) (fun hHeld=>?_)
     refine draw_t 0 18 hHeld ?_
     refine draw_t 1 19 hHeld ?_
     refine draw_t 2 20 hHeld ?_
     refine draw_t 3 21 hHeld ?_
     refine draw_t 4 22 hHeld ?_
     refine rdy2 5 9 (fun K hK=>?_) (fun K hK=>?_)
     · go_simp
       (go_at_call 26;refine (hat.out _ ((Below.refl _ _).drew)).mono ?_;rintro e w2 ⟨rfl,hbq⟩)
       have hb2:Below wr.heap.size wr w2:=(Below.refl _ _).drew.trans (by simpa using hbq)
       go_wp2_with fail
       refine hK.out _ _ (hSof.out _ ((Below.refl _ _).drew.trans (by simpa using hbq))) (fun hHeld=>?_)
       clear hK K
       try go_frame
       refine draw_t 6 17 hHeld ?_
       refine draw_t 7 24 hHeld ?_
       refine draw_t 8 25 hHeld ?_
       refine rdy1 9 (fun K hK=>?_)
       go_simp
       refine hK.out _ _ (hSof.out _ (za3 hb2 za1)) (fun hHeld=>?_)
       clear hK K
       try go_frame
       refine rdy1 10 (fun K hK=>?_)
       go_simp
       refine hK.out _ _ (hSof.out _ (za3 hb2 za1)) (fun hHeld=>?_)
       clear hK K
       try go_frame
       refine draw_t 11 9 hHeld ?_
       refine wpAnyH_done (by kernel_rfl) ?_ _
       go_wp2_with fail
       go_meet
       exact ⟨_,rfl,rfl,Own3.new _ _ _ _ _,hb2.size,za3 hb2 za1⟩
     · go_simp
       refine hK.out _ _ (hSof.out _ ((Below.refl _ _).drew.alloc (by simp) _)) (fun hHeld=>?_)
       clear hK K
       try go_frame
       refine rdy1 5 (fun K hK=>?_)
       go_simp
       (go_at_call 26;refine (hat.out _ ((Below.refl _ _).drew.alloc (by simp) _)).mono ?_;rintro e w2 ⟨rfl,hbq⟩)
       have hb2:Below wr.heap.size wr w2:=((Below.refl _ _).drew.alloc (by simp) _).trans (hbq.mono (by simp))
       have ho3:=(Own3.new wr.drew (.int .i64 0) (.int .i64 0) (.int .u32 0) 54).keep hbq
       simp only [World.size_drew] at ho3
       obtain ⟨d0,d1,d2,f0,f1,f2⟩:=ho3
       go_wp2_with fail
       refine hK.out _ _ (hSof.out _ hb2) (fun hHeld=>?_)
       clear hK K
       try go_frame
       refine draw_t 6 17 hHeld ?_
       refine draw_t 7 24 hHeld ?_
       refine draw_t 8 25 hHeld ?_
       refine rdy1 10 (fun K hK=>?_)
       go_simp
       refine hK.out _ _ (hSof.out _ (zb9 hb2 (by simp))) (fun hHeld=>?_)
       clear hK K
       try go_frame
       refine draw_t 11 9 hHeld ?_
       refine wpAnyH_done (by kernel_rfl) ?_ _
       go_wp2_with fail
       go_meet
       exact ⟨_,rfl,rfl,Own3.set3 ⟨d0,d1,d2,f0,f1,f2⟩ _ _ _,by simp,zb9 hb2 (by simp)⟩
    case rest =>
     obtain ⟨b,rfl,rfl,ho3,hbs,hbc⟩:=hcut
     obtain ⟨d0,d1,d2,-,-,-⟩:=ho3
     have hl0:=za0 hbc lc0
     have x0:=za0 hbc x0
     have x1:=za0 hbc x1
     have x3:=za0 hbc x3
     have g0:=za0 hbc g0
     clear hSof hat x2 x4 x5 lc0
     have hwc:=qq (za3 Hwr.out hbc)
     have Hbc:=qq (Hb.out.trans (hbc.mono (by have:=Hb.out.size;simpa using this)))
     clear hbc
     go_wp2_with fail
     go_region_held3 (fun w'=>w'.cell? ⟨b,0,none⟩=some (.int .i64 K)/\w'.cell? ⟨b,1,none⟩=some (.int .i64 N0)/\w'.cell? ⟨b,2,none⟩=some (.int .u32 M0)/\w'.cell? ⟨w.heap.size,0,none⟩=some (.int .i64 h.pw)/\w'.cell? ⟨w.heap.size,1,none⟩=some (.int .i64 h.np)/\Below wc.heap.size wc w')
      (first | exact ⟨d0,d1,d2,x0,x1,Below.drew (Below.refl _ _)⟩ | (exact keep6b ‹_› (Below.drew (Below.refl _ _))) | (exact keep6b ‹_› hbq))
      (first
       | (go_at_call 73;refine (hsz.out _).mono ?_;rintro e w' ⟨rfl,hbq⟩)
       | (go_at_call 61;refine (hsm.out _).mono ?_;rintro e w' ⟨rfl,hbq⟩))
     rename_i w5 _ hH
     obtain ⟨d0,-,-,-,-,hb5⟩:=hH
     have x3:=za0 hb5 x3
     have g0:=za0 hb5 g0
     have hl0:=za0 hb5 hl0
     have hw5:=qq (za3 hwc.out hb5)
     have Hb5:=qq (Hbc.out.trans (hb5.mono (by have:=Hbc.out.size;simpa using this)))
     clear hb5 hsz hsm x0 x1 hbq
     by_cases hk1:X.kind=1
     · rw [hk1] at g0
       by_cases hz:Z<=V
       · have E2:=qq (show findD (clsB h i) (ls.drop (k+1))=clsV h i ls from by rw [Hst.out];simp [hk1,hz])
         clear hk1 Hst
         go_wp2
         go_roundw
         case rel=>exact ⟨k+1,by omega,E2.out,by go_num,Hb5.out⟩
         case measure=>simp [intOf];omega
       · have E2:=qq (show x=clsV h i ls from by rw [Hst.out];simp [hk1,hz])
         clear hk1 Hst
         go_wp2
         go_ret
         exact ⟨zj1 E2.out,hw5.out⟩
     · have b1':(X.kind == 1)=false:=beq_eq_false_iff_ne.2 hk1
       by_cases hk2:X.kind=2
       · rw [hk2] at g0
         by_cases hK:K=0
         · have E2:=qq (show x=clsV h i ls from by rw [Hst.out];simp [hk2,hK])
           subst hK
           clear hk1 hk2 Hst b1'
           go_wp2
           go_ret
           exact ⟨zj1 E2.out,hw5.out⟩
         · have E2:=qq (show findD (clsB h i) (ls.drop (k+1))=clsV h i ls from by rw [Hst.out];simp [hk2,hK])
           have b3:(K == 0)=false:=beq_eq_false_iff_ne.2 hK
           clear hk1 hk2 Hst hK b1'
           go_wp2
           go_roundw
           case rel=>exact ⟨k+1,by omega,E2.out,by go_num,Hb5.out⟩
           case measure=>simp [intOf];omega
       · have E2:=qq (show findD (clsB h i) (ls.drop (k+1))=clsV h i ls from by rw [Hst.out];simp [hk1,hk2])
         have b2:(X.kind == 2)=false:=beq_eq_false_iff_ne.2 hk2
         clear hk1 hk2 Hst
         go_wp2
         go_roundw
         case rel=>exact ⟨k+1,by omega,E2.out,by go_num,Hb5.out⟩
         case measure=>simp [intOf];omega
  · obtain rfl:k=N:=by omega
    have E2:=qq (show (0:Int)=clsV h i ls from by rw [<-Hf.out,findD_end (by rw [HNl.out];exact Nat.le_refl _)])
    clear hb hx6
    go_wp2
    go_ret
    exact ⟨zj1 E2.out,Hwr.out⟩
def zm4 (ps:List Pg):Nat->Nat
 | 0=>0
 | j+1=>if (ps.getD (j+1) Pg.zero).kind=3 then zm4 ps j else j+1
theorem head_zero {h:Hp} (h1:okH h=true):¬(h.pages.getD 0 Pg.zero).kind=3:=by
 obtain ⟨-,-,-,-,-,-,hL⟩:=zc2 h1
 cases hp:h.pages with
 | nil=>simp [Pg.zero]
 | cons x r =>
  rw [hp,zf0] at hL
  intro hk
  have hk':x.kind=3:=hk
  unfold zg8 at hL
  rw [if_pos (Or.inl (by rw [hk'];simp))] at hL
  cases hL
theorem refHead_val {u:Value} {h:Hp} (i:Nat) (w:World) (hu:HV w u h) (h1:okH h=true) (hi:i < h.pages.length) :
 Calls Tryz.prog 156 #[u,.int .i64 i] w fun e w'=>e = .returned (.int .i64 (zm4 h.pages i))/\Below w.heap.size w w':=by
 obtain ⟨p,n,c,q,m,d,rfl,hs,hr,hwb⟩:=hu
 have hz:=qq (head_zero h1)
 have hb0:Below w.heap.size w (w.alloc (.cells #[.int .i64 h.pw,.int .i64 h.np,.slice p n c,.slice q m d,.int .i64 h.space,.int .i64 h.bump] 27)):=za1
 have Hr:=qq (hr.keep hb0)
 have Hm:=qq hr.len
 have HB:=qq hb0
 have hm9:=hr.i63.2
 have him:i < m:=by rw [<-hr.len];exact hi
 clear hs hr hb0 h1
 go_enter Tryz.func156,Tryz.ntmps156
 go_wp2
 go_loop [1] (fun j=>∃ k:Nat,k<=i/\zm4 h.pages k=zm4 h.pages i/\j = .int .i64 k) (fun j=>(intOf j).toNat)
 case atStart=>exact ⟨i,Nat.le_refl _,rfl,rfl⟩
 case round =>
  obtain ⟨k,hk,hf,rfl⟩:=hrel
  have Hf:=qq hf
  clear hf
  have hkm:k < m:=by omega
  obtain ⟨x,b,off,hx,rfl,c0,-,-,-⟩:=Hr.out.at_ hkm
  have hkl:(k:Int) < m:=by omega
  have hg:=zc6 hx
  clear hx
  by_cases h3:x.kind=3
  · obtain ⟨J,rfl⟩:∃ J,k=J+1:=by
     rcases k with _ | J
     · exact absurd (by rw [hg];exact h3) hz.out
     · exact ⟨J,rfl⟩
    have E:=qq (show zm4 h.pages J=zm4 h.pages i from by rw [<-Hf.out,zm4,hg,if_pos h3])
    have hJ:((J+1:Nat):Int) - 1=(J:Int):=by omega
    rw [h3] at c0
    clear h3 hg
    go_wp2
    go_round
    case rel=>exact ⟨J,by omega,E.out,by go_num⟩
    case measure=>simp [intOf]
  · have E:=qq (show k=zm4 h.pages i from by
     rw [<-Hf.out]
     rcases k with _ | J
     · rfl
     · rw [zm4,hg,if_neg h3])
    have b3:(x.kind == 3)=false:=beq_eq_false_iff_ne.2 h3
    clear h3 hg
    go_wp2
    go_ret
    exact ⟨zj1 (by rw [E.out]),HB.out⟩
def usedZ (h:Hp) (x:Int):Int:=if (atH h x).k=0 then 1 else zd8 (atH h x).k (atH h x).n (atH h x).m
def usedB (h:Hp) (i:Nat) (l:List Int) (t:Nat):Bool:=l.any fun x=>decide (x - 4096 - (i:Int)*h.pw<=t/\(t:Int) < x - 4096 - (i:Int)*h.pw+usedZ h x)
def usedV (h:Hp) (i:Nat) (l:List Int):List Bool:=(List.range h.pw.toNat).map (usedB h i l)
def zr7 (h:Hp) (i:Nat) (l:List Int) (x:Int) (z:Nat):List Bool:=(List.range h.pw.toNat).map fun t=>usedB h i l t || decide (x - 4096 - (i:Int)*h.pw<=t/\(t:Int) < x - 4096 - (i:Int)*h.pw+z)
def zs8 (bs:List Bool):List Value:=bs.map .bool
theorem bvals_len (bs:List Bool):(zs8 bs).length=bs.length:=by simp [zs8]
theorem usedM_len (h:Hp) (i:Nat) (l:List Int) (x:Int) (z:Nat):(zr7 h i l x z).length=h.pw.toNat:=by unfold zr7;rw [List.length_map,List.length_range]
theorem usedM_zero (h:Hp) (i:Nat) (l:List Int) (x:Int):zr7 h i l x 0=usedV h i l:=by
 unfold zr7 usedV
 congr 1;funext t
 rw [show decide (x - 4096 - (i:Int)*h.pw<=t/\(t:Int) < x - 4096 - (i:Int)*h.pw+((0:Nat):Int))=false from decide_eq_false (by omega),Bool.or_false]
theorem usedM_in {h:Hp} {i:Nat} {l:List Int} {x:Int} {z T:Nat} (hT:x - 4096 - (i:Int)*h.pw+z=T) (hp:T < h.pw.toNat):(zr7 h i l x z).set T true=zr7 h i l x (z+1):=by
 apply List.ext_getElem?
 intro j
 rw [List.getElem?_set,usedM_len]
 unfold zr7
 rw [List.getElem?_map,List.getElem?_map]
 by_cases hj:j < h.pw.toNat
 · rw [List.getElem?_range hj]
   by_cases hjT:T=j
   · subst hjT
     rw [if_pos rfl,if_pos hp]
     simp only [Option.map_some]
     rw [decide_eq_true (by omega),Bool.or_true]
   · rw [if_neg hjT]
     simp only [Option.map_some]
     congr 2
     exact decide_eq_decide.2 (by omega)
 · rw [List.getElem?_eq_none (by rw [List.length_range];omega),if_neg (by omega)]
   rfl
theorem usedM_out {h:Hp} {i:Nat} {l:List Int} {x:Int} {z:Nat} (hT:x - 4096 - (i:Int)*h.pw+z < 0\/h.pw<=x - 4096 - (i:Int)*h.pw+z):zr7 h i l x (z+1)=zr7 h i l x z:=by
 unfold zr7
 apply List.map_congr_left
 intro t ht
 have:=List.mem_range.1 ht
 congr 1
 exact decide_eq_decide.2 (by omega)
theorem usedM_end {h:Hp} {i:Nat} {l:List Int} {x:Int} {z:Nat} (hz:usedZ h x=z):zr7 h i l x z=usedV h i (l ++ [x]):=by
 unfold zr7 usedV
 congr 1;funext t
 unfold usedB
 rw [List.any_append,List.any_cons,List.any_nil,Bool.or_false,hz]
theorem usedZ_bd (h:Hp) (x:Int):1<=usedZ h x/\usedZ h x<=256:=by
 unfold usedZ
 split
 · omega
 · by_cases e:atE h x=0
   · have:=at_in e
     rw [zu2 this.2.1];omega
   · rw [atH_no e];decide
theorem infoBool:(Tryz.prog.info? 4).map (fun i=>(i.zero,i.size,i.bytes))=some (some (.bool false),1,1):=by kernel_rfl
theorem usedV_nil (h:Hp) (i:Nat):usedV h i []=List.replicate h.pw.toNat false:=by
 unfold usedV usedB
 rw [List.eq_replicate_iff]
 refine ⟨by rw [List.length_map,List.length_range],fun b hb=>?_⟩
 obtain ⟨t,-,rfl⟩:=List.mem_map.1 hb
 rfl
theorem made_bools (h:Hp) (i:Nat):(madeCells #[Value.bool false] h.pw.toNat).toList=zs8 (usedV h i []):=by
 rw [toList_madeCells_one,usedV_nil,zs8,List.map_replicate]
theorem bvals_set (bs:List Bool) (k:Nat) (b:Bool):(zs8 bs).set k (.bool b)=zs8 (bs.set k b):=by simp [zs8,List.map_set]
def RetB (bs:List Bool) (e:Ending) (w':World):Prop:=∃ q m c,e = .returned (.slice q m c)/\VRow w' 1 q m c (zs8 bs)
theorem refUsed_val {u:Value} {h:Hp} (i:Nat) (lp:Option Addr) (N lc:Nat) (ls:List Int) (w:World) (hu:HV w u h) (h1:okH h=true) (hi:i < h.pages.length) (hl:SRow w .u64 lp N lc ls) (hwl:∀ x∈ls,0<=x/\x<=9000) :
 Calls Tryz.prog 157 #[u,.int .i64 i,.slice lp N lc] w fun e w'=>RetB (usedV h i ls) e w'/\Below w.heap.size w w':=by
 obtain ⟨p,n,c,q,m,d,rfl,hs,hr,hwb⟩:=hu
 obtain ⟨i0,hin,hz0,hz1,hz2⟩:=info_parts infoBool
 have hb0:Below w.heap.size w (w.alloc (.cells #[.int .i64 h.pw,.int .i64 h.np,.slice p n c,.slice q m d,.int .i64 h.space,.int .i64 h.bump] 27)):=za1
 have Hx:=qq (Own6.new w (.int .i64 h.pw) (.int .i64 h.np) (.slice p n c) (.slice q m d) (.int .i64 h.space) (.int .i64 h.bump) 27)
 have hatG:=qq (fun (a:Int) w' (hb:Below w.heap.size w w') (h1:0<=a) (h2:a < 18446744073709551616)=>refAt_val a w' (⟨p,n,c,q,m,d,rfl,hs.keep hb,hr.keep hb,hwb⟩:HV w' (.agg #[.int .i64 h.pw,.int .i64 h.np,.slice p n c,.slice q m d,.int .i64 h.space,.int .i64 h.bump]) h) h1 h2)
 have HWL:=qq hwl
 have HB:=qq hb0
 have Hlr:=qq (fun w' (hb:Below w.heap.size w w')=>hl.keep hb)
 have hN9:=hl.i63.2
 have HNl:=qq hl.len
 obtain ⟨g1,-,g3,-⟩:=zc2 h1
 obtain ⟨k1,k2,-,k4,k5⟩:=zb1 g1
 obtain ⟨PW,hPW⟩:=Int.eq_ofNat_of_zero_le (show 0<=h.pw by omega)
 have hPn:h.pw.toNat=PW:=by omega
 have HPn:=qq hPn
 have HPW:=qq hPW
 have hi64:i < 64:=by omega
 obtain ⟨IP,hIP⟩:∃ IP,(i:Int)*h.pw=IP:=⟨_,rfl⟩
 have hip0:0<=IP:=by rw [<-hIP];exact Int.mul_nonneg (by omega) (by omega)
 have hip1:IP<=64*64:=by rw [<-hIP];exact Int.mul_le_mul (by omega) k2 (by omega) (by omega)
 have HIP:=qq hIP
 have hP64:PW<=64:=by omega
 have hmk:=qq (made_bools h i)
 rw [hPn] at hmk
 have hp64:h.pw<=64:=k2
 clear hs hr hb0 hl hwl h1 g1 g3 hIP hPn k4 k5 hPW
 go_enter Tryz.func157,Tryz.ntmps157
 go_wp2_with (at_make;refine wpList_make_full _ rfl _ _ 177 rfl (w.heap.size+1) 4 i0 (.bool false) 1 Tryz.underlying177 hin hz0 hz1 .i64 .i64 h.pw h.pw PW rfl rfl HPW.out HPW.out ?c1 ?c2 ?c3 ?_)
 any_goals first | omega | (rw [hz2];omega) | (unfold maxLen;omega) | (simp;done)
 intro w2 hown hg
 have hb2:Below (w.heap.size+1) (w.alloc (.cells #[.int .i64 h.pw,.int .i64 h.np,.slice p n c,.slice q m d,.int .i64 h.space,.int .i64 h.bump] 27)) w2:=(Below.refl _ _).grown hg (by simp) (fun j h=>by cases h)
 rw [hmk.out] at hown
 have Hown0:=qq hown
 have HB2:=qq hb2
 clear hown hg hmk hb2
 go_wp2
 go_loopw [8] (fun j wr=>∃ (k:Nat),k<=N/\wr.ownsRow (w.heap.size+1) 4 1 (.slice (some ⟨w.heap.size+1,0,none⟩) PW PW) PW (zs8 (usedV h i (ls.take k)))/\j = .int .i64 k/\Below (w.heap.size+1) (w.alloc (.cells #[.int .i64 h.pw,.int .i64 h.np,.slice p n c,.slice q m d,.int .i64 h.space,.int .i64 h.bump] 27)) wr) (fun j _=>N - (intOf j).toNat)
 case atStart=>exact ⟨0,by omega,by rw [List.take_zero];exact Hown0.out,rfl,HB2.out⟩
 case round =>
  obtain ⟨k,hk,hown,rfl,hb⟩:=hrel
  have hx6:=Hx.out.keep (by simpa using hb)
  have Hwr:=qq (HB.out.trans (hb.mono (by omega)))
  have Hown:=qq hown
  clear hown Hown0 HB2
  by_cases hlt:k < N
  · have hlt2:(k:Int) < N:=by omega
    obtain ⟨x,lb,lo,hx,rfl,lc0⟩:=(Hlr.out _ Hwr.out).at_ hlt
    obtain ⟨x0,x1,x2,x3,x4,x5,-,-,-,-,-,-⟩:=hx6
    have hxw:=HWL.out x (List.mem_of_getElem? hx)
    have hat:=qq (fun w' (hB:Below wr.heap.size wr w')=>hatG.out x w' (za3 Hwr.out hB) hxw.1 (by omega))
    have hM:=atH_m h x
    have hus:usedZ h x=if (atH h x).k=0 then 1 else zd8 (atH h x).k (atH h x).n (atH h x).m:=rfl
    have hub:=usedZ_bd h x
    have Hend:=qq (fun z (hz:usedZ h x=(z:Nat))=>usedM_end (h:=h) (i:=i) (l:=ls.take k) hz)
    rw [<-zi9 hx] at Hend
    obtain ⟨Z,hZ⟩:=Int.eq_ofNat_of_zero_le (show 0<=usedZ h x by omega)
    rw [hZ] at hus hub
    have Hend:=qq (Hend.out Z hZ)
    clear hZ
    generalize (atH h x).k=K at hat hus
    generalize (atH h x).n=N0 at hat hus
    generalize (atH h x).m=M0 at hat hus hM
    generalize atE h x=E0 at hat
    have hsz:=qq (fun w=>zn3 K N0 M0 w hM.1 hM.2)
    generalize zd8 K N0 M0=SZ at hsz hus
    have Hus:=qq hus
    have Hb:=qq hb
    have Hxw:=qq hxw
    have Hx0:=qq hx
    have hZ256:Z<=256:=by omega
    clear hx hxw hb hM hus hub
    have hSof:=qq (fun W (hB:Below wr.heap.size wr W)=>(⟨za0 hB x0,za0 hB x1,za0 hB x2,za0 hB x3,za0 hB x4,za0 hB x5,za0 hB lc0,hB⟩:(fun w'=>w'.cell? ⟨w.heap.size,0,none⟩=some (.int .i64 h.pw)/\w'.cell? ⟨w.heap.size,1,none⟩=some (.int .i64 h.np)/\w'.cell? ⟨w.heap.size,2,none⟩=some (.slice p n c)/\w'.cell? ⟨w.heap.size,3,none⟩=some (.slice q m d)/\w'.cell? ⟨w.heap.size,4,none⟩=some (.int .i64 h.space)/\w'.cell? ⟨w.heap.size,5,none⟩=some (.int .i64 h.bump)/\w'.cell? ⟨lb,lo+k,none⟩=some (.int .u64 x)/\Below wr.heap.size wr w') W))
    go_upto_region 5 with fail
    go_cut [9,10] (fun th te wx=>∃ b:Nat,th = .pointer (some ⟨b,0,none⟩)/\te = .int .i64 E0/\Own3 wx b (.int .i64 K) (.int .i64 N0) (.int .u32 M0)/\wr.heap.size<=b/\Below wr.heap.size wr wx)
    case first =>
     refine wp_region_held_drew (S:=fun w'=>w'.cell? ⟨w.heap.size,0,none⟩=some (.int .i64 h.pw)/\w'.cell? ⟨w.heap.size,1,none⟩=some (.int .i64 h.np)/\w'.cell? ⟨w.heap.size,2,none⟩=some (.slice p n c)/\w'.cell? ⟨w.heap.size,3,none⟩=some (.slice q m d)/\w'.cell? ⟨w.heap.size,4,none⟩=some (.int .i64 h.space)/\w'.cell? ⟨w.heap.size,5,none⟩=some (.int .i64 h.bump)/\w'.cell? ⟨lb,lo+k,none⟩=some (.int .u64 x)/\Below wr.heap.size wr w') (by kernel_rfl) (hSof.out _ (Below.drew (Below.refl _ _))) (fun hHeld=>?_)
     refine draw_t 0 25 hHeld ?_
     refine draw_t 1 26 hHeld ?_
     refine draw_t 2 27 hHeld ?_
     refine draw_t 3 28 hHeld ?_
     refine draw_t 4 29 hHeld ?_
     refine rdy2 5 9 (fun K hK=>?_) (fun K hK=>?_)
     · go_simp
       (go_at_call 26;refine (hat.out _ ((Below.refl _ _).drew)).mono ?_;rintro e w2 ⟨rfl,hbq⟩)
       have hb2:Below wr.heap.size wr w2:=(Below.refl _ _).drew.trans (by simpa using hbq)
       go_wp2_with fail
       refine hK.out _ _ (hSof.out _ ((Below.refl _ _).drew.trans (by simpa using hbq))) (fun hHeld=>?_)
       clear hK K
       try go_frame
       refine draw_t 6 24 hHeld ?_
       refine draw_t 7 31 hHeld ?_
       refine draw_t 8 32 hHeld ?_
       refine rdy1 9 (fun K hK=>?_)
       go_simp
       refine hK.out _ _ (hSof.out _ (za3 hb2 za1)) (fun hHeld=>?_)
       clear hK K
       try go_frame
       refine rdy1 10 (fun K hK=>?_)
       go_simp
       refine hK.out _ _ (hSof.out _ (za3 hb2 za1)) (fun hHeld=>?_)
       clear hK K
       try go_frame
       refine draw_t 11 10 hHeld ?_
       refine wpAnyH_done (by kernel_rfl) ?_ _
       go_wp2_with fail
       go_meet
       exact ⟨_,rfl,rfl,Own3.new _ _ _ _ _,hb2.size,za3 hb2 za1⟩
     · go_simp
       refine hK.out _ _ (hSof.out _ ((Below.refl _ _).drew.alloc (by simp) _)) (fun hHeld=>?_)
       clear hK K
       try go_frame
       refine rdy1 5 (fun K hK=>?_)
       go_simp
       (go_at_call 26;refine (hat.out _ ((Below.refl _ _).drew.alloc (by simp) _)).mono ?_;rintro e w2 ⟨rfl,hbq⟩)
       have hb2:Below wr.heap.size wr w2:=((Below.refl _ _).drew.alloc (by simp) _).trans (hbq.mono (by simp))
       have ho3:=(Own3.new wr.drew (.int .i64 0) (.int .i64 0) (.int .u32 0) 54).keep hbq
       simp only [World.size_drew] at ho3
       obtain ⟨d0,d1,d2,f0,f1,f2⟩:=ho3
       go_wp2_with fail
       refine hK.out _ _ (hSof.out _ hb2) (fun hHeld=>?_)
       clear hK K
       try go_frame
       refine draw_t 6 24 hHeld ?_
       refine draw_t 7 31 hHeld ?_
       refine draw_t 8 32 hHeld ?_
       refine rdy1 10 (fun K hK=>?_)
       go_simp
       refine hK.out _ _ (hSof.out _ (zb9 hb2 (by simp))) (fun hHeld=>?_)
       clear hK K
       try go_frame
       refine draw_t 11 10 hHeld ?_
       refine wpAnyH_done (by kernel_rfl) ?_ _
       go_wp2_with fail
       go_meet
       exact ⟨_,rfl,rfl,Own3.set3 ⟨d0,d1,d2,f0,f1,f2⟩ _ _ _,by simp,zb9 hb2 (by simp)⟩
    case rest =>
     obtain ⟨b,rfl,rfl,ho3,hbs,hbc⟩:=hcut
     obtain ⟨d0,d1,d2,-,-,-⟩:=ho3
     have hl0:=za0 hbc lc0
     have Hown:=qq (zb5 Hown.out hbc)
     have Hbc:=qq (Hb.out.trans (hbc.mono (by have:=Hb.out.size;simpa using this)))
     clear hSof hat x0 x1 x2 x3 x4 x5 lc0 hbc Hb
     go_wp2_with fail
     refine (hsz.out _).mono ?_
     rintro e w5 ⟨rfl,hb5⟩
     have d0:=za0 hb5 d0
     have hl0:=za0 hb5 hl0
     have Hown:=qq (zb5 Hown.out hb5)
     have Hb5:=qq (Hbc.out.trans (hb5.mono (by have:=Hbc.out.size;simpa using this)))
     clear hsz hb5 Hbc d1 d2
     go_upto_if 37 with fail
     go_cut [11] (fun t wx=>t = .int .i64 Z/\wx=w5)
     case first =>
      by_cases hK:K=0
      · subst hK
        have E:=qq (show (1:Int)=Z from by have:=Hus.out;rw [if_pos rfl] at this;exact this.symm)
        clear Hus
        go_wp2_with fail
        go_meet
        exact ⟨by rw [E.out],rfl⟩
      · have b0:(K == 0)=false:=beq_eq_false_iff_ne.2 hK
        have E:=qq (show SZ=Z from by have:=Hus.out;rw [if_neg hK] at this;exact this.symm)
        clear Hus hK
        go_wp2_with fail
        go_meet
        exact ⟨by rw [E.out],rfl⟩
     case rest =>
      obtain ⟨rfl,rfl⟩:=hcut
      clear d0
      go_wp2
      go_loopw [12] (fun v wy=>∃ z:Nat,z<=Z/\wy.ownsRow (w.heap.size+1) 4 1 (.slice (some ⟨w.heap.size+1,0,none⟩) PW PW) PW (zs8 (zr7 h i (ls.take k) x z))/\v = .int .i64 z/\Below (w.heap.size+1) (w.alloc (.cells #[.int .i64 h.pw,.int .i64 h.np,.slice p n c,.slice q m d,.int .i64 h.space,.int .i64 h.bump] 27)) wy) (fun v _=>Z - (intOf v).toNat)
      case atStart=>exact ⟨0,by omega,by rw [usedM_zero];exact Hown.out,rfl,Hb5.out⟩
      case round =>
       obtain ⟨z,hz,howny,rfl,hby⟩:=hrel
       obtain ⟨x0,-,-,-,-,-,-,-,-,-,-,-⟩:=Hx.out.keep (by simpa using hby)
       have Hwy:=qq (HB.out.trans (hby.mono (by omega)))
       obtain ⟨x',lb',lo',hx',ha',ly0⟩:=(Hlr.out _ Hwy.out).at_ hlt
       obtain rfl:x=x':=by have:=Hx0.out;rw [hx'] at this;exact (Option.some.inj this).symm
       injection ha' with ha'
       injection ha' with ha1 ha2
       subst ha1 ha2
       have Hby:=qq hby
       have Hown2:=qq howny
       clear hx' hl0 hby howny
       by_cases hzlt:z < Z
       · have hzl:(z:Int) < Z:=by omega
         obtain ⟨hx1,hx2⟩:=Hxw.out
         obtain ⟨T,hT⟩:∃ T,x - 4096+(z:Int) - IP=T:=⟨_,rfl⟩
         have e0:IntKind.i64.wrap x=x:=IntWalk.i64_in _ (by omega)
         have e1:IntKind.i64.wrap (x - 4096)=x - 4096:=IntWalk.i64_in _ (by omega)
         have e2:IntKind.i64.wrap (x - 4096+(z:Int))=x - 4096+z:=IntWalk.i64_in _ (by omega)
         have e3:IntKind.i64.wrap ((i:Int)*h.pw)=IP:=by rw [HIP.out];exact IntWalk.i64_in _ (by omega)
         have e4:IntKind.i64.wrap (x - 4096+(z:Int) - IP)=T:=by rw [hT];exact IntWalk.i64_in _ (by omega)
         have hTm:=qq (show x - 4096 - (i:Int)*h.pw+z=T from by rw [HIP.out];omega)
         have HT:=qq hT
         clear hT
         go_wp2
         go_quiet (fail)
         clear e0 e1 e2 e3 e4
         obtain ⟨w6,hw6⟩:∃ w6,Hid (wr.drewN nq=w6):=⟨_,rfl⟩
         rw [hw6.out]
         have hown6:w6.ownsRow (w.heap.size+1) 4 1 (.slice (some ⟨w.heap.size+1,0,none⟩) PW PW) PW (zs8 (zr7 h i (ls.take k) x z)):=by rw [<-hw6.out];exact yc2 Hown2.out _
         have hb6:Below (w.heap.size+1) (w.alloc (.cells #[.int .i64 h.pw,.int .i64 h.np,.slice p n c,.slice q m d,.int .i64 h.space,.int .i64 h.bump] 27)) w6:=by rw [<-hw6.out];exact below_drewN Hby.out _
         have Hb6:=qq hb6
         clear hb6 x0 ly0
         by_cases hTi:0<=T/\T < PW
         · obtain ⟨t,rfl⟩:=Int.eq_ofNat_of_zero_le hTi.1
           have htp:t < PW:=by omega
           have htl:(t:Int) < PW:=by omega
           have hcell:=hown6.cellAt t (by omega)
           have hfro:=hown6.frozenAt t
           have hset:=(hown6.stored t (.bool true)).1
           rw [bvals_set,usedM_in hTm.out (by rw [HPn.out];exact htp)] at hset
           have Hset:=qq hset
           obtain ⟨ov,hov⟩:∃ ov,(zs8 (zr7 h i (ls.take k) x z))[t]?=some ov:=⟨_,List.getElem?_eq_getElem (by rw [bvals_len,usedM_len,HPn.out];exact htp)⟩
           rw [hov] at hcell
           clear hTi hset hown6 hov
           go_wp2
           go_roundw
           case rel=>exact ⟨z+1,by omega,Hset.out,by go_num,Hb6.out.setCell (Nat.le_refl _) _⟩
           case measure=>simp [intOf];omega
         · have Hset:=qq (usedM_out (h:=h) (i:=i) (l:=ls.take k) (x:=x) (z:=z) (by rw [hTm.out,HPW.out];omega))
           have Hown6:=qq hown6
           clear hown6
           by_cases hT0:0<=T
           · have hT1:(PW:Int)<=T:=by omega
             clear hTi
             go_wp2
             go_roundw
             case rel=>exact ⟨z+1,by omega,by rw [Hset.out];exact Hown6.out,by go_num,Hb6.out⟩
             case measure=>simp [intOf];omega
           · have hT1:T < 0:=by omega
             clear hTi hT0
             go_wp2
             go_roundw
             case rel=>exact ⟨z+1,by omega,by rw [Hset.out];exact Hown6.out,by go_num,Hb6.out⟩
             case measure=>simp [intOf];omega
       · obtain rfl:z=Z:=by omega
         have hown7:=Hown2.out
         rw [Hend.out] at hown7
         have Hown7:=qq hown7
         clear hown7 ly0 x0
         go_wp2
         go_roundw
         case rel=>exact ⟨k+1,by omega,Hown7.out,by go_num,Hby.out⟩
         case measure=>simp [intOf];omega
  · obtain rfl:k=N:=by omega
    have hown:=Hown.out
    rw [List.take_of_length_le (by rw [HNl.out];exact Nat.le_refl _)] at hown
    obtain ⟨q',c',hv,hrow⟩:=VRow.of_own hown
    injection hv with hv1 hv2 hv3
    subst hv1 hv3
    have Hrow:=qq hrow
    clear hown hrow hb hx6 hv2
    go_wp2
    go_ret
    exact ⟨⟨_,_,_,rfl,Hrow.out⟩,Hwr.out⟩
end Go.Proofs.YtipjdbhocjpmdaaGreat
