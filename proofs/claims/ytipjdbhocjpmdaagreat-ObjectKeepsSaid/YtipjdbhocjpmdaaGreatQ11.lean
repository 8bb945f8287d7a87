import Derived.Test.YtipjdbhocjpmdaaGreatQ01
import Derived.Test.YtipjdbhocjpmdaaGreatQ05
import Derived.Test.YtipjdbhocjpmdaaGreatQ10
set_option linter.unusedSimpArgs false
set_option linter.unusedVariables false
set_option maxRecDepth 100000
set_option maxHeartbeats 12800000
namespace Go.Proofs.YtipjdbhocjpmdaaGreat
open Go.RowKit
theorem pvals_drop:∀ (l:Nat) (ps:List Pg),(zc4 ps).drop (l*4)=zc4 (ps.drop l)
 | 0,ps=>by simp
 | l+1,[]=>by simp [zc4]
 | l+1,x :: r=>by
  rw [List.drop_succ_cons,<-pvals_drop l r,show (l+1)*4=4+l*4 from by omega,<-List.drop_drop];rfl
theorem pvals_take:∀ (m:Nat) (ps:List Pg),(zc4 ps).take (m*4)=zc4 (ps.take m)
 | 0,ps=>by simp [zc4]
 | m+1,[]=>by simp [zc4]
 | m+1,x :: r=>by
  have h:(x.vals ++ zc4 r).take (4+m*4)=x.vals ++ (zc4 r).take (m*4):=by
   rw [List.take_append,show x.vals.length=4 from rfl,show 4+m*4 - 4=m*4 from by omega,List.take_of_length_le (by simp [Pg.vals])]
  rw [List.take_succ_cons,show (m+1)*4=4+m*4 from by omega]
  exact h.trans (by rw [pvals_take m r];rfl)
theorem PRow.cut {w:World} {p:Option Addr} {n cap:Nat} {ps:List Pg} (h:PRow w p n cap ps) {l m:Nat} (hl:l+m<=n):PRow w (cutS 4 p cap l) m (cap - l) ((ps.drop l).take m):=by
 have:=VRow.cut h hl
 rw [pvals_drop,pvals_take] at this
 exact this
theorem needV_le (pw np n:Int):zb6 pw np n<=4:=by
 unfold zb6 zl2
 repeat' split
 all_goals omega
theorem sizePage:(Tryz.prog.info? 77).map (·.size)=some 4:=by kernel_rfl
def zn6 (pw np:Int) (ps:List Pg) (i:Nat) (x:Pg):Bool :=
 zk2 x.space && decide (1<=zb6 pw np x.used) && zh3 x.pins && decide ((i:Int)+zb6 pw np x.used<=ps.length) && zl1 x.space ((ps.drop (i+1)).take ((zb6 pw np x.used).toNat - 1))
theorem tlarge_is (pw np:Int) (p:Option Addr) (n cap:Nat) (ps:List Pg) (i:Nat) (x:Pg) (w:World) (hr:PRow w p n cap ps) (hx:ps[i]?=some x) (hn:n<=100000) :
 Calls Tryz.prog 93 #[.agg #[.int .i64 pw,.int .i64 np,.slice p n cap],.int .i64 i] w fun e w'=>e = .returned (.bool (zn6 pw np ps i x))/\Below w.heap.size w w':=by
 have hl:=hr.i63.2
 have hlc:=hr.le
 have hi:i < n:=by have:=(List.getElem?_eq_some_iff.1 hx).1;rw [hr.len] at this;omega
 have hlt:(i:Int) < n:=by omega
 have Hr:=qq hr
 have Hlen:=qq hr.len
 obtain ⟨x',b1,off,hx',rfl,c0,c1,c2,c3⟩:=hr.at_ (k:=i) hi
 obtain rfl:x=x':=by rw [hx] at hx';exact Option.some.inj hx'
 have hs:=qq (fun w=>ya9 (n:=x.space) rfl w)
 have hp:=qq (fun w=>isPins_is (n:=x.pins) rfl w)
 have hk:=qq (fun w=>need_any pw np x.used w)
 have hk4:=needV_le pw np x.used
 obtain ⟨K,hK⟩:∃ K,Hid (zb6 pw np x.used=K):=⟨_,rfl⟩
 obtain ⟨A,hA⟩:∃ A,Hid (zk2 x.space=A):=⟨_,rfl⟩
 obtain ⟨C,hC⟩:∃ C,Hid (zh3 x.pins=C):=⟨_,rfl⟩
 obtain ⟨B,hB⟩:∃ B,Hid (decide (1<=K)=B):=⟨_,rfl⟩
 obtain ⟨D,hD⟩:∃ D,Hid (decide ((i:Int)+K<=n)=D):=⟨_,rfl⟩
 obtain ⟨R,hR⟩:∃ R,Hid (zl1 x.space ((ps.drop (i+1)).take (K.toNat - 1))=R):=⟨_,rfl⟩
 have E:=qq (show zn6 pw np ps i x=(A && B && C && D && R) from by unfold zn6;rw [hA.out,hK.out,hC.out,hB.out,Hlen.out,hD.out,hR.out])
 rw [hA.out] at hs
 rw [hC.out] at hp
 rw [hK.out] at hk hk4
 rw [E.out]
 clear E hr hx hx' hA hK hC
 have c0:=za0 (w':=w.alloc (.cells #[.int .i64 pw,.int .i64 np,.slice (some ⟨b1,off,none⟩) n cap] 86)) za1 c0
 have c1:=za0 (w':=w.alloc (.cells #[.int .i64 pw,.int .i64 np,.slice (some ⟨b1,off,none⟩) n cap] 86)) za1 c1
 have c2:=za0 (w':=w.alloc (.cells #[.int .i64 pw,.int .i64 np,.slice (some ⟨b1,off,none⟩) n cap] 86)) za1 c2
 have c3:=za0 (w':=w.alloc (.cells #[.int .i64 pw,.int .i64 np,.slice (some ⟨b1,off,none⟩) n cap] 86)) za1 c3
 go_enter Tryz.func93,Tryz.ntmps93
 go_wp2_with fail
 refine (hk.out _).mono ?_
 rintro e w1 ⟨rfl,hb1⟩
 have t0:w1.cell? ⟨w.heap.size,0,none⟩=some (.int .i64 pw):=by rw [hb1.cell (by simp;omega)];simp
 have t1:w1.cell? ⟨w.heap.size,1,none⟩=some (.int .i64 np):=by rw [hb1.cell (by simp;omega)];simp
 have t2:w1.cell? ⟨w.heap.size,2,none⟩=some (.slice (some ⟨b1,off,none⟩) n cap):=by rw [hb1.cell (by simp;omega)];simp
 have p1:w1.cell? ⟨w.heap.size+1,1,none⟩=some (.int .i64 x.space):=by rw [hb1.cell (by simp)];simp
 have p3:w1.cell? ⟨w.heap.size+1,3,none⟩=some (.int .i64 x.pins):=by rw [hb1.cell (by simp)];simp
 have hwB:=za3 zu8 hb1
 have Hr:=qq (Hr.out.keep hwB)
 have HwB:=qq hwB
 clear hb1 hwB c0 c1 c2 c3 hk
 go_wp2_with fail
 refine (hs.out _).mono ?_
 rintro e w2 ⟨rfl,rfl⟩
 cases A
 · go_wp2
   go_ret
   exact ⟨rfl,HwB.out⟩
 · cases B
   · have h1:K < 1:=by have:=of_decide_eq_false hB.out;omega
     go_wp2
     go_ret
     exact ⟨rfl,HwB.out⟩
   · have h1:1<=K:=of_decide_eq_true hB.out
     go_wp2_with fail
     refine (hp.out _).mono ?_
     rintro e w2 ⟨rfl,rfl⟩
     cases C
     · go_wp2
       go_ret
       exact ⟨rfl,HwB.out⟩
     · cases D
       · have h2:(n:Int) < i+K:=by have:=of_decide_eq_false hD.out;omega
         go_wp2
         go_ret
         exact ⟨rfl,HwB.out⟩
       · have h2:(i:Int)+K<=n:=of_decide_eq_true hD.out
         obtain ⟨m,hm⟩:∃ m:Nat,K.toNat - 1=m:=⟨_,rfl⟩
         have hKm:K=(m:Int)+1:=by omega
         have hcut:=qq (Hr.out.cut (l:=i+1) (m:=m) (by omega))
         obtain ⟨ts,hts⟩:∃ ts,Hid ((ps.drop (i+1)).take m=ts):=⟨_,rfl⟩
         rw [hm,hts.out] at hR
         rw [hts.out] at hcut
         obtain ⟨ca,hca⟩:∃ ca,Hid (cutS 4 (some ⟨b1,off,none⟩) cap (i+1)=ca):=⟨_,rfl⟩
         rw [hca.out] at hcut
         have hm100:(m:Int)<=100000:=by omega
         clear hm
         go_wp2_with ((with_reducible show wpList _ _ _ _ _ _);refine yd9 (o:=⟨some 49,_,_,_,_,_⟩) rfl _ _ _ _ rfl 77 Tryz.underlying25 4 sizePage (some ⟨b1,off,none⟩) n cap rfl .i64 .i64 _ _ rfl rfl (i+1) m ?c1 ?c2 ?c3 ?_)
         any_goals omega
         rw [hca.out]
         have hlts:=qq hcut.out.len
         go_wp2
         go_loopw [51] (fun u wr=>∃ j:Nat,j<=m/\zl1 x.space (ts.drop j)=R/\u = .int .i64 j/\Below w1.heap.size w1 wr) (fun u _=>m - (intOf u).toNat)
         case atStart=>exact ⟨0,by omega,by rw [List.drop_zero];exact hR.out,rfl,Below.refl _ _⟩
         case round =>
          obtain ⟨j,hj,hf,rfl,hb⟩:=hrel
          have Hf:=qq hf
          have p1:=za0 hb p1
          have hwr:=qq (za3 HwB.out hb)
          clear hf
          by_cases hjm:j < m
          · obtain ⟨y,b2,off2,hy,rfl,d0,d1,d2,d3⟩:=(hcut.out.keep hb).at_ hjm
            have hjlt:(j:Int) < m:=by omega
            have hst:zl1 x.space (ts.drop j)=(decide (y.kind=3/\y.space=x.space) && zl1 x.space (ts.drop (j+1))):=by
             obtain ⟨hjl,rfl⟩:=List.getElem?_eq_some_iff.1 hy
             rw [List.drop_eq_getElem_cons hjl];rfl
            have Hst:=qq hst
            clear hst hca hts Hr Hlen
            by_cases h3:y.kind=3
            · by_cases h4:y.space=x.space
              · have E2:=qq (show zl1 x.space (ts.drop (j+1))=R from by rw [<-Hf.out,Hst.out,decide_eq_true (And.intro h3 h4),Bool.true_and])
                rw [h3] at d0
                rw [h4] at d1
                have p1:=za0 (w':=wr.alloc (.cells #[.int .i64 3,.int .i64 x.space,.int .i64 y.used,.int .i64 y.pins] 77)) za1 p1
                clear h3 h4 hy
                go_wp2
                go_roundw
                case rel=>exact ⟨j+1,by omega,E2.out,by go_num,hb.trans (za1.mono hb.size)⟩
                case measure=>simp [intOf];omega
              · have E2:=qq (show false=R from by rw [<-Hf.out,Hst.out,decide_eq_false fun h=>h4 h.2,Bool.false_and])
                rw [h3] at d0
                have b4:(y.space == x.space)=false:=beq_eq_false_iff_ne.2 h4
                have p1:=za0 (w':=wr.alloc (.cells #[.int .i64 3,.int .i64 y.space,.int .i64 y.used,.int .i64 y.pins] 77)) za1 p1
                clear h3 h4 hy
                go_wp2
                go_ret
                exact ⟨za9 E2.out,za3 hwr.out za1⟩
            · have E2:=qq (show false=R from by rw [<-Hf.out,Hst.out,decide_eq_false fun h=>h3 h.1,Bool.false_and])
              have b4:(y.kind != 3)=true:=bne_iff_ne.2 h3
              clear h3 hy
              go_wp2
              go_ret
              exact ⟨za9 E2.out,za3 hwr.out za1⟩
          · have E2:=qq (show true=R from by rw [<-Hf.out,List.drop_eq_nil_of_le (by rw [hlts.out];omega)];rfl)
            go_wp2
            go_ret
            exact ⟨za9 E2.out,hwr.out⟩
end Go.Proofs.YtipjdbhocjpmdaaGreat
