import Derived.Test.YtipjdbhocjpmdaaGreatQ01
import Derived.Test.YtipjdbhocjpmdaaGreatQ03
import Derived.Test.YtipjdbhocjpmdaaGreatQ07
import Derived.Test.YtipjdbhocjpmdaaGreatQ09
import Derived.Test.YtipjdbhocjpmdaaGreatQ10
set_option linter.unusedSimpArgs false
set_option linter.unusedVariables false
set_option maxRecDepth 100000
set_option maxHeartbeats 12800000
namespace Go.Proofs.YtipjdbhocjpmdaaGreat
open Go.RowKit
theorem zg6 {w:World} {B B' e s n:Nat} {v:Value} {xs:List Value} (h:w.ownsRow B e s v n xs) (hb:B'<=B):w.ownsRow B' e s v n xs:=by
 refine ⟨h.1,?_⟩
 rcases h.2 with hn | ⟨g,cap,cur,rfl,hg,rest⟩
 · exact .inl hn
 · exact .inr ⟨g,cap,cur,rfl,Nat.le_trans hb hg,rest⟩
def RetO (B:Nat) (ps:List Pg) (er:Int) (e:Ending) (w':World):Prop:=∃ q m c,e = .returned (.tuple #[.slice q m c,.int .i64 er])/\w'.ownsRow B 77 4 (.slice q m c) m (zc4 ps)
theorem RetO.nil (B:Nat) (er:Int) (w:World):RetO B [] er (.returned (.tuple #[.slice none 0 0,.int .i64 er])) w:=⟨none,0,0,rfl,World.ownsRow_nil _ _ _ _⟩
theorem take_in (p:Option Addr) (n cap:Nat) (ps:List Pg) (i k:Nat) (x y:Pg) (w:World) (hr:PRow w p n cap ps) (hn:n<=100000) (hi:i < n) (hk:i+k<=n) (hk1:1<=k) :
 Calls Tryz.prog 144 #[.slice p n cap,.int .i64 i,.int .i64 k,.agg #[.int .i64 x.kind,.int .i64 x.space,.int .i64 x.used,.int .i64 x.pins],.agg #[.int .i64 y.kind,.int .i64 y.space,.int .i64 y.used,.int .i64 y.pins]] w
  fun e w'=>RetO w.heap.size (zl6 ps i k x y) (zp7 ps i k) e w'/\Below w.heap.size w w':=by
 obtain ⟨i0,hin,hz0,hz1,hz2⟩:=info_parts zr6
 have Hr:=qq hr
 have Hlen:=qq hr.len
 have hi2:(i:Int) < n:=by omega
 have hk2:(k:Int)<=n - i:=by omega
 clear hr
 obtain ⟨xk,xs,xu,xp⟩:=x
 obtain ⟨yk,ys,yu,yp⟩:=y
 have hown0:(((w.alloc (.cells #[.int .i64 xk,.int .i64 xs,.int .i64 xu,.int .i64 xp] 77)).alloc (.cells #[.int .i64 yk,.int .i64 ys,.int .i64 yu,.int .i64 yp] 77)).alloc (.cells #[] 77)).ownsRow (w.heap.size+1+1) 77 4 (.slice (some ⟨w.heap.size+1+1,0,none⟩) 0 0) 0 []:=by
  simpa using zf9 ((w.alloc (.cells #[.int .i64 xk,.int .i64 xs,.int .i64 xu,.int .i64 xp] 77)).alloc (.cells #[.int .i64 yk,.int .i64 ys,.int .i64 yu,.int .i64 yp] 77)) 77 4
 go_enter Tryz.func144,Tryz.ntmps144
 go_wp2_with (at_builtin;refine zg3 rfl _ _ 25 rfl (w.heap.size+1+1) 77 i0 _ 4 32 Tryz.underlying25 hin hz0 hz1 hz2 rfl (by decide) (.slice (some ⟨w.heap.size+1+1,0,none⟩) 0 0) 0 [] rfl hown0 p n cap (zc4 ps) rfl ?src (zr1 ps) ?c3 ?c4 ?c5 ?_)
 case src=>exact Hr.out.keep (za3 (za3 za1 za1) za1)
 case c3=>unfold maxLen;omega
 case c4=>omega
 case c5=>simp
 intro v' w2 hown hgrow
 have hb0:Below (w.heap.size+1+1) ((w.alloc (.cells #[.int .i64 xk,.int .i64 xs,.int .i64 xu,.int .i64 xp] 77)).alloc (.cells #[.int .i64 yk,.int .i64 ys,.int .i64 yu,.int .i64 yp] 77)) w2 :=
  ((Below.refl _ _).alloc (by simp) _).grown hgrow (by simp) (fun k h=>by simp [Value.ownBlock] at h;omega)
 obtain ⟨g,c,rfl,hg,hgl⟩:=World.ownsRow.form hown (by omega)
 have Hown0:=qq hown
 clear hgrow hown
 go_wp2
 go_loopw [13] (fun u wr=>∃ m:Nat,m<=k/\zh7 ps i m=true/\u = .int .i64 m/\wr.ownsRow (w.heap.size+1+1) 77 4 (.slice (some ⟨g,0,none⟩) n c) n (zc4 (put ps i m ⟨yk,ys,yu,yp⟩))/\Below (w.heap.size+1+1) ((w.alloc (.cells #[.int .i64 xk,.int .i64 xs,.int .i64 xu,.int .i64 xp] 77)).alloc (.cells #[.int .i64 yk,.int .i64 ys,.int .i64 yu,.int .i64 yp] 77)) wr) (fun u _=>k - (intOf u).toNat)
 case atStart=>exact ⟨0,by omega,zu0 _ _,rfl,by rw [put_zero];exact Hown0.out,hb0⟩
 case round =>
  obtain ⟨m,hm,hf,rfl,hown,hb⟩:=hrel
  have Hf:=qq hf
  clear hf hb0
  by_cases hlt:m < k
  · obtain ⟨J,hJ0⟩:∃ J,J=i+m:=⟨_,rfl⟩
    have hJ:(i:Int)+(m:Int)=(J:Int):=by omega
    have hJn:J < n:=by omega
    have hJi:(J:Int) < n:=by omega
    have HJ0:=qq hJ0
    obtain ⟨z,hz⟩:∃ z,ps[J]?=some z:=⟨_,List.getElem?_eq_getElem (by rw [Hlen.out];omega)⟩
    have hz':(put ps i m ⟨yk,ys,yu,yp⟩)[J]?=some z:=by rw [zq4 (by rw [Hlen.out];omega) (Or.inl (by omega))];exact hz
    obtain ⟨⟨c0,c1,c2,c3⟩,f0,f1,f2,f3⟩:=zh9 hown hz'
    have y0:wr.cell? ⟨w.heap.size+1,0,none⟩=some (.int .i64 yk):=by rw [hb.cell (by simp)];simp
    have y1:wr.cell? ⟨w.heap.size+1,1,none⟩=some (.int .i64 ys):=by rw [hb.cell (by simp)];simp
    have y2:wr.cell? ⟨w.heap.size+1,2,none⟩=some (.int .i64 yu):=by rw [hb.cell (by simp)];simp
    have y3:wr.cell? ⟨w.heap.size+1,3,none⟩=some (.int .i64 yp):=by rw [hb.cell (by simp)];simp
    by_cases h0:z.kind=0
    · have hs:=qq (yb5 hown J yk ys yu yp)
      rw [hJ0,put_succ (by rw [Hlen.out];omega),<-hJ0] at hs
      have hf2:=qq (zr5 (ps:=ps) (i:=i) (k:=m) (x:=z) (by rw [<-hJ0];exact hz))
      have H0:=qq h0
      rw [h0] at c0
      have hm1:(m:Int) < k:=by omega
      clear hz hz' hown hJ0 h0
      go_wp2
      go_roundw
      case rel=>exact ⟨m+1,by omega,by rw [hf2.out,Hf.out,H0.out];rfl,by go_num,hs.out,ya0 hb hg⟩
      case measure=>simp [intOf];omega
    · have hno:=freeB_stop (ps:=ps) (i:=i) (k:=k) (m:=m) (x:=z) (by rw [<-hJ0];exact hz) hlt h0
      obtain ⟨e1,e2⟩:=take_state (x:=⟨xk,xs,xu,xp⟩) (y:=⟨yk,ys,yu,yp⟩) (by rw [Hlen.out];exact hi) (by rw [Hlen.out];exact hk) hno
      have E1:=qq e1
      have E2:=qq e2
      have hne:(z.kind != 0)=true:=bne_iff_ne.2 h0
      have hm1:(m:Int) < k:=by omega
      clear hz hz' hown hJ0 h0 hno e1 e2
      go_wp2
      go_ret2
      rw [E1.out,E2.out]
      exact ⟨RetO.nil _ _ _,below_two hb⟩
  · obtain rfl:k=m:=by omega
    obtain ⟨e1,e2⟩:=zx6 (x:=⟨xk,xs,xu,xp⟩) (y:=⟨yk,ys,yu,yp⟩) (by rw [Hlen.out];exact hi) (by rw [Hlen.out];exact hk) Hf.out
    have E1:=qq e1
    have E2:=qq e2
    have hin2:(put ps i k ⟨yk,ys,yu,yp⟩)[i]?=some ⟨yk,ys,yu,yp⟩:=put_in (by rw [Hlen.out];exact hk) (by omega) (by omega)
    obtain ⟨⟨c0,c1,c2,c3⟩,f0,f1,f2,f3⟩:=zh9 hown hin2
    have hs:=yb5 hown i xk xs xu xp
    have Hrow:=qq (zg6 hs (show w.heap.size<=w.heap.size+1+1 by omega))
    have x0:wr.cell? ⟨w.heap.size,0,none⟩=some (.int .i64 xk):=by rw [hb.cell (by simp;omega)];simp
    have x1:wr.cell? ⟨w.heap.size,1,none⟩=some (.int .i64 xs):=by rw [hb.cell (by simp;omega)];simp
    have x2:wr.cell? ⟨w.heap.size,2,none⟩=some (.int .i64 xu):=by rw [hb.cell (by simp;omega)];simp
    have x3:wr.cell? ⟨w.heap.size,3,none⟩=some (.int .i64 xp):=by rw [hb.cell (by simp;omega)];simp
    clear e1 e2 hs hown hin2
    go_wp2
    go_ret2
    rw [E1.out,E2.out]
    exact ⟨⟨_,_,_,rfl,Hrow.out⟩,below_two (ya0 hb hg)⟩
theorem take_bad (p:Option Addr) (n cap:Nat) (i k:Int) (x y:Pg) (w:World) (hn:n<=100000) (h:i < 0\/(n:Int)<=i\/(n:Int) - i < k) :
 Calls Tryz.prog 144 #[.slice p n cap,.int .i64 i,.int .i64 k,.agg #[.int .i64 x.kind,.int .i64 x.space,.int .i64 x.used,.int .i64 x.pins],.agg #[.int .i64 y.kind,.int .i64 y.space,.int .i64 y.used,.int .i64 y.pins]] w
  fun e w'=>RetO w.heap.size [] 2 e w'/\Below w.heap.size w w':=by
 have hb:Below w.heap.size w ((w.alloc (.cells #[.int .i64 x.kind,.int .i64 x.space,.int .i64 x.used,.int .i64 x.pins] 77)).alloc (.cells #[.int .i64 y.kind,.int .i64 y.space,.int .i64 y.used,.int .i64 y.pins] 77)):=za3 za1 za1
 obtain ⟨xk,xs,xu,xp⟩:=x
 obtain ⟨yk,ys,yu,yp⟩:=y
 simp only at hb
 have Hb:=qq hb
 clear hb
 by_cases h1:i < 0
 · clear h
   go_enter Tryz.func144,Tryz.ntmps144
   go_wp2
   go_ret2
   exact ⟨RetO.nil _ _ _,Hb.out⟩
 · by_cases h2:(n:Int)<=i
   · clear h
     go_enter Tryz.func144,Tryz.ntmps144
     go_wp2
     go_ret2
     exact ⟨RetO.nil _ _ _,Hb.out⟩
   · have h3:(n:Int) - i < k:=by omega
     clear h
     go_enter Tryz.func144,Tryz.ntmps144
     go_wp2
     go_ret2
     exact ⟨RetO.nil _ _ _,Hb.out⟩
theorem refTake_any (p:Option Addr) (n cap:Nat) (ps:List Pg) (i:Int) (k:Nat) (x y:Pg) (w:World) (hr:PRow w p n cap ps) (hn:n<=100000) (hk:1<=k) :
 Calls Tryz.prog 144 #[.slice p n cap,.int .i64 i,.int .i64 k,.agg #[.int .i64 x.kind,.int .i64 x.space,.int .i64 x.used,.int .i64 x.pins],.agg #[.int .i64 y.kind,.int .i64 y.space,.int .i64 y.used,.int .i64 y.pins]] w
  fun e w'=>RetO w.heap.size (zl6 ps i k x y) (zp7 ps i k) e w'/\Below w.heap.size w w':=by
 have hl:=hr.len
 by_cases h:0<=i/\i < n/\(k:Int)<=n - i
 · obtain ⟨h1,h2,h3⟩:=h
   obtain ⟨i,rfl⟩:=Int.eq_ofNat_of_zero_le h1
   exact take_in p n cap ps i k x y w hr hn (by omega) (by omega) hk
 · obtain ⟨e1,e2⟩:=take_out (ps:=ps) (i:=i) (k:=k) (x:=x) (y:=y) (by rw [hl];exact h)
   rw [e1,e2]
   exact take_bad p n cap i k x y w hn (by omega)
theorem smallP_no {ps:List Pg} {i sp:Int} (h:¬(0<=sp/\sp<=1)):zj3 ps i sp=[]/\zk9 ps i sp=1:=by
 unfold zj3 zk9;rw [if_neg h,if_neg h];exact ⟨rfl,rfl⟩
theorem smallP_ok {ps:List Pg} {i sp:Int} (h:0<=sp/\sp<=1):zj3 ps i sp=zl6 ps i 1 ⟨1,sp,0,0⟩ Pg.zero/\zk9 ps i sp=zp7 ps i 1:=by
 unfold zj3 zk9;rw [if_pos h,if_pos h];exact ⟨rfl,rfl⟩
theorem RetO.mk {B:Nat} {xs ys:List Pg} {er er':Int} {w:World} {q:Option Addr} {m c:Nat} (h:w.ownsRow B 77 4 (.slice q m c) m (zc4 xs)) (e1:ys=xs) (e2:er'=er):RetO B ys er' (.returned (.tuple #[.slice q m c,.int .i64 er])) w:=by
 subst e1 e2;exact ⟨q,m,c,rfl,h⟩
theorem ye5 (p:Option Addr) (n cap:Nat) (ps:List Pg) (i sp:Int) (w:World) (hr:PRow w p n cap ps) (hn:n<=100000) :
 Calls Tryz.prog 133 #[.slice p n cap,.int .i64 i,.int .i64 sp] w fun e w'=>RetO w.heap.size (zj3 ps i sp) (zk9 ps i sp) e w'/\Below w.heap.size w w':=by
 by_cases h:0<=sp/\sp<=1
 · obtain ⟨e1,e2⟩:=smallP_ok (ps:=ps) (i:=i) h
   have E1:=qq e1
   have E2:=qq e2
   have hc:=qq (refTake_any p n cap ps i 1 ⟨1,sp,0,0⟩ Pg.zero w hr hn (by omega))
   obtain ⟨h1,h2⟩:=h
   clear e1 e2 hr
   go_enter Tryz.func133,Tryz.ntmps133
   go_wp2_with fail
   refine hc.out.mono ?_
   rintro e w1 ⟨⟨q,m,c,rfl,hq⟩,hb1⟩
   have Hq:=qq hq
   clear hc hq
   go_wp2
   go_ret2
   exact ⟨RetO.mk Hq.out E1.out E2.out,hb1⟩
 · obtain ⟨e1,e2⟩:=smallP_no (ps:=ps) (i:=i) h
   rw [e1,e2]
   clear e1 e2 hr
   by_cases h1:sp < 0
   · clear h
     go_enter Tryz.func133,Tryz.ntmps133
     go_wp2
     go_ret2
     exact ⟨RetO.nil _ _ _,Below.refl _ _⟩
   · have h2:1 < sp:=by omega
     clear h
     go_enter Tryz.func133,Tryz.ntmps133
     go_wp2
     go_ret2
     exact ⟨RetO.nil _ _ _,Below.refl _ _⟩
theorem largeP_no {pw np:Int} {ps:List Pg} {i sp n:Int} (h:¬(1<=zb6 pw np n/\0<=sp/\sp<=1)):zl0 pw np ps i sp n=[]/\zo4 pw np ps i sp n=1:=by
 unfold zl0 zo4;rw [if_neg h,if_neg h];exact ⟨rfl,rfl⟩
theorem largeP_ok {pw np:Int} {ps:List Pg} {i sp n:Int} (h:1<=zb6 pw np n/\0<=sp/\sp<=1):zl0 pw np ps i sp n=zl6 ps i (zb6 pw np n) ⟨2,sp,n,0⟩ ⟨3,sp,0,0⟩/\zo4 pw np ps i sp n=zp7 ps i (zb6 pw np n):=by
 unfold zl0 zo4;rw [if_pos h,if_pos h];exact ⟨rfl,rfl⟩
theorem refLargeP_any (pw np:Int) (p:Option Addr) (n cap:Nat) (ps:List Pg) (i sp words:Int) (w:World) (hr:PRow w p n cap ps) (hn:n<=100000) :
 Calls Tryz.prog 134 #[.agg #[.int .i64 pw,.int .i64 np],.slice p n cap,.int .i64 i,.int .i64 sp,.int .i64 words] w fun e w'=>RetO w.heap.size (zl0 pw np ps i sp words) (zo4 pw np ps i sp words) e w'/\Below w.heap.size w w':=by
 have hnd:=qq (fun w=>zy1 pw np words w)
 have Hr:=qq hr
 clear hr
 by_cases h:1<=zb6 pw np words/\0<=sp/\sp<=1
 · obtain ⟨e1,e2⟩:=largeP_ok (ps:=ps) (i:=i) h
   obtain ⟨h0,h1,h2⟩:=h
   obtain ⟨k,hk⟩:=Int.eq_ofNat_of_zero_le (show 0<=zb6 pw np words by omega)
   rw [hk] at e1 e2 hnd h0
   have E1:=qq e1
   have E2:=qq e2
   clear e1 e2 hk
   go_enter Tryz.func134,Tryz.ntmps134
   go_wp2_with fail
   refine (hnd.out _).mono ?_
   rintro e w0 ⟨rfl,hb0⟩
   have hw0:=za4 hb0
   clear hnd hb0
   go_wp2_with fail
   refine (refTake_any p n cap ps i k ⟨2,sp,words,0⟩ ⟨3,sp,0,0⟩ w0 (Hr.out.keep hw0) hn (by omega)).mono ?_
   rintro e w1 ⟨⟨q,m,c,rfl,hq⟩,hb1⟩
   have Hq:=qq hq
   clear hq
   go_wp2
   go_ret2
   exact ⟨RetO.mk (zg6 Hq.out hw0.size) E1.out E2.out,za3 hw0 hb1⟩
 · obtain ⟨e1,e2⟩:=largeP_no (ps:=ps) (i:=i) h
   rw [e1,e2]
   obtain ⟨K,hK⟩:∃ K,Hid (zb6 pw np words=K):=⟨_,rfl⟩
   rw [hK.out] at h hnd
   clear e1 e2 Hr
   by_cases h0:K < 1
   · clear h
     go_enter Tryz.func134,Tryz.ntmps134
     go_wp2_with fail
     refine (hnd.out _).mono ?_
     rintro e w0 ⟨rfl,hb0⟩
     go_wp2
     go_ret2
     exact ⟨RetO.nil _ _ _,za4 hb0⟩
   · by_cases h1:sp < 0
     · clear h
       go_enter Tryz.func134,Tryz.ntmps134
       go_wp2_with fail
       refine (hnd.out _).mono ?_
       rintro e w0 ⟨rfl,hb0⟩
       go_wp2
       go_ret2
       exact ⟨RetO.nil _ _ _,za4 hb0⟩
     · have h2:1 < sp:=by omega
       clear h
       go_enter Tryz.func134,Tryz.ntmps134
       go_wp2_with fail
       refine (hnd.out _).mono ?_
       rintro e w0 ⟨rfl,hb0⟩
       go_wp2
       go_ret2
       exact ⟨RetO.nil _ _ _,za4 hb0⟩
theorem ones_map {n m:Int} (h1:0<=n) (h2:n<=32):m<=ze9 n↔m < 2 ^ n.toNat:=by
 unfold ze9
 rw [show min n.toNat 64=n.toNat from by omega]
 omega
theorem map_no {n m:Int} (h1:0<=n) (h2:n<=32) (h3:ze9 n < m):zb3 1 n m=false :=
 zi4 fun h=>by have:=(ones_map h1 h2).2 (h.2.2.2.2.1 rfl).2;omega
theorem valid_rec (n m:Int) (w:World) (hm0:0<=m) (hm:m < 4294967296) :
 Calls Tryz.prog 100 #[.agg #[.int .i64 1,.int .i64 n,.int .u32 m]] w fun e w'=>e = .returned (.bool (zb3 1 n m))/\Below w.heap.size w w':=by
 by_cases h1:0<=n
 · by_cases h2:n<=32
   · by_cases h3:m<=ze9 n
     · have E:=qq (valid_mk (k:=1) (n:=n) (m:=m) ⟨by omega,by omega,h1,by omega,fun _=>⟨h2,(ones_map h1 h2).1 h3⟩,fun h=>absurd rfl h⟩)
       go_enter Tryz.func100,Tryz.ntmps100
       go_wp2
       go_quiet ((go_at_call 116;exact Calls.quiet_of_same ((zv9 _ _).mono fun e w' h=>⟨h.1,h.2.symm⟩)))
       go_wp2
       go_ret
       exact ⟨za9 E.out.symm,below_drewN za1 _⟩
     · have h3:ze9 n < m:=by omega
       have E:=qq (map_no h1 h2 h3)
       have hd:decide (m<=ze9 n)=false:=decide_eq_false (by omega)
       go_enter Tryz.func100,Tryz.ntmps100
       go_wp2
       go_quiet ((go_at_call 116;exact Calls.quiet_of_same ((zv9 _ _).mono fun e w' h=>⟨h.1,h.2.symm⟩)))
       go_wp2
       go_ret
       exact ⟨za9 E.out.symm,below_drewN za1 _⟩
   · have E:=qq (zi4 (k:=1) (n:=n) (m:=m) fun h=>h2 (h.2.2.2.2.1 rfl).1)
     have hd:decide (n<=32)=false:=decide_eq_false h2
     go_enter Tryz.func100,Tryz.ntmps100
     go_wp2
     go_quiet ((go_at_call 116;exact Calls.quiet_of_same ((zv9 _ _).mono fun e w' h=>⟨h.1,h.2.symm⟩)))
     go_wp2
     go_ret
     exact ⟨za9 E.out.symm,below_drewN za1 _⟩
 · have E:=qq (zi4 (k:=1) (n:=n) (m:=m) fun h=>h1 h.2.2.1)
   have hd:decide (0<=n)=false:=decide_eq_false h1
   go_enter Tryz.func100,Tryz.ntmps100
   go_wp2
   go_quiet ((go_at_call 116;exact Calls.quiet_of_same ((zv9 _ _).mono fun e w' h=>⟨h.1,h.2.symm⟩)))
   go_wp2
   go_ret
   exact ⟨za9 E.out.symm,below_drewN za1 _⟩
theorem valid_plain {k n m:Int} (hk:k=0\/k=2\/k=3) (h:0<=n) (h2:n<=255) (h3:m=0):zb3 k n m=true :=
 valid_mk ⟨by omega,by omega,h,h2,fun c=>by omega,fun _=>h3⟩
theorem valid_other (k n m:Int) (hk:k=0\/k=2\/k=3) (w:World) :
 Calls Tryz.prog 100 #[.agg #[.int .i64 k,.int .i64 n,.int .u32 m]] w fun e w'=>e = .returned (.bool (zb3 k n m))/\Below w.heap.size w w':=by
 by_cases h1:0<=n
 · by_cases h2:n<=255
   · by_cases h3:m=0
     · have E:=qq (valid_plain hk h1 h2 h3)
       rcases hk with rfl | rfl | rfl
       all_goals
        subst h3
        go_enter Tryz.func100,Tryz.ntmps100
        go_wp2
        go_ret
        exact ⟨za9 E.out.symm,za1⟩
     · have E:=qq (zi4 (k:=k) (n:=n) (m:=m) fun h=>h3 (h.2.2.2.2.2 (by omega)))
       have hd:(m == 0)=false:=beq_eq_false_iff_ne.2 h3
       clear h3
       rcases hk with rfl | rfl | rfl
       all_goals
        go_enter Tryz.func100,Tryz.ntmps100
        go_wp2
        go_ret
        exact ⟨za9 E.out.symm,za1⟩
   · have E:=qq (zi4 (k:=k) (n:=n) (m:=m) fun h=>h2 h.2.2.2.1)
     rcases hk with rfl | rfl | rfl
     all_goals
      go_enter Tryz.func100,Tryz.ntmps100
      go_wp2
      go_ret
      exact ⟨za9 E.out.symm,za1⟩
 · have E:=qq (zi4 (k:=k) (n:=n) (m:=m) fun h=>h1 h.2.2.1)
   rcases hk with rfl | rfl | rfl
   all_goals
    go_enter Tryz.func100,Tryz.ntmps100
    go_wp2
    go_ret
    exact ⟨za9 E.out.symm,za1⟩
theorem valid_kind (k n m:Int) (h0:¬k=0) (h1:¬k=1) (h2:¬k=2) (h3:¬k=3) (w:World) :
 Calls Tryz.prog 100 #[.agg #[.int .i64 k,.int .i64 n,.int .u32 m]] w fun e w'=>e = .returned (.bool (zb3 k n m))/\Below w.heap.size w w':=by
 have E:=qq (zi4 (k:=k) (n:=n) (m:=m) fun h=>by omega)
 have d0:(k == 0)=false:=beq_eq_false_iff_ne.2 h0
 have d1:(k == 1)=false:=beq_eq_false_iff_ne.2 h1
 have d2:(k == 2)=false:=beq_eq_false_iff_ne.2 h2
 have d3:(k == 3)=false:=beq_eq_false_iff_ne.2 h3
 clear h0 h1 h2 h3
 go_enter Tryz.func100,Tryz.ntmps100
 go_wp2
 go_ret
 exact ⟨za9 E.out.symm,za1⟩
theorem zx0 (k n m:Int) (w:World) (hm0:0<=m) (hm:m < 4294967296) :
 Calls Tryz.prog 100 #[.agg #[.int .i64 k,.int .i64 n,.int .u32 m]] w fun e w'=>e = .returned (.bool (zb3 k n m))/\Below w.heap.size w w':=by
 by_cases h1:k=1
 · subst h1;exact valid_rec n m w hm0 hm
 · by_cases h:k=0\/k=2\/k=3
   · exact valid_other k n m h w
   · exact valid_kind k n m (by omega) h1 (by omega) (by omega) w
end Go.Proofs.YtipjdbhocjpmdaaGreat
