import Derived.Test.YtipjdbhocjpmdaaGreatQ01
import Derived.Test.YtipjdbhocjpmdaaGreatQ02
import Derived.Test.YtipjdbhocjpmdaaGreatQ06
import Derived.Test.YtipjdbhocjpmdaaGreatQ08
import Derived.Test.YtipjdbhocjpmdaaGreatQ09
set_option linter.unusedSimpArgs false
set_option linter.unusedVariables false
set_option maxRecDepth 100000
set_option maxHeartbeats 12800000
namespace Go.Proofs.YtipjdbhocjpmdaaGreat
open Go.RowKit
def zk2 (n:Int):Bool:=decide (n=0\/n=1)
theorem ya9 {b:Bool} {n:Int} (hb:zk2 n=b) (w:World) :
 Calls Tryz.prog 52 #[.int .i64 n] w fun e w'=>e = .returned (.bool b)/\w=w':=by
 by_cases h0:n=0
 · obtain rfl:b=true:=by rw [<-hb];exact decide_eq_true (Or.inl h0)
   subst h0
   clear hb
   go_enter Tryz.func52,Tryz.ntmps52
   go_wp2
   go_ret
   exact ⟨rfl,rfl⟩
 · by_cases h1:n=1
   · obtain rfl:b=true:=by rw [<-hb];exact decide_eq_true (Or.inr h1)
     subst h1
     clear hb h0
     go_enter Tryz.func52,Tryz.ntmps52
     go_wp2
     go_ret
     exact ⟨rfl,rfl⟩
   · obtain rfl:b=false:=by rw [<-hb];exact decide_eq_false (by omega)
     have b0:(n == 0)=false:=beq_eq_false_iff_ne.2 h0
     have b1:(n == 1)=false:=beq_eq_false_iff_ne.2 h1
     clear hb h0 h1
     go_enter Tryz.func52,Tryz.ntmps52
     go_wp2
     go_ret
     exact ⟨rfl,rfl⟩
theorem isPins_is {b:Bool} {n:Int} (hb:zh3 n=b) (w:World) :
 Calls Tryz.prog 110 #[.int .i64 n] w fun e w'=>e = .returned (.bool b)/\w=w':=by
 have hc:=qq (fun w=>yd2 (n:=n) (l:=0) (h:=2147483647) (b:=b) hb w)
 clear hb
 go_enter Tryz.func110,Tryz.ntmps110
 go_wp2_with fail
 refine (hc.out _).mono ?_
 rintro e w1 ⟨rfl,rfl⟩
 go_wp2
 go_ret
 exact ⟨rfl,rfl⟩
theorem isSmall_is {b:Bool} {i:Int} (p:Option Addr) (n cap:Nat) (ps:List Pg) (w:World) (hr:PRow w p n cap ps) (hb:decide (0<=i/\i < ps.length/\(ps.getD i.toNat Pg.zero).kind=1)=b) :
 Calls Tryz.prog 53 #[.slice p n cap,.int .i64 i] w fun e w'=>e = .returned (.bool b)/\w=w':=by
 have hl:=hr.i63.2
 rw [hr.len] at hb
 by_cases h:0<=i/\i<=(n:Int) - 1
 · have hc:=qq (fun w=>zk3 h.1 h.2 w)
   obtain ⟨k,rfl⟩:∃ k:Nat,i=k:=⟨i.toNat,by omega⟩
   obtain ⟨x,b1,off,hx,rfl,c0,c1,c2,c3⟩:=hr.at_ (k:=k) (by omega)
   rw [Int.toNat_natCast,zc6 hx] at hb
   have hlt:(k:Int) < n:=by omega
   clear h hr hx c1 c2 c3
   by_cases h1:x.kind=1
   · obtain rfl:b=true:=by rw [<-hb];exact decide_eq_true ⟨by omega,hlt,h1⟩
     rw [h1] at c0
     clear hb h1
     go_enter Tryz.func53,Tryz.ntmps53
     go_wp2_with fail
     refine (hc.out _).mono ?_
     rintro e w1 ⟨rfl,rfl⟩
     go_wp2
     go_ret
     exact ⟨rfl,rfl⟩
   · obtain rfl:b=false:=by rw [<-hb];exact decide_eq_false fun h=>h1 h.2.2
     have b0:(x.kind == 1)=false:=beq_eq_false_iff_ne.2 h1
     clear hb h1
     go_enter Tryz.func53,Tryz.ntmps53
     go_wp2_with fail
     refine (hc.out _).mono ?_
     rintro e w1 ⟨rfl,rfl⟩
     go_wp2
     go_ret
     exact ⟨rfl,rfl⟩
 · have hc:=qq (fun w=>zr4 (n:=i) (l:=0) (h:=(n:Int) - 1) (by omega) w)
   obtain rfl:b=false:=by rw [<-hb];exact decide_eq_false fun h'=>h ⟨h'.1,by omega⟩
   clear hb h hr
   go_enter Tryz.func53,Tryz.ntmps53
   go_wp2_with fail
   refine (hc.out _).mono ?_
   rintro e w1 ⟨rfl,rfl⟩
   go_wp2
   go_ret
   exact ⟨rfl,rfl⟩
def freeOK (x:Pg):Bool:=decide (x.space=0/\x.used=0/\x.pins=0)
def zo6 (pw:Int) (x:Pg):Bool:=zk2 x.space && decide (0<=x.used/\x.used<=pw) && zh3 x.pins
theorem tfree_is (pw np:Int) (p:Option Addr) (n cap:Nat) (ps:List Pg) (i:Nat) (x:Pg) (w:World) (hr:PRow w p n cap ps) (hx:ps[i]?=some x) (hk:x.kind=0) :
 Calls Tryz.prog 91 #[.agg #[.int .i64 pw,.int .i64 np,.slice p n cap],.int .i64 i] w fun e w'=>e = .returned (.bool (freeOK x))/\Below w.heap.size w w':=by
 have hl:=hr.i63.2
 have hlt:(i:Int) < n:=by have:=(List.getElem?_eq_some_iff.1 hx).1;rw [hr.len] at this;omega
 obtain ⟨x',b1,off,hx',rfl,c0,c1,c2,c3⟩:=hr.at_ (k:=i) (by omega)
 obtain rfl:x=x':=by rw [hx] at hx';exact Option.some.inj hx'
 have c0:=za0 (w':=w.alloc (.cells #[.int .i64 pw,.int .i64 np,.slice (some ⟨b1,off,none⟩) n cap] 86)) za1 c0
 have c1:=za0 (w':=w.alloc (.cells #[.int .i64 pw,.int .i64 np,.slice (some ⟨b1,off,none⟩) n cap] 86)) za1 c1
 have c2:=za0 (w':=w.alloc (.cells #[.int .i64 pw,.int .i64 np,.slice (some ⟨b1,off,none⟩) n cap] 86)) za1 c2
 have c3:=za0 (w':=w.alloc (.cells #[.int .i64 pw,.int .i64 np,.slice (some ⟨b1,off,none⟩) n cap] 86)) za1 c3
 rw [hk] at c0
 clear hr hx hx' hk
 by_cases h1:x.space=0
 · by_cases h2:x.used=0
   · by_cases h3:x.pins=0
     · have E:=qq (show freeOK x=true from decide_eq_true ⟨h1,h2,h3⟩)
       rw [h1] at c1
       rw [h2] at c2
       rw [h3] at c3
       clear h1 h2 h3
       go_enter Tryz.func91,Tryz.ntmps91
       go_wp2
       go_ret
       exact ⟨za9 E.out.symm,za1⟩
     · have E:=qq (show freeOK x=false from decide_eq_false fun h=>h3 h.2.2)
       rw [h1] at c1
       rw [h2] at c2
       have b3:(x.pins == 0)=false:=beq_eq_false_iff_ne.2 h3
       clear h1 h2 h3
       go_enter Tryz.func91,Tryz.ntmps91
       go_wp2
       go_ret
       exact ⟨za9 E.out.symm,za1⟩
   · have E:=qq (show freeOK x=false from decide_eq_false fun h=>h2 h.2.1)
     rw [h1] at c1
     have b2:(x.used == 0)=false:=beq_eq_false_iff_ne.2 h2
     clear h1 h2
     go_enter Tryz.func91,Tryz.ntmps91
     go_wp2
     go_ret
     exact ⟨za9 E.out.symm,za1⟩
 · have E:=qq (show freeOK x=false from decide_eq_false fun h=>h1 h.1)
   have b1:(x.space == 0)=false:=beq_eq_false_iff_ne.2 h1
   clear h1
   go_enter Tryz.func91,Tryz.ntmps91
   go_wp2
   go_ret
   exact ⟨za9 E.out.symm,za1⟩
theorem zu8 {w:World} {o o':Obj}:Below w.heap.size w ((w.alloc o).alloc o'):=za3 za1 za1
theorem tsmall_is (pw np:Int) (p:Option Addr) (n cap:Nat) (ps:List Pg) (i:Nat) (x:Pg) (w:World) (hr:PRow w p n cap ps) (hx:ps[i]?=some x) :
 Calls Tryz.prog 92 #[.agg #[.int .i64 pw,.int .i64 np,.slice p n cap],.int .i64 i] w fun e w'=>e = .returned (.bool (zo6 pw x))/\Below w.heap.size w w':=by
 have hl:=hr.i63.2
 have hlt:(i:Int) < n:=by have:=(List.getElem?_eq_some_iff.1 hx).1;rw [hr.len] at this;omega
 obtain ⟨x',b1,off,hx',rfl,c0,c1,c2,c3⟩:=hr.at_ (k:=i) (by omega)
 obtain rfl:x=x':=by rw [hx] at hx';exact Option.some.inj hx'
 have hs:=qq (fun w=>ya9 (n:=x.space) rfl w)
 have hu:=qq (fun w=>yd2 (n:=x.used) (l:=0) (h:=pw) rfl w)
 have hp:=qq (fun w=>isPins_is (n:=x.pins) rfl w)
 obtain ⟨A,hA⟩:∃ A,Hid (zk2 x.space=A):=⟨_,rfl⟩
 obtain ⟨B,hB⟩:∃ B,Hid (decide (0<=x.used/\x.used<=pw)=B):=⟨_,rfl⟩
 obtain ⟨C,hC⟩:∃ C,Hid (zh3 x.pins=C):=⟨_,rfl⟩
 have E:=qq (show zo6 pw x=(A && B && C) from by unfold zo6;rw [hA.out,hB.out,hC.out])
 rw [hA.out] at hs
 rw [hB.out] at hu
 rw [hC.out] at hp
 clear hr hx hx' hA hB hC
 have q0:=za0 (w':=(w.alloc (.cells #[.int .i64 pw,.int .i64 np,.slice (some ⟨b1,off,none⟩) n cap] 86)).alloc (.cells #[.int .i64 0,.int .i64 0,.int .i64 0,.int .i64 0] 77)) (za3 za1 za1) c0
 have q1:=za0 (w':=(w.alloc (.cells #[.int .i64 pw,.int .i64 np,.slice (some ⟨b1,off,none⟩) n cap] 86)).alloc (.cells #[.int .i64 0,.int .i64 0,.int .i64 0,.int .i64 0] 77)) (za3 za1 za1) c1
 have q2:=za0 (w':=(w.alloc (.cells #[.int .i64 pw,.int .i64 np,.slice (some ⟨b1,off,none⟩) n cap] 86)).alloc (.cells #[.int .i64 0,.int .i64 0,.int .i64 0,.int .i64 0] 77)) (za3 za1 za1) c2
 have q3:=za0 (w':=(w.alloc (.cells #[.int .i64 pw,.int .i64 np,.slice (some ⟨b1,off,none⟩) n cap] 86)).alloc (.cells #[.int .i64 0,.int .i64 0,.int .i64 0,.int .i64 0] 77)) (za3 za1 za1) c3
 have c0:=za0 (w':=w.alloc (.cells #[.int .i64 pw,.int .i64 np,.slice (some ⟨b1,off,none⟩) n cap] 86)) za1 c0
 have c1:=za0 (w':=w.alloc (.cells #[.int .i64 pw,.int .i64 np,.slice (some ⟨b1,off,none⟩) n cap] 86)) za1 c1
 have c2:=za0 (w':=w.alloc (.cells #[.int .i64 pw,.int .i64 np,.slice (some ⟨b1,off,none⟩) n cap] 86)) za1 c2
 have c3:=za0 (w':=w.alloc (.cells #[.int .i64 pw,.int .i64 np,.slice (some ⟨b1,off,none⟩) n cap] 86)) za1 c3
 go_enter Tryz.func92,Tryz.ntmps92
 go_wp2_with fail
 refine (hs.out _).mono ?_
 rintro e w1 ⟨rfl,rfl⟩
 cases A
 · go_wp2
   go_ret
   exact ⟨za9 E.out.symm,zu8⟩
 · go_wp2_with fail
   refine (hu.out _).mono ?_
   rintro e w1 ⟨rfl,rfl⟩
   cases B
   · go_wp2
     go_ret
     exact ⟨za9 E.out.symm,zu8⟩
   · go_wp2_with fail
     refine (hp.out _).mono ?_
     rintro e w1 ⟨rfl,rfl⟩
     go_wp2
     go_ret
     exact ⟨za9 E.out.symm,zu8⟩
def zm0 (pw np:Int) (ps:List Pg):Nat->Int->Bool
 | 0,_=>false
 | m+1,b=>if (ps.getD m Pg.zero).kind=2 then decide (b < zb6 pw np (ps.getD m Pg.zero).used) else zm0 pw np ps m (b+1)
def ownedB (pw np:Int) (ps:List Pg) (i:Nat):Bool:=zm0 pw np ps i 1
theorem towned_is (pw np:Int) (p:Option Addr) (n cap:Nat) (ps:List Pg) (i:Nat) (w:World) (hr:PRow w p n cap ps) (hi:i < n) (hn:n<=100000) :
 Calls Tryz.prog 111 #[.agg #[.int .i64 pw,.int .i64 np,.slice p n cap],.int .i64 i] w fun e w'=>e = .returned (.bool (ownedB pw np ps i))/\Below w.heap.size w w':=by
 have Hr:=qq (hr.keep (w':=w.alloc (.cells #[.int .i64 pw,.int .i64 np,.slice p n cap] 86)) za1)
 have Hlen:=qq hr.len
 have hlt:(i:Int) < n:=by omega
 obtain ⟨R,hR⟩:∃ R,Hid (zm0 pw np ps i 1=R):=⟨_,rfl⟩
 rw [show ownedB pw np ps i=R from hR.out]
 clear hr
 go_enter Tryz.func111,Tryz.ntmps111
 go_wp2
 go_loopw [5] (fun b wr=>∃ m k:Nat,m+k=i+1/\1<=k/\zm0 pw np ps m k=R/\b = .int .i64 k/\Below (w.alloc (.cells #[.int .i64 pw,.int .i64 np,.slice p n cap] 86)).heap.size (w.alloc (.cells #[.int .i64 pw,.int .i64 np,.slice p n cap] 86)) wr) (fun b _=>i+1 - (intOf b).toNat)
 case atStart=>exact ⟨i,1,by omega,by omega,hR.out,rfl,Below.refl _ _⟩
 case round =>
  obtain ⟨m,k,hmk,hk,ho,rfl,hb⟩:=hrel
  have Ho:=qq ho
  have t0:=za5 hb 0 (v:=.int .i64 pw) rfl
  have t1:=za5 hb 1 (v:=.int .i64 np) rfl
  have t2:=za5 hb 2 (v:=.slice p n cap) rfl
  have hwB:=za4 hb
  clear ho
  by_cases hm:m=0
  · subst hm
    have E:=qq (show false=R from Ho.out)
    go_wp2
    go_ret
    exact ⟨za9 E.out,hwB⟩
  · obtain ⟨J,rfl⟩:∃ J,m=J+1:=⟨m - 1,by omega⟩
    have hJ:(i:Int) - (k:Int)=(J:Int):=by omega
    have hki:(k:Int)<=i:=by omega
    have hJn:(J:Int) < n:=by omega
    obtain ⟨x,b1,off,hx,rfl,c0,c1,c2,c3⟩:=(Hr.out.keep hb).at_ (k:=J) (by omega)
    have hstep:zm0 pw np ps (J+1) k=if x.kind=2 then decide ((k:Int) < zb6 pw np x.used) else zm0 pw np ps J (k+1):=by rw [zm0,zc6 hx]
    have Hst:=qq hstep
    have lwr:=zb4 t0
    simp only [] at lwr
    clear hstep hx hm
    by_cases h2:x.kind=2
    · have Hc:=qq (fun w=>need_any pw np x.used w)
      have E:=qq (show decide ((k:Int) < zb6 pw np x.used)=R from by rw [<-Ho.out,Hst.out,if_pos h2])
      rw [h2] at c0
      clear h2
      go_wp2_with fail
      refine (Hc.out _).mono ?_
      rintro e w1 ⟨rfl,hb1⟩
      go_wp2
      go_ret
      exact ⟨za9 E.out,za3 hwB (za4 hb1)⟩
    · have b2:(x.kind == 2)=false:=beq_eq_false_iff_ne.2 h2
      have E:=qq (show zm0 pw np ps J (k+1:Nat)=R from by rw [<-Ho.out,Hst.out,if_neg h2];rfl)
      clear h2
      go_wp2
      go_roundw
      case rel=>exact ⟨J,k+1,by omega,by omega,E.out,by go_num,hb.trans (za1.mono (by have:=hb.size;omega))⟩
      case measure=>simp [intOf];omega
def zo0 (pw np:Int) (ps:List Pg) (i:Nat) (x:Pg):Bool:=decide (x.used=0/\x.pins=0) && ownedB pw np ps i
theorem ttail_is (pw np:Int) (p:Option Addr) (n cap:Nat) (ps:List Pg) (i:Nat) (x:Pg) (w:World) (hr:PRow w p n cap ps) (hx:ps[i]?=some x) (hn:n<=100000) :
 Calls Tryz.prog 94 #[.agg #[.int .i64 pw,.int .i64 np,.slice p n cap],.int .i64 i] w fun e w'=>e = .returned (.bool (zo0 pw np ps i x))/\Below w.heap.size w w':=by
 have hl:=hr.i63.2
 have hin:i < n:=by have:=(List.getElem?_eq_some_iff.1 hx).1;rw [hr.len] at this;omega
 have hlt:(i:Int) < n:=by omega
 have ho:=qq (fun w (h:PRow w p n cap ps)=>towned_is pw np p n cap ps i w h hin hn)
 have Hr:=qq hr
 obtain ⟨x',b1,off,hx',rfl,c0,c1,c2,c3⟩:=hr.at_ (k:=i) hin
 obtain rfl:x=x':=by rw [hx] at hx';exact Option.some.inj hx'
 clear hr hx hx'
 have c0:=za0 (w':=w.alloc (.cells #[.int .i64 pw,.int .i64 np,.slice (some ⟨b1,off,none⟩) n cap] 86)) za1 c0
 have c1:=za0 (w':=w.alloc (.cells #[.int .i64 pw,.int .i64 np,.slice (some ⟨b1,off,none⟩) n cap] 86)) za1 c1
 have c2:=za0 (w':=w.alloc (.cells #[.int .i64 pw,.int .i64 np,.slice (some ⟨b1,off,none⟩) n cap] 86)) za1 c2
 have c3:=za0 (w':=w.alloc (.cells #[.int .i64 pw,.int .i64 np,.slice (some ⟨b1,off,none⟩) n cap] 86)) za1 c3
 by_cases h1:x.used=0
 · by_cases h2:x.pins=0
   · have E:=qq (show zo0 pw np ps i x=ownedB pw np ps i from by unfold zo0;rw [decide_eq_true (And.intro h1 h2),Bool.true_and])
     rw [E.out]
     rw [h1] at c2
     rw [h2] at c3
     clear h1 h2 E
     go_enter Tryz.func94,Tryz.ntmps94
     go_wp2_with fail
     refine (ho.out _ (Hr.out.keep zu8)).mono ?_
     rintro e w1 ⟨rfl,hb1⟩
     go_wp2
     go_ret
     exact ⟨rfl,za3 zu8 hb1⟩
   · have E:=qq (show zo0 pw np ps i x=false from by unfold zo0;rw [decide_eq_false fun h=>h2 h.2,Bool.false_and])
     rw [E.out]
     rw [h1] at c2
     have b3:(x.pins == 0)=false:=beq_eq_false_iff_ne.2 h2
     clear h1 h2 E
     go_enter Tryz.func94,Tryz.ntmps94
     go_wp2
     go_ret
     exact ⟨rfl,zu8⟩
 · have E:=qq (show zo0 pw np ps i x=false from by unfold zo0;rw [decide_eq_false fun h=>h1 h.1,Bool.false_and])
   rw [E.out]
   have b2:(x.used == 0)=false:=beq_eq_false_iff_ne.2 h1
   clear h1 E
   go_enter Tryz.func94,Tryz.ntmps94
   go_wp2
   go_ret
   exact ⟨rfl,zu8⟩
def zk7 (k:Int):List (Int × Int)->Int
 | []=>-1
 | r :: t=>if 1<=k/\k<=r.2 then r.1 else zk7 k t
theorem yd3 (ps:List Pg) (k:Int):zc7 ps k=zk7 k (runsV ps):=by
 unfold zc7
 generalize runsV ps=l
 induction l with
 | nil=>rfl
 | cons r t ih =>
  rw [List.find?_cons,zk7]
  by_cases h:1<=k/\k<=r.2
  · rw [if_pos h];simp [h]
  · rw [if_neg h]
    have:(decide (1<=k) && decide (k<=r.2))=false:=by simp;omega
    rw [this];exact ih
theorem firstFrom_at {k:Int} {l:List (Int × Int)} {i:Nat} {r:Int × Int} (h:l[i]?=some r):zk7 k (l.drop i)=if 1<=k/\k<=r.2 then r.1 else zk7 k (l.drop (i+1)):=by
 obtain ⟨hi,rfl⟩:=List.getElem?_eq_some_iff.1 h
 rw [List.drop_eq_getElem_cons hi,zk7]
theorem firstFrom_end {k:Int} {l:List (Int × Int)} {i:Nat} (h:l.length<=i):zk7 k (l.drop i) = -1:=by
 rw [List.drop_eq_nil_of_le h];rfl
theorem yb4 (p:Option Addr) (n cap:Nat) (ps:List Pg) (k:Int) (w:World) (hr:PRow w p n cap ps) (hn:n<=100000) :
 Calls Tryz.prog 132 #[.slice p n cap,.int .i64 k] w fun e w'=>e = .returned (.int .i64 (zc7 ps k))/\Below w.heap.size w w':=by
 have hc:=qq (refRuns_any p n cap ps w hr hn)
 rw [yd3]
 clear hr
 go_enter Tryz.func132,Tryz.ntmps132
 go_wp2_with fail
 refine hc.out.mono ?_
 rintro e w1 ⟨⟨q,m,c,rfl,hq⟩,hb1⟩
 have Hq:=qq hq
 have Hlen:=qq hq.len
 have hm:=hq.i63.2
 clear hc hq
 go_wp2
 go_loop [6] (fun i=>∃ j:Nat,j<=m/\zk7 k ((runsV ps).drop j)=zk7 k (runsV ps)/\i = .int .i64 j) (fun i=>m - (intOf i).toNat)
 case atStart=>exact ⟨0,by omega,rfl,rfl⟩
 case round =>
  obtain ⟨j,hj,hf,rfl⟩:=hrel
  have Hf:=qq hf
  clear hf
  by_cases hlt:j < m
  · obtain ⟨r,b,off,hx,rfl,c0,c1⟩:=Hq.out.at_ hlt
    have hs:=firstFrom_at (k:=k) hx
    have hlt2:(j:Int) < m:=by omega
    clear hx
    by_cases h1:1<=k
    · by_cases h2:k<=r.2
      · rw [if_pos ⟨h1,h2⟩] at hs
        have Hs:=qq hs
        clear hs
        go_wp2
        go_ret
        exact ⟨zj1 (by rw [<-Hf.out,Hs.out]),hb1⟩
      · rw [if_neg fun h=>h2 h.2] at hs
        have Hs:=qq hs
        clear hs
        go_wp2
        go_round
        case rel=>exact ⟨j+1,by omega,by rw [<-Hs.out,Hf.out],by go_num⟩
        case measure=>simp [intOf];omega
    · rw [if_neg fun h=>h1 h.1] at hs
      have Hs:=qq hs
      clear hs
      go_wp2
      go_round
      case rel=>exact ⟨j+1,by omega,by rw [<-Hs.out,Hf.out],by go_num⟩
      case measure=>simp [intOf];omega
  · have Hs:=qq (firstFrom_end (k:=k) (l:=runsV ps) (i:=j) (by rw [Hlen.out];omega))
    go_wp2
    go_ret
    exact ⟨zj1 (by rw [<-Hf.out,Hs.out]),hb1⟩
def RetP (B:Nat) (ps:List Pg) (er:Int) (e:Ending) (w':World):Prop:=∃ q m c,e = .returned (.tuple #[.slice q m c,.int .i64 er])/\PRow w' q m c ps/\Fresh B q
theorem RetP.nil (B:Nat) (er:Int) (w:World):RetP B [] er (.returned (.tuple #[.slice none 0 0,.int .i64 er])) w:=⟨none,0,0,rfl,PRow.nil _ _,fresh_none _⟩
theorem zr6:(Tryz.prog.info? 77).map (fun i=>(i.zero,i.size,i.bytes))=some (some (.agg #[.int .i64 0,.int .i64 0,.int .i64 0,.int .i64 0]),4,32):=by kernel_rfl
theorem take_out {ps:List Pg} {i k:Int} {x y:Pg} (h:¬(0<=i/\i < ps.length/\k<=ps.length - i)):zl6 ps i k x y=[]/\zp7 ps i k=2:=by
 unfold zl6 zp7;rw [if_neg h,if_neg h];exact ⟨rfl,rfl⟩
theorem zx6 {ps:List Pg} {i k:Nat} {x y:Pg} (h:i < ps.length) (hk:i+k<=ps.length) (hf:zh7 ps i k=true):zl6 ps i k x y=(put ps i k y).set i x/\zp7 ps i k=0:=by
 have hc:0<=(i:Int)/\(i:Int) < ps.length/\(k:Int)<=ps.length - i:=⟨by omega,by omega,by omega⟩
 unfold zl6 zp7;rw [if_pos hc,if_pos hc,Int.toNat_natCast,Int.toNat_natCast,if_pos hf,if_pos hf];exact ⟨rfl,rfl⟩
theorem take_state {ps:List Pg} {i k:Nat} {x y:Pg} (h:i < ps.length) (hk:i+k<=ps.length) (hf:zh7 ps i k=false):zl6 ps i k x y=[]/\zp7 ps i k=20:=by
 have hc:0<=(i:Int)/\(i:Int) < ps.length/\(k:Int)<=ps.length - i:=⟨by omega,by omega,by omega⟩
 have hf':¬zh7 ps i k=true:=by rw [hf];exact Bool.false_ne_true
 unfold zl6 zp7;rw [if_pos hc,if_pos hc,Int.toNat_natCast,Int.toNat_natCast,if_neg hf',if_neg hf'];exact ⟨rfl,rfl⟩
theorem freeB_stop {ps:List Pg} {i k m:Nat} {x:Pg} (hx:ps[i+m]?=some x) (hm:m < k) (h:¬x.kind=0):zh7 ps i k=false:=by
 rw [<-Bool.not_eq_true]
 intro hf
 have:=freeB_mono hf (show m+1<=k from hm)
 rw [zr5 hx] at this
 simp at this;exact h this.2
theorem zh9 {w:World} {base g n cap:Nat} {e:TypeId} {qs:List Pg} {j:Nat} {x:Pg} (h:w.ownsRow base e 4 (.slice (some ⟨g,0,none⟩) n cap) n (zc4 qs)) (hx:qs[j]?=some x) :
 (w.cell? ⟨g,j*4,none⟩=some (.int .i64 x.kind)/\w.cell? ⟨g,j*4+1,none⟩=some (.int .i64 x.space)/\w.cell? ⟨g,j*4+2,none⟩=some (.int .i64 x.used)/\w.cell? ⟨g,j*4+3,none⟩=some (.int .i64 x.pins)) /\
 w.frozen? ⟨g,j*4,none⟩=false/\w.frozen? ⟨g,j*4+1,none⟩=false/\w.frozen? ⟨g,j*4+2,none⟩=false/\w.frozen? ⟨g,j*4+3,none⟩=false:=by
 have hl:qs.length=n:=by have:=h.1;rw [zr0] at this;omega
 have hj:j < n:=by rw [<-hl];exact (List.getElem?_eq_some_iff.1 hx).1
 obtain ⟨h0,h1,h2,h3⟩:=zp4 qs j x hx
 exact ⟨⟨by rw [h.cellAt _ (by omega)];exact h0,by rw [h.cellAt _ (by omega)];exact h1,by rw [h.cellAt _ (by omega)];exact h2,by rw [h.cellAt _ (by omega)];exact h3⟩,h.frozenAt _,h.frozenAt _,h.frozenAt _,h.frozenAt _⟩
theorem yb5 {w:World} {base g n cap:Nat} {e:TypeId} {qs:List Pg} (h:w.ownsRow base e 4 (.slice (some ⟨g,0,none⟩) n cap) n (zc4 qs)) (j:Nat) (a b c d:Int) :
 ((((w.setCell ⟨g,j*4,none⟩ (.int .i64 a)).setCell ⟨g,j*4+1,none⟩ (.int .i64 b)).setCell ⟨g,j*4+2,none⟩ (.int .i64 c)).setCell ⟨g,j*4+3,none⟩ (.int .i64 d)).ownsRow base e 4 (.slice (some ⟨g,0,none⟩) n cap) n (zc4 (qs.set j ⟨a,b,c,d⟩)):=by
 rw [<-zy6 qs j ⟨a,b,c,d⟩]
 exact ((((h.stored _ _).1.stored _ _).1.stored _ _).1.stored _ _).1
theorem ya0 {B:Nat} {w w1:World} {g j:Nat} {a b c d:Value} (h:Below B w w1) (hb:B<=g):Below B w ((((w1.setCell ⟨g,j*4,none⟩ a).setCell ⟨g,j*4+1,none⟩ b).setCell ⟨g,j*4+2,none⟩ c).setCell ⟨g,j*4+3,none⟩ d) :=
 (((h.setCell hb a).setCell hb b).setCell hb c).setCell hb d
theorem zf9 (w:World) (e:TypeId) (s:Nat):(w.alloc (.cells #[] e)).ownsRow w.heap.size e s (.slice (some ⟨w.heap.size,0,none⟩) 0 0) 0 [] :=
 ⟨by simp,.inr ⟨w.heap.size,0,#[],rfl,Nat.le_refl _,heap_alloc_new w _,Nat.le_refl _,Nat.zero_le _,by simp,by simp⟩⟩
theorem below_two {w wr:World} {o o':Obj} (hb:Below (w.heap.size+1+1) ((w.alloc o).alloc o') wr):Below w.heap.size w wr :=
 zh1 (by have:=zh1 (w:=w.alloc o) (wr:=wr) (o:=o') (by simpa using hb);simpa using this)
theorem locate_ok0 (p:Option Addr) (len cap n:Nat) (a:Int) (w:World) (hl:(len:Int)<=9223372036854775807) (h1:4096<=a) (h2:a - 4096+n<=len) :
 Calls Tryz.prog 117 #[.slice p len cap,.int .u64 a,.int .i64 n] w fun e w'=>e = .returned (.tuple #[.int .i64 (a - 4096),.int .i64 0])/\w=w':=by
 go_enter Tryz.func117,Tryz.ntmps117
 go_wp2
 go_ret2
 exact ⟨rfl,rfl⟩
theorem locate_ok (p:Option Addr) (len cap i n:Nat) (w:World) (hl:(len:Int)<=9223372036854775807) (h:i+n<=len) :
 Calls Tryz.prog 117 #[.slice p len cap,.int .u64 (4096+(i:Int)),.int .i64 n] w fun e w'=>e = .returned (.tuple #[.int .i64 i,.int .i64 0])/\w=w':=by
 have:=locate_ok0 p len cap n (4096+(i:Int)) w hl (by omega) (by omega)
 rw [show (4096+(i:Int)) - 4096=(i:Int) from by omega] at this
 exact this
theorem locate_no (p:Option Addr) (len cap:Nat) (a:Int) (n:Nat) (w:World) (hl:(len:Int)<=9223372036854775807) (hn:(n:Int)<=9223372036854775807) (ha:0<=a) (ha2:a < 18446744073709551616) (h:a < 4096\/len < a - 4096+n) :
 Calls Tryz.prog 117 #[.slice p len cap,.int .u64 a,.int .i64 n] w fun e w'=>e = .returned (.tuple #[.int .i64 0,.int .i64 2])/\w=w':=by
 by_cases h1:a < 4096
 · go_enter Tryz.func117,Tryz.ntmps117
   go_wp2
   go_ret2
   exact ⟨rfl,rfl⟩
 · by_cases h2:(len:Int) < a - 4096
   · clear h
     go_enter Tryz.func117,Tryz.ntmps117
     go_wp2
     go_ret2
     exact ⟨rfl,rfl⟩
   · have h3:(len:Int) - (a - 4096) < n:=by omega
     clear h
     go_enter Tryz.func117,Tryz.ntmps117
     go_wp2
     go_ret2
     exact ⟨rfl,rfl⟩
theorem index_any (p:Option Addr) (len cap:Nat) (a:Int) (w:World) (hl:(len:Int)<=9223372036854775807) (ha:0<=a) (ha2:a < 18446744073709551616) :
 Calls Tryz.prog 113 #[.slice p len cap,.int .u64 a] w fun e w'=>e = .returned (.tuple #[.int .i64 (indexV len a),.int .i64 (indexE len a)])/\w=w':=by
 rcases zn1 len a 1 with ⟨i,rfl,hi,hk⟩ | ⟨hk,hi⟩
 · have hc:=qq (locate_ok p len cap i 1 w hl hi)
   obtain ⟨e1,e2⟩:=index_ok hk
   have E1:=qq e1;have E2:=qq e2
   clear e1 e2 hi hk
   go_enter Tryz.func113,Tryz.ntmps113
   go_wp2_with fail
   refine hc.out.mono ?_
   rintro e w' ⟨rfl,rfl⟩
   go_wp2
   go_ret2
   exact ⟨zp3 E1.out.symm E2.out.symm,rfl⟩
 · have hc:=qq (locate_no p len cap a 1 w hl (by omega) ha ha2 hi)
   obtain ⟨e1,e2⟩:=index_no hk
   have E1:=qq e1;have E2:=qq e2
   clear e1 e2 hi hk
   go_enter Tryz.func113,Tryz.ntmps113
   go_wp2_with fail
   refine hc.out.mono ?_
   rintro e w' ⟨rfl,rfl⟩
   go_wp2
   go_ret2
   exact ⟨zp3 E1.out.symm E2.out.symm,rfl⟩
theorem load_any (p:Option Addr) (n cap:Nat) (xs:List Int) (a:Int) (w:World) (hr:SRow w .u64 p n cap xs) (ha:0<=a) (ha2:a < 18446744073709551616) :
 Calls Tryz.prog 98 #[.slice p n cap,.int .u64 a] w fun e w'=>e = .returned (.tuple #[.int .u64 (ze1 xs a),.int .i64 (loadE xs a)])/\w=w':=by
 have hl:=hr.i63.2
 have hc:=qq (index_any p n cap a w hl ha ha2)
 have hn:=qq hr.len
 rcases zn1 n a 1 with ⟨i,rfl,hi,hk⟩ | ⟨hk,hi⟩
 · obtain ⟨x,b,off,hx,rfl,hcell⟩:=hr.at_ (k:=i) (by omega)
   obtain ⟨e1,e2⟩:=load_ok' (by rw [hn.out];exact hk) hx
   obtain ⟨e3,e4⟩:=index_ok hk
   rw [e3,e4] at hc
   have E1:=qq e1;have E2:=qq e2
   clear e1 e2 e3 e4 hk hx hr
   go_enter Tryz.func98,Tryz.ntmps98
   go_wp2_with fail
   refine hc.out.mono ?_
   rintro e w' ⟨rfl,rfl⟩
   clear hc
   go_wp2
   go_ret2
   exact ⟨zp3 E1.out.symm E2.out.symm,rfl⟩
 · obtain ⟨e1,e2⟩:=load_no' (xs:=xs) (a:=a) (by rw [hn.out];exact hk)
   obtain ⟨e3,e4⟩:=index_no hk
   rw [e3,e4] at hc
   have E1:=qq e1;have E2:=qq e2
   clear e1 e2 e3 e4 hk hr hi
   go_enter Tryz.func98,Tryz.ntmps98
   go_wp2_with fail
   refine hc.out.mono ?_
   rintro e w' ⟨rfl,rfl⟩
   clear hc
   go_wp2
   go_ret2
   exact ⟨zp3 E1.out.symm E2.out.symm,rfl⟩
theorem dup_any (p:Option Addr) (n cap:Nat) (xs:List Int) (w:World) (hr:SRow w .u64 p n cap xs) (hn:n<=100000) :
 Calls Tryz.prog 118 #[.slice p n cap] w fun e w'=>DupRet 48 xs n w e w':=by
 obtain ⟨i0,hi,hz0,hz1,hz2⟩:=info_parts zf2
 have hl:=qq hr.len
 have hr1:=qq hr
 clear hr
 go_enter Tryz.func118,Tryz.ntmps118
 go_wp2_with (at_make;refine wpList_make_full _ rfl _ _ 24 rfl w.heap.size 48 i0 (.int .u64 0) 1 Tryz.underlying24 hi hz0 hz1 .i64 .i64 n n n rfl rfl rfl rfl ?c1 ?c2 ?c3 ?_)
 case c1=>rw [hz2];omega
 case c2=>unfold maxLen;omega
 case c3=>exact Nat.le_refl _
 intro w2 hown hg
 rw [zw4] at hown
 have hb:Below w.heap.size w w2:=(Below.refl _ _).grown hg (Nat.le_refl _) (fun k h=>by cases h)
 have hblk:=qq (Blk.of_own hown).2
 have hr2:=qq (hr1.out.keep hb)
 clear hown hg hr1
 go_wp2_with ((with_reducible show wpList _ _ _ _ _ _);refine wpList_copy_splice (o:=⟨some 9,_,_,_,_,_⟩) rfl _ _ _ _ rfl 48 Tryz.underlying24 sizeU64 (some ⟨w.heap.size,0,none⟩) p n n n cap rfl rfl w.heap.size 0 (zb2 .u64 (List.replicate n 0)) 48 hblk.out (zb2 .u64 xs) ?c4 (fun hpos=>⟨rfl,hr2.out.row.src hpos⟩) ?c5 (zq9 _ _) w.heap.size w hb (Nat.le_refl _) ?_)
 case c4=>rw [zh2,hl.out];exact (Nat.min_self n).symm
 case c5=>rw [zh2,zh2,List.length_replicate,hl.out];omega
 intro w3 hg3 hb3
 rw [ivals_splice,splice_all _ _ (by rw [List.length_replicate,hl.out])] at hg3
 go_wp2
 go_ret
 exact ⟨_,rfl,Nat.le_refl _,hg3.out,hb3⟩
theorem cut_dst {g n i m:Nat} (h:i+m<=n) (hm:0 < m):cutP (some ⟨g,0,none⟩) n i=some ⟨g,i,none⟩:=by
 rw [cutP_some (by omega),Nat.zero_add]
theorem min_le' {a b:Nat} (h:a<=b):a=Nat.min a b:=(Nat.min_eq_left h).symm
theorem write_any (p q:Option Addr) (n cap m c:Nat) (xs l:List Int) (a:Int) (w:World) (hr:SRow w .u64 p n cap xs) (hs:SRow w .u64 q m c l) (hn:n<=100000) (ha:0<=a) (ha2:a < 18446744073709551616) :
 Calls Tryz.prog 104 #[.slice p n cap,.int .u64 a,.slice q m c] w fun e w'=>RetS (zc8 xs a l) (zh4 xs a l) e w'/\Below w.heap.size w w':=by
 have hl:=hr.i63
 have hl2:=hs.i63.2
 have hlen:=qq hr.len
 have hlen2:=qq hs.len
 rcases zn1 n a m with ⟨i,rfl,hi,hk⟩ | ⟨hk,hi⟩
 · obtain ⟨e1,e2⟩:=write_ok (xs:=xs) (l:=l) (i:=i) (by rw [hlen.out,hlen2.out];exact hk)
   have E1:=qq e1;have E2:=qq e2
   have hc:=qq (locate_ok p n cap i m w hl.2 hi)
   have hd:=qq (dup_any p n cap xs w hr hn)
   have hs1:=qq hs
   clear e1 e2 hk hr hs
   go_enter Tryz.func104,Tryz.ntmps104
   go_wp2_with fail
   refine hc.out.mono ?_
   rintro e w' ⟨rfl,rfl⟩
   clear hc
   go_wp2_with fail
   refine hd.out.mono ?_
   rintro e w1 ⟨g,rfl,hg,hblk,hb⟩
   have Hblk:=qq hblk
   have hs2:=qq (hs1.out.keep hb)
   clear hd hs1 hblk
   go_wp2_with ((with_reducible show wpList _ _ _ _ _ _);first
    | (refine wpList_cutFrom (o:=⟨some 26,_,_,_,_,_⟩) rfl _ _ _ rfl 48 Tryz.underlying24 sizeU64 (some ⟨g,0,none⟩) n n rfl .i64 i rfl i rfl (by omega) ?_)
    | (refine wpList_copy_splice (o:=⟨some 28,_,_,_,_,_⟩) rfl _ _ _ _ rfl 48 Tryz.underlying24 sizeU64 (cutP (some ⟨g,0,none⟩) n i) q (n - i) (n - i) m c rfl rfl g i (zb2 .u64 xs) 48 Hblk.out (zb2 .u64 l) ?c4 (fun hpos=>⟨?c6,hs2.out.row.src hpos⟩) ?c5 (zq9 _ _) w.heap.size w hb hg ?_))
   case c4=>rw [zh2,hlen2.out];exact min_le' (by omega)
   case c5=>rw [zh2,zh2,hlen.out,hlen2.out];exact hi
   case c6=>rw [zh2,hlen2.out] at hpos;exact cut_dst hi hpos
   intro w3 hg3 hb3
   rw [ivals_splice] at hg3
   have hres:=qq (Blk.srow (n:=n) hg3.out (by rw [zo7 (by rw [hlen.out,hlen2.out];exact hi)];exact hlen.out) (by unfold maxLen;omega))
   clear hg3
   go_wp2
   go_ret2
   exact ⟨RetS.mk hres.out E1.out E2.out,hb3⟩
 · obtain ⟨e1,e2⟩:=write_no (xs:=xs) (l:=l) (a:=a) (by rw [hlen.out,hlen2.out];exact hk)
   have E1:=qq e1;have E2:=qq e2
   have hc:=qq (locate_no p n cap a m w hl.2 hl2 ha ha2 hi)
   clear e1 e2 hr hs hi hk
   go_enter Tryz.func104,Tryz.ntmps104
   go_wp2_with fail
   refine hc.out.mono ?_
   rintro e w' ⟨rfl,rfl⟩
   clear hc
   go_wp2
   go_ret2
   exact ⟨RetS.no E1.out E2.out,Below.refl _ _⟩
def RetSF (B:Nat) (xs:List Int) (er:Int) (e:Ending) (w':World):Prop:=∃ q m c,e = .returned (.tuple #[.slice q m c,.int .i64 er])/\SRow w' .u64 q m c xs/\(xs≠[]->∀ ad,q=some ad->B<=ad.block)
theorem RetSF.mk {B:Nat} {xs ys:List Int} {er er':Int} {w:World} {q:Option Addr} {m c:Nat} (h:SRow w .u64 q m c xs) (e1:ys=xs) (e2:er'=er) (hf:xs≠[]->∀ ad,q=some ad->B<=ad.block):RetSF B ys er' (.returned (.tuple #[.slice q m c,.int .i64 er])) w:=by
 subst e1 e2;exact ⟨q,m,c,rfl,h,hf⟩
theorem RetSF.no {B:Nat} {ys:List Int} {er er':Int} {w:World} (e1:ys=[]) (e2:er'=er):RetSF B ys er' (.returned (.tuple #[.slice none 0 0,.int .i64 er])) w:=by
 subst e1 e2;exact ⟨none,0,0,rfl,SRow.nil _ _ _,fun h=>absurd rfl h⟩
theorem ya8 (p q:Option Addr) (n cap m c:Nat) (xs l:List Int) (a:Int) (w:World) (hr:SRow w .u64 p n cap xs) (hs:SRow w .u64 q m c l) (hn:n<=100000) (hm:m<=100000) (ha:0<=a) (ha2:a < 18446744073709551616) :
 Calls Tryz.prog 81 #[.slice p n cap,.int .u64 a,.slice q m c] w fun e w'=>RetSF w.heap.size (zc8 xs a l) (zh4 xs a l) e w'/\Below w.heap.size w w':=by
 obtain ⟨i0,hi0,hz0,hz1,hz2⟩:=info_parts zf2
 have hlen:=qq hr.len
 have hlen2:=qq hs.len
 rcases zn1 n a m with ⟨i,rfl,hi,hk⟩ | ⟨hk,hi⟩
 · obtain ⟨e1,e2⟩:=write_ok (xs:=xs) (l:=l) (i:=i) (by rw [hlen.out,hlen2.out];exact hk)
   have E1:=qq e1;have E2:=qq e2
   have hc:=qq (span_ok p n cap i m w (by omega) hi)
   have hb0:Below w.heap.size w (w.alloc (.cells #[] 48)):=(Below.refl _ _).alloc (Nat.le_refl _) _
   have hr0:=qq (hr.keep hb0)
   have hs0:=qq hs
   have Hb0:=qq hb0
   have hle:=hr.le
   clear e1 e2 hk hr hs hb0
   go_enter Tryz.func81,Tryz.ntmps81
   go_wp2_with fail
   refine hc.out.mono ?_
   rintro e w' ⟨rfl,rfl⟩
   clear hc
   go_wp2_with ((with_reducible show wpList _ _ _ _ _ _);refine zd7 (o:=⟨some 24,_,_,_,_,_⟩) rfl _ _ _ rfl w.heap.size 48 i0 (.int .u64 0) 8 Tryz.underlying24 hi0 hz0 hz1 hz2 rfl _ 0 [] rfl (lit_row w _ _ (Nat.le_refl _)) p n cap .u64 _ rfl hr0.out ?c3 ?c4 ?c5 ?_)
   case c3=>unfold maxLen;omega
   case c4=>omega
   case c5=>simp
   intro v' w2 hown hg
   try simp only [List.nil_append,Nat.zero_add] at hown
   have hb2:Below w.heap.size w w2:=Hb0.out.grown hg (by simp) (fun j hj=>by simp [Value.ownBlock] at hj;omega)
   obtain ⟨q',cap',rfl,hq'⟩:=own_form hown
   have Hq:=qq hq'
   have Hown:=qq hown
   clear hown hg hr0 Hb0 hq'
   go_wp2_with fail
   go_loopw [11] (fun i' wr=>∃ k:Nat,k<=m/\i' = .int .i64 k/\wr.ownsRow w.heap.size 48 1 (.slice q' n cap') n (zb2 .u64 (wrow xs l i k))/\Below w.heap.size w wr) (fun i' _=>m - (intOf i').toNat)
   case atStart=>exact ⟨0,by omega,rfl,by rw [wrow_zero];exact Hown.out,hb2⟩
   case round =>
    obtain ⟨k,hk,rfl,hown,hb⟩:=hrel
    have Ho:=qq hown
    clear hown hb2
    by_cases hlt:k < m
    · obtain ⟨g,rfl,hg⟩:=Hq.out (by omega)
      obtain ⟨x,b,off,hx,rfl,hc0⟩:=hs0.out.at_ hlt
      have c1:=za0 hb hc0
      have hu:(zb2 .u64 (wrow xs l i k))[i+k]?=some (.int .u64 ((wrow xs l i k)[i+k]'(by rw [wrow_len (by rw [hlen.out,hlen2.out];exact hi),hlen.out];omega))):=yb1 (List.getElem?_eq_getElem _)
      have hst:=Ho.out.cellAt (i+k) (by omega)
      rw [hu] at hst
      have hfz:wr.frozen? ⟨g,i+k,none⟩=false:=Ho.out.frozenAt (i+k)
      have hset:=qq (own_set Ho.out (i+k) x)
      rw [wrow_set (by rw [hlen.out,hlen2.out];exact hi) hx] at hset
      have h3:(i:Int)+k < n:=by omega
      have h4:((i:Int)+k).toNat=i+k:=by omega
      clear hu hx hc0
      go_wp2
      go_roundw
      case rel=>exact ⟨k+1,by omega,by go_num,hset.out,hb.setCell hg _⟩
      case measure=>simp [intOf];omega
    · have hrow:=Ho.out
      rw [wrow_end (by rw [hlen2.out];omega)] at hrow
      obtain ⟨q2,c2,hv,hrow⟩:=SRow.of_own hrow
      injection hv with hv1 hv2 hv3
      subst hv1 hv3
      have hrow:=qq hrow
      clear hv2
      go_wp2
      go_ret2
      exact ⟨RetSF.mk hrow.out E1.out E2.out (fun hne ad e=>by
       have h9:0 < n:=by
        have h8:=hrow.out.len
        have h7:=List.length_pos_iff.2 hne
        omega
       obtain ⟨g,h5,h6⟩:=Hq.out h9
       rw [h5] at e;injection e with e;rw [<-e];exact h6),hb⟩
 · obtain ⟨e1,e2⟩:=write_no (xs:=xs) (l:=l) (a:=a) (by rw [hlen.out,hlen2.out];exact hk)
   have E1:=qq e1;have E2:=qq e2
   have hc:=qq (span_no p n cap a m w (by omega) (by omega) ha ha2 hi)
   clear e1 e2 hr hs hi hk
   go_enter Tryz.func81,Tryz.ntmps81
   go_wp2_with fail
   refine hc.out.mono ?_
   rintro e w' ⟨_,rfl,rfl⟩
   clear hc
   go_wp2
   go_ret2
   exact ⟨RetSF.no E1.out E2.out,Below.refl _ _⟩
theorem refStore_f (p:Option Addr) (n cap:Nat) (xs:List Int) (a v:Int) (w:World) (hr:SRow w .u64 p n cap xs) (hn:n<=100000) (ha:0<=a) (ha2:a < 18446744073709551616) :
 Calls Tryz.prog 78 #[.slice p n cap,.int .u64 a,.int .u64 v] w fun e w'=>RetSF w.heap.size (zc8 xs a [v]) (zh4 xs a [v]) e w'/\Below w.heap.size w w':=by
 have hb0:Below w.heap.size w (w.alloc (.cells #[.int .u64 v] 48)):=(Below.refl _ _).alloc (Nat.le_refl _) _
 have hc:=qq (ya8 p (some ⟨w.heap.size,0,none⟩) n cap 1 1 xs [v] a _ (hr.keep hb0) (zl7 w 48 v) hn (by omega) ha ha2)
 clear hr hb0
 go_enter Tryz.func78,Tryz.ntmps78
 go_wp2_with fail
 refine hc.out.mono ?_
 rintro e w' ⟨⟨q,m,c,rfl,hq,hf⟩,hb⟩
 have hq:=qq hq
 have hf:=qq hf
 clear hc
 go_wp2
 go_ret2
 exact ⟨⟨q,m,c,rfl,hq.out,fun hne ad e=>by have:=hf.out hne ad e;simp at this;omega⟩,za3 ((Below.refl _ _).alloc (Nat.le_refl _) _) hb⟩
end Go.Proofs.YtipjdbhocjpmdaaGreat
