import Derived.Test.YtipjdbhocjpmdaaGreatQ01
import Derived.Test.YtipjdbhocjpmdaaGreatQ04
import Derived.Test.YtipjdbhocjpmdaaGreatQ08
import Derived.Test.YtipjdbhocjpmdaaGreatQ11
import Derived.Test.YtipjdbhocjpmdaaGreatQ13
import Derived.Deep.RegionHeld3
import Derived.Laws.EntriesVeiled
import Derived.Maps.RangeWalk
set_option linter.unusedSimpArgs false
set_option linter.unusedVariables false
set_option maxRecDepth 100000
set_option maxHeartbeats 12800000
namespace Go.Proofs.YtipjdbhocjpmdaaGreat
open Go.RowKit
def zg7 (pw np:Int) (ps:List Pg) (i:Nat) (x:Pg):Bool :=
 if x.kind=0 then freeOK x else if x.kind=1 then zo6 pw x else if x.kind=2 then zn6 pw np ps i x else if x.kind=3 then zo0 pw np ps i x else false
def zi0 (pw np:Int) (ps:List Pg):Nat->List Pg->Bool
 | _,[]=>true
 | i,x :: r=>zg7 pw np ps i x && zi0 pw np ps (i+1) r
def zi7 (pw np:Int) (ps:List Pg):Bool:=zi0 pw np ps 0 ps
theorem table_step {pw np:Int} {ps:List Pg} {i:Nat} {x:Pg} (h:ps[i]?=some x):zi0 pw np ps i (ps.drop i)=(zg7 pw np ps i x && zi0 pw np ps (i+1) (ps.drop (i+1))):=by
 obtain ⟨hi,rfl⟩:=List.getElem?_eq_some_iff.1 h
 rw [List.drop_eq_getElem_cons hi,zi0]
theorem table_end {pw np:Int} {ps:List Pg} {i:Nat} (h:ps.length<=i):zi0 pw np ps i (ps.drop i)=true:=by
 rw [List.drop_eq_nil_of_le h,zi0]
theorem keep6 {w0 w w':World} {a b c d e:Addr} {va vb vc vd ve:Value} (h:w.cell? a=some va/\w.cell? b=some vb/\w.cell? c=some vc/\w.cell? d=some vd/\w.cell? e=some ve/\Below w0.heap.size w0 w) (hb:Below w.heap.size w w') :
 w'.cell? a=some va/\w'.cell? b=some vb/\w'.cell? c=some vc/\w'.cell? d=some vd/\w'.cell? e=some ve/\Below w0.heap.size w0 w' :=
 ⟨za0 hb h.1,za0 hb h.2.1,za0 hb h.2.2.1,za0 hb h.2.2.2.1,za0 hb h.2.2.2.2.1,za3 h.2.2.2.2.2 hb⟩
theorem tproper_any (pw np:Int) (p:Option Addr) (n cap:Nat) (ps:List Pg) (w:World) (hr:PRow w p n cap ps) (hn:n<=100000) :
 Calls Tryz.prog 54 #[.agg #[.int .i64 pw,.int .i64 np,.slice p n cap]] w fun e w'=>e = .returned (.bool (zi7 pw np ps))/\Below w.heap.size w w':=by
 have Hr:=qq (fun w' (h:Below w.heap.size w w')=>hr.keep h)
 have Hlen:=qq hr.len
 obtain ⟨R,hR⟩:∃ R,Hid (zi7 pw np ps=R):=⟨_,rfl⟩
 rw [hR.out]
 clear hr
 go_enter Tryz.func54,Tryz.ntmps54
 go_wp2
 go_loopw [10] (fun u wr=>∃ j:Nat,j<=n/\zi0 pw np ps j (ps.drop j)=R/\u = .int .i64 j/\Below (w.heap.size+1+1) ((w.alloc (.cells #[.int .i64 pw,.int .i64 np,.slice p n cap] 86)).alloc (.cells #[.func (.func 91) #[] #[],.func (.func 92) #[] #[],.func (.func 93) #[] #[],.func (.func 94) #[] #[]] 115)) wr) (fun u _=>n - (intOf u).toNat)
 case atStart=>exact ⟨0,by omega,by rw [List.drop_zero];exact hR.out,rfl,Below.refl _ _⟩
 case round =>
  obtain ⟨j,hj,hf,rfl,hb⟩:=hrel
  have Hf:=qq hf
  have hwr:=qq (zu8.trans (hb.mono (by omega)))
  have t0:wr.cell? ⟨w.heap.size,0,none⟩=some (.int .i64 pw):=by rw [hb.cell (by simp;omega)];simp
  have t1:wr.cell? ⟨w.heap.size,1,none⟩=some (.int .i64 np):=by rw [hb.cell (by simp;omega)];simp
  have t2:wr.cell? ⟨w.heap.size,2,none⟩=some (.slice p n cap):=by rw [hb.cell (by simp;omega)];simp
  have a0:wr.cell? ⟨w.heap.size+1,0,none⟩=some (.func (.func 91) #[] #[]):=by rw [hb.cell (by simp)];simp
  have a1:wr.cell? ⟨w.heap.size+1,1,none⟩=some (.func (.func 92) #[] #[]):=by rw [hb.cell (by simp)];simp
  have a2:wr.cell? ⟨w.heap.size+1,2,none⟩=some (.func (.func 93) #[] #[]):=by rw [hb.cell (by simp)];simp
  have a3:wr.cell? ⟨w.heap.size+1,3,none⟩=some (.func (.func 94) #[] #[]):=by rw [hb.cell (by simp)];simp
  clear hf
  by_cases hjn:j < n
  · have hjlt:(j:Int) < n:=by omega
    have Hrow:=qq (Hr.out wr hwr.out)
    obtain ⟨x,b1,off,hx,rfl,c0,c1,c2,c3⟩:=Hrow.out.at_ hjn
    have hst:=qq (table_step (pw:=pw) (np:=np) hx)
    rw [Hf.out] at hst
    have Hx:=qq hx
    clear hx
    by_cases h0:x.kind=0
    · have Hk:=qq h0
      rw [h0] at c0
      have hpk:=qq (show zg7 pw np ps j x=freeOK x from by unfold zg7;simp [Hk.out])
      clear h0
      obtain ⟨V,hV⟩:∃ V,Hid (freeOK x=V):=⟨_,rfl⟩
      have hcall:=qq (fun w' (h:w'.cell? ⟨wr.heap.size,0,none⟩=some (.int .i64 0)/\w'.cell? ⟨w.heap.size+1,0,none⟩=some (.func (.func 91) #[] #[])/\w'.cell? ⟨w.heap.size,0,none⟩=some (.int .i64 pw)/\w'.cell? ⟨w.heap.size,1,none⟩=some (.int .i64 np)/\w'.cell? ⟨w.heap.size,2,none⟩=some (.slice (some ⟨b1,off,none⟩) n cap)/\Below wr.heap.size wr w')=>tfree_is pw np (some ⟨b1,off,none⟩) n cap ps j x w' (Hr.out w' (za3 hwr.out h.2.2.2.2.2)) Hx.out Hk.out)
      rw [hV.out] at hcall hpk
      have hin:=qq (fun w=>zk3 (n:=0) (l:=0) (h:=3) (by omega) (by omega) w)
      have wr0:=za1 (w:=wr) (o:=.cells #[.int .i64 0,.int .i64 x.space,.int .i64 x.used,.int .i64 x.pins] 77)
      have q0:(wr.alloc (.cells #[.int .i64 0,.int .i64 x.space,.int .i64 x.used,.int .i64 x.pins] 77)).cell? ⟨wr.heap.size,0,none⟩=some (.int .i64 0):=by simp
      have k0:=za0 wr0 t0
      have k1:=za0 wr0 t1
      have k2:=za0 wr0 t2
      have ka:=za0 wr0 a0
      go_wp2_with fail
      go_region_held3 (fun w'=>w'.cell? ⟨wr.heap.size,0,none⟩=some (.int .i64 0)/\w'.cell? ⟨w.heap.size+1,0,none⟩=some (.func (.func 91) #[] #[])/\w'.cell? ⟨w.heap.size,0,none⟩=some (.int .i64 pw)/\w'.cell? ⟨w.heap.size,1,none⟩=some (.int .i64 np)/\w'.cell? ⟨w.heap.size,2,none⟩=some (.slice (some ⟨b1,off,none⟩) n cap)/\Below wr.heap.size wr w')
       (first | exact ⟨q0,ka,k0,k1,k2,wr0.drew⟩ | (exact keep6 ‹_› (Below.drew (Below.refl _ _))) | (exact keep6 ‹_› hbq))
       (first
        | (go_at_call 58;refine (hin.out _).mono ?_;rintro e w' ⟨rfl,rfl⟩)
        | (go_at_call 91;refine (hcall.out _ ‹_›).mono ?_;rintro e w' ⟨rfl,hbq⟩))
      rename_i hH
      have hB:=hH.2.2.2.2.2
      clear hH hbq q0 k0 k1 k2 ka
      cases V
      · have E:=qq (show false=R from by rw [hst.out,hpk.out,Bool.false_and])
        go_wp2
        go_ret
        exact ⟨za9 E.out,za3 hwr.out hB⟩
      · have E:=qq (show zi0 pw np ps (j+1) (ps.drop (j+1))=R from by rw [hst.out,hpk.out,Bool.true_and])
        go_wp2
        go_roundw
        case rel=>exact ⟨j+1,by omega,E.out,by go_num,hb.trans (hB.mono (by have:=hb.size;simp at this;omega))⟩
        case measure=>simp [intOf];omega
    · by_cases h1:x.kind=1
      · have Hk:=qq h1
        rw [h1] at c0
        have hpk:=qq (show zg7 pw np ps j x=zo6 pw x from by unfold zg7;simp [Hk.out])
        clear h0 h1
        obtain ⟨V,hV⟩:∃ V,Hid (zo6 pw x=V):=⟨_,rfl⟩
        have hcall:=qq (fun w' (h:w'.cell? ⟨wr.heap.size,0,none⟩=some (.int .i64 1)/\w'.cell? ⟨w.heap.size+1,1,none⟩=some (.func (.func 92) #[] #[])/\w'.cell? ⟨w.heap.size,0,none⟩=some (.int .i64 pw)/\w'.cell? ⟨w.heap.size,1,none⟩=some (.int .i64 np)/\w'.cell? ⟨w.heap.size,2,none⟩=some (.slice (some ⟨b1,off,none⟩) n cap)/\Below wr.heap.size wr w')=>tsmall_is pw np (some ⟨b1,off,none⟩) n cap ps j x w' (Hr.out w' (za3 hwr.out h.2.2.2.2.2)) Hx.out)
        rw [hV.out] at hcall hpk
        have hin:=qq (fun w=>zk3 (n:=1) (l:=0) (h:=3) (by omega) (by omega) w)
        have wr0:=za1 (w:=wr) (o:=.cells #[.int .i64 1,.int .i64 x.space,.int .i64 x.used,.int .i64 x.pins] 77)
        have q0:(wr.alloc (.cells #[.int .i64 1,.int .i64 x.space,.int .i64 x.used,.int .i64 x.pins] 77)).cell? ⟨wr.heap.size,0,none⟩=some (.int .i64 1):=by simp
        have k0:=za0 wr0 t0
        have k1:=za0 wr0 t1
        have k2:=za0 wr0 t2
        have ka:=za0 wr0 a1
        go_wp2_with fail
        go_region_held3 (fun w'=>w'.cell? ⟨wr.heap.size,0,none⟩=some (.int .i64 1)/\w'.cell? ⟨w.heap.size+1,1,none⟩=some (.func (.func 92) #[] #[])/\w'.cell? ⟨w.heap.size,0,none⟩=some (.int .i64 pw)/\w'.cell? ⟨w.heap.size,1,none⟩=some (.int .i64 np)/\w'.cell? ⟨w.heap.size,2,none⟩=some (.slice (some ⟨b1,off,none⟩) n cap)/\Below wr.heap.size wr w')
         (first | exact ⟨q0,ka,k0,k1,k2,wr0.drew⟩ | (exact keep6 ‹_› (Below.drew (Below.refl _ _))) | (exact keep6 ‹_› hbq))
         (first
          | (go_at_call 58;refine (hin.out _).mono ?_;rintro e w' ⟨rfl,rfl⟩)
          | (go_at_call 92;refine (hcall.out _ ‹_›).mono ?_;rintro e w' ⟨rfl,hbq⟩))
        rename_i hH
        have hB:=hH.2.2.2.2.2
        clear hH hbq q0 k0 k1 k2 ka
        cases V
        · have E:=qq (show false=R from by rw [hst.out,hpk.out,Bool.false_and])
          go_wp2
          go_ret
          exact ⟨za9 E.out,za3 hwr.out hB⟩
        · have E:=qq (show zi0 pw np ps (j+1) (ps.drop (j+1))=R from by rw [hst.out,hpk.out,Bool.true_and])
          go_wp2
          go_roundw
          case rel=>exact ⟨j+1,by omega,E.out,by go_num,hb.trans (hB.mono (by have:=hb.size;simp at this;omega))⟩
          case measure=>simp [intOf];omega
      · by_cases h2:x.kind=2
        · have Hk:=qq h2
          rw [h2] at c0
          have hpk:=qq (show zg7 pw np ps j x=zn6 pw np ps j x from by unfold zg7;simp [Hk.out])
          clear h0 h1 h2
          obtain ⟨V,hV⟩:∃ V,Hid (zn6 pw np ps j x=V):=⟨_,rfl⟩
          have hcall:=qq (fun w' (h:w'.cell? ⟨wr.heap.size,0,none⟩=some (.int .i64 2)/\w'.cell? ⟨w.heap.size+1,2,none⟩=some (.func (.func 93) #[] #[])/\w'.cell? ⟨w.heap.size,0,none⟩=some (.int .i64 pw)/\w'.cell? ⟨w.heap.size,1,none⟩=some (.int .i64 np)/\w'.cell? ⟨w.heap.size,2,none⟩=some (.slice (some ⟨b1,off,none⟩) n cap)/\Below wr.heap.size wr w')=>tlarge_is pw np (some ⟨b1,off,none⟩) n cap ps j x w' (Hr.out w' (za3 hwr.out h.2.2.2.2.2)) Hx.out hn)
          rw [hV.out] at hcall hpk
          have hin:=qq (fun w=>zk3 (n:=2) (l:=0) (h:=3) (by omega) (by omega) w)
          have wr0:=za1 (w:=wr) (o:=.cells #[.int .i64 2,.int .i64 x.space,.int .i64 x.used,.int .i64 x.pins] 77)
          have q0:(wr.alloc (.cells #[.int .i64 2,.int .i64 x.space,.int .i64 x.used,.int .i64 x.pins] 77)).cell? ⟨wr.heap.size,0,none⟩=some (.int .i64 2):=by simp
          have k0:=za0 wr0 t0
          have k1:=za0 wr0 t1
          have k2:=za0 wr0 t2
          have ka:=za0 wr0 a2
          go_wp2_with fail
          go_region_held3 (fun w'=>w'.cell? ⟨wr.heap.size,0,none⟩=some (.int .i64 2)/\w'.cell? ⟨w.heap.size+1,2,none⟩=some (.func (.func 93) #[] #[])/\w'.cell? ⟨w.heap.size,0,none⟩=some (.int .i64 pw)/\w'.cell? ⟨w.heap.size,1,none⟩=some (.int .i64 np)/\w'.cell? ⟨w.heap.size,2,none⟩=some (.slice (some ⟨b1,off,none⟩) n cap)/\Below wr.heap.size wr w')
           (first | exact ⟨q0,ka,k0,k1,k2,wr0.drew⟩ | (exact keep6 ‹_› (Below.drew (Below.refl _ _))) | (exact keep6 ‹_› hbq))
           (first
            | (go_at_call 58;refine (hin.out _).mono ?_;rintro e w' ⟨rfl,rfl⟩)
            | (go_at_call 93;refine (hcall.out _ ‹_›).mono ?_;rintro e w' ⟨rfl,hbq⟩))
          rename_i hH
          have hB:=hH.2.2.2.2.2
          clear hH hbq q0 k0 k1 k2 ka
          cases V
          · have E:=qq (show false=R from by rw [hst.out,hpk.out,Bool.false_and])
            go_wp2
            go_ret
            exact ⟨za9 E.out,za3 hwr.out hB⟩
          · have E:=qq (show zi0 pw np ps (j+1) (ps.drop (j+1))=R from by rw [hst.out,hpk.out,Bool.true_and])
            go_wp2
            go_roundw
            case rel=>exact ⟨j+1,by omega,E.out,by go_num,hb.trans (hB.mono (by have:=hb.size;simp at this;omega))⟩
            case measure=>simp [intOf];omega
        · by_cases h3:x.kind=3
          · have Hk:=qq h3
            rw [h3] at c0
            have hpk:=qq (show zg7 pw np ps j x=zo0 pw np ps j x from by unfold zg7;simp [Hk.out])
            clear h0 h1 h2 h3
            obtain ⟨V,hV⟩:∃ V,Hid (zo0 pw np ps j x=V):=⟨_,rfl⟩
            have hcall:=qq (fun w' (h:w'.cell? ⟨wr.heap.size,0,none⟩=some (.int .i64 3)/\w'.cell? ⟨w.heap.size+1,3,none⟩=some (.func (.func 94) #[] #[])/\w'.cell? ⟨w.heap.size,0,none⟩=some (.int .i64 pw)/\w'.cell? ⟨w.heap.size,1,none⟩=some (.int .i64 np)/\w'.cell? ⟨w.heap.size,2,none⟩=some (.slice (some ⟨b1,off,none⟩) n cap)/\Below wr.heap.size wr w')=>ttail_is pw np (some ⟨b1,off,none⟩) n cap ps j x w' (Hr.out w' (za3 hwr.out h.2.2.2.2.2)) Hx.out hn)
            rw [hV.out] at hcall hpk
            have hin:=qq (fun w=>zk3 (n:=3) (l:=0) (h:=3) (by omega) (by omega) w)
            have wr0:=za1 (w:=wr) (o:=.cells #[.int .i64 3,.int .i64 x.space,.int .i64 x.used,.int .i64 x.pins] 77)
            have q0:(wr.alloc (.cells #[.int .i64 3,.int .i64 x.space,.int .i64 x.used,.int .i64 x.pins] 77)).cell? ⟨wr.heap.size,0,none⟩=some (.int .i64 3):=by simp
            have k0:=za0 wr0 t0
            have k1:=za0 wr0 t1
            have k2:=za0 wr0 t2
            have ka:=za0 wr0 a3
            go_wp2_with fail
            go_region_held3 (fun w'=>w'.cell? ⟨wr.heap.size,0,none⟩=some (.int .i64 3)/\w'.cell? ⟨w.heap.size+1,3,none⟩=some (.func (.func 94) #[] #[])/\w'.cell? ⟨w.heap.size,0,none⟩=some (.int .i64 pw)/\w'.cell? ⟨w.heap.size,1,none⟩=some (.int .i64 np)/\w'.cell? ⟨w.heap.size,2,none⟩=some (.slice (some ⟨b1,off,none⟩) n cap)/\Below wr.heap.size wr w')
             (first | exact ⟨q0,ka,k0,k1,k2,wr0.drew⟩ | (exact keep6 ‹_› (Below.drew (Below.refl _ _))) | (exact keep6 ‹_› hbq))
             (first
              | (go_at_call 58;refine (hin.out _).mono ?_;rintro e w' ⟨rfl,rfl⟩)
              | (go_at_call 94;refine (hcall.out _ ‹_›).mono ?_;rintro e w' ⟨rfl,hbq⟩))
            rename_i hH
            have hB:=hH.2.2.2.2.2
            clear hH hbq q0 k0 k1 k2 ka
            cases V
            · have E:=qq (show false=R from by rw [hst.out,hpk.out,Bool.false_and])
              go_wp2
              go_ret
              exact ⟨za9 E.out,za3 hwr.out hB⟩
            · have E:=qq (show zi0 pw np ps (j+1) (ps.drop (j+1))=R from by rw [hst.out,hpk.out,Bool.true_and])
              go_wp2
              go_roundw
              case rel=>exact ⟨j+1,by omega,E.out,by go_num,hb.trans (hB.mono (by have:=hb.size;simp at this;omega))⟩
              case measure=>simp [intOf];omega
          · have hpk:=qq (show zg7 pw np ps j x=false from by unfold zg7;rw [if_neg h0,if_neg h1,if_neg h2,if_neg h3])
            have hinq:=qq (show ∀ w:World,Calls Tryz.prog 58 #[.int .i64 x.kind,.int .i64 0,.int .i64 3] w fun e w'=>e = .returned (.bool false)/\w'=w from fun w=>(zr4 (n:=x.kind) (l:=0) (h:=3) (by omega) w).mono fun e w' h=>⟨h.1,h.2.symm⟩)
            clear h0 h1 h2 h3
            have wr0:=za1 (w:=wr) (o:=.cells #[.int .i64 x.kind,.int .i64 x.space,.int .i64 x.used,.int .i64 x.pins] 77)
            have q0:(wr.alloc (.cells #[.int .i64 x.kind,.int .i64 x.space,.int .i64 x.used,.int .i64 x.pins] 77)).cell? ⟨wr.heap.size,0,none⟩=some (.int .i64 x.kind):=by simp
            have k0:=za0 wr0 t0
            have k1:=za0 wr0 t1
            have k2:=za0 wr0 t2
            have ka:=za0 wr0 a0
            go_wp2_with fail
            go_quiet (first | (go_at_call 58;refine Calls.quiet_of_same (hinq.out _)))
            have E:=qq (show false=R from by rw [hst.out,hpk.out,Bool.false_and])
            go_wp2
            go_ret
            exact ⟨za9 E.out,za3 hwr.out (below_drewN wr0 _)⟩
  · have E:=qq (table_end (pw:=pw) (np:=np) (ps:=ps) (i:=j) (by rw [Hlen.out];omega))
    have E2:=qq (show true=R from by rw [<-Hf.out,E.out])
    go_wp2
    go_ret
    exact ⟨za9 E2.out,hwr.out⟩
theorem keepAsk {w0 w w':World} {a b c d e:Addr} {va vb vc vd ve:Value} (h:w.cell? a=some va/\w.cell? b=some vb/\w.cell? c=some vc/\w.cell? d=some vd/\w.cell? e=some ve/\Below w0.heap.size w0 w) (hb:Below w.heap.size w w') :
 w'.cell? a=some va/\w'.cell? b=some vb/\w'.cell? c=some vc/\w'.cell? d=some vd/\w'.cell? e=some ve/\Below w0.heap.size w0 w' :=
 ⟨za0 hb h.1,za0 hb h.2.1,za0 hb h.2.2.1,za0 hb h.2.2.2.1,za0 hb h.2.2.2.2.1,za3 h.2.2.2.2.2 hb⟩
theorem refAsks_any (pw np k n m:Int) (w:World) (hm0:0<=m) (hm:m < 4294967296) :
 Calls Tryz.prog 120 #[.agg #[.int .i64 pw,.int .i64 np],.agg #[.int .i64 k,.int .i64 n,.int .u32 m]] w fun e w'=>e = .returned (.bool (asksB pw np k n m))/\Below w.heap.size w w':=by
 have hva:=qq (fun w=>zj9 k n m w hm0 hm)
 have hsz:=qq (fun w=>zn3 k n m w hm0 hm)
 have hnd:=qq (fun w=>zy1 pw np (zd8 k n m) w)
 have hA:asksB pw np k n m=(zb3 k n m && decide (¬k=0) && decide (¬zb6 pw np (zd8 k n m) = -1)):=rfl
 generalize zb3 k n m=V at hva hA
 generalize zb6 pw np (zd8 k n m)=Z at hnd hA
 generalize zd8 k n m=SZ at hsz hnd
 obtain ⟨R,hR⟩:∃ R,Hid (asksB pw np k n m=R):=⟨_,rfl⟩
 rw [hR.out] at hA ⊢
 have HA:=qq hA
 have hbx:Below w.heap.size w ((w.alloc (.cells #[.int .i64 pw,.int .i64 np] 23)).alloc (.cells #[.int .i64 k,.int .i64 n,.int .u32 m] 54)):=za3 za1 za1
 have c0:((w.alloc (.cells #[.int .i64 pw,.int .i64 np] 23)).alloc (.cells #[.int .i64 k,.int .i64 n,.int .u32 m] 54)).cell? ⟨w.heap.size,0,none⟩=some (.int .i64 pw):=za0 za1 (by simp)
 have c1:((w.alloc (.cells #[.int .i64 pw,.int .i64 np] 23)).alloc (.cells #[.int .i64 k,.int .i64 n,.int .u32 m] 54)).cell? ⟨w.heap.size,1,none⟩=some (.int .i64 np):=za0 za1 (by simp)
 obtain ⟨d0,d1,d2⟩:((w.alloc (.cells #[.int .i64 pw,.int .i64 np] 23)).alloc (.cells #[.int .i64 k,.int .i64 n,.int .u32 m] 54)).cell? ⟨w.heap.size+1,0,none⟩=some (.int .i64 k)/\((w.alloc (.cells #[.int .i64 pw,.int .i64 np] 23)).alloc (.cells #[.int .i64 k,.int .i64 n,.int .u32 m] 54)).cell? ⟨w.heap.size+1,1,none⟩=some (.int .i64 n)/\((w.alloc (.cells #[.int .i64 pw,.int .i64 np] 23)).alloc (.cells #[.int .i64 k,.int .i64 n,.int .u32 m] 54)).cell? ⟨w.heap.size+1,2,none⟩=some (.int .u32 m):=by
  obtain ⟨e0,e1,e2,-,-,-⟩:=Own3.new (w.alloc (.cells #[.int .i64 pw,.int .i64 np] 23)) (.int .i64 k) (.int .i64 n) (.int .u32 m) 54
  simp only [World.size_alloc] at e0 e1 e2
  exact ⟨e0,e1,e2⟩
 clear hA
 cases V
 · have E:=qq (show false=R from by rw [HA.out];rfl)
   clear HA
   go_enter Tryz.func120,Tryz.ntmps120
   go_wp2_with fail
   refine wp_region_held_drew (S:=fun w'=>w'.cell? ⟨w.heap.size+1,0,none⟩=some (.int .i64 k)/\w'.cell? ⟨w.heap.size+1,1,none⟩=some (.int .i64 n)/\w'.cell? ⟨w.heap.size+1,2,none⟩=some (.int .u32 m)/\w'.cell? ⟨w.heap.size,0,none⟩=some (.int .i64 pw)/\w'.cell? ⟨w.heap.size,1,none⟩=some (.int .i64 np)/\Below w.heap.size w w') (by kernel_rfl) ⟨d0,d1,d2,c0,c1,hbx.drew⟩ (fun hHeld=>?_)
   refine draw_t 0 5 hHeld ?_
   refine rdy1 1 (fun K hK=>?_)
   go_simp
   (go_at_call 102;refine (hva.out _).mono ?_;rintro e w2 ⟨rfl,hbq⟩)
   go_wp2_with fail
   refine hK.out _ _ (keepAsk hHeld hbq) (fun hHeld=>?_)
   clear hK K
   try go_frame
   refine draw_t 2 7 hHeld ?_
   refine draw_s 3 8 hHeld ?_
   refine draw_s 4 9 hHeld ?_
   refine draw_s 5 10 hHeld ?_
   refine draw_t 6 11 hHeld ?_
   refine draw_t 7 12 hHeld ?_
   refine draw_s 8 13 hHeld ?_
   refine draw_s 9 14 hHeld ?_
   refine draw_s 10 15 hHeld ?_
   refine draw_s 11 16 hHeld ?_
   refine draw_s 12 17 hHeld ?_
   refine draw_t 13 18 hHeld ?_
   refine draw_t 14 4 hHeld ?_
   refine wpAnyH_done (by kernel_rfl) ?_ _
   have hB:=hHeld.2.2.2.2.2
   clear hHeld hbq c0 c1 d0 d1 d2 hbx
   go_wp2
   go_ret
   exact ⟨za9 E.out,hB⟩
 · by_cases hk:k=0
   · have E:=qq (show false=R from by rw [HA.out,decide_eq_false (fun h=>h hk)];rfl)
     subst hk
     clear HA
     go_enter Tryz.func120,Tryz.ntmps120
     go_wp2_with fail
     refine wp_region_held_drew (S:=fun w'=>w'.cell? ⟨w.heap.size+1,0,none⟩=some (.int .i64 0)/\w'.cell? ⟨w.heap.size+1,1,none⟩=some (.int .i64 n)/\w'.cell? ⟨w.heap.size+1,2,none⟩=some (.int .u32 m)/\w'.cell? ⟨w.heap.size,0,none⟩=some (.int .i64 pw)/\w'.cell? ⟨w.heap.size,1,none⟩=some (.int .i64 np)/\Below w.heap.size w w') (by kernel_rfl) ⟨d0,d1,d2,c0,c1,hbx.drew⟩ (fun hHeld=>?_)
     refine draw_t 0 5 hHeld ?_
     refine rdy1 1 (fun K hK=>?_)
     go_simp
     (go_at_call 102;refine (hva.out _).mono ?_;rintro e w2 ⟨rfl,hbq⟩)
     go_wp2_with fail
     refine hK.out _ _ (keepAsk hHeld hbq) (fun hHeld=>?_)
     clear hK K
     try go_frame
     refine draw_t 2 7 hHeld ?_
     refine draw_t 3 8 hHeld ?_
     refine draw_t 4 9 hHeld ?_
     refine draw_t 5 10 hHeld ?_
     refine draw_t 6 11 hHeld ?_
     refine draw_t 7 12 hHeld ?_
     refine draw_s 8 13 hHeld ?_
     refine draw_s 9 14 hHeld ?_
     refine draw_s 10 15 hHeld ?_
     refine draw_s 11 16 hHeld ?_
     refine draw_s 12 17 hHeld ?_
     refine draw_t 13 18 hHeld ?_
     refine draw_t 14 4 hHeld ?_
     refine wpAnyH_done (by kernel_rfl) ?_ _
     have hB:=hHeld.2.2.2.2.2
     clear hHeld hbq c0 c1 d0 d1 d2 hbx
     go_wp2
     go_ret
     exact ⟨za9 E.out,hB⟩
   · have E:=qq (show (Z != -1)=R from by rw [HA.out,decide_eq_true hk,Bool.true_and,Bool.true_and];by_cases hz:Z = -1 <;> simp [hz])
     have b9:(k != 0)=true:=bne_iff_ne.2 hk
     clear HA hk
     go_enter Tryz.func120,Tryz.ntmps120
     go_wp2_with fail
     refine wp_region_held_drew (S:=fun w'=>w'.cell? ⟨w.heap.size+1,0,none⟩=some (.int .i64 k)/\w'.cell? ⟨w.heap.size+1,1,none⟩=some (.int .i64 n)/\w'.cell? ⟨w.heap.size+1,2,none⟩=some (.int .u32 m)/\w'.cell? ⟨w.heap.size,0,none⟩=some (.int .i64 pw)/\w'.cell? ⟨w.heap.size,1,none⟩=some (.int .i64 np)/\Below w.heap.size w w') (by kernel_rfl) ⟨d0,d1,d2,c0,c1,hbx.drew⟩ (fun hHeld=>?_)
     refine draw_t 0 5 hHeld ?_
     refine rdy1 1 (fun K hK=>?_)
     go_simp
     (go_at_call 102;refine (hva.out _).mono ?_;rintro e w2 ⟨rfl,hbq⟩)
     go_wp2_with fail
     refine hK.out _ _ (keepAsk hHeld hbq) (fun hHeld=>?_)
     clear hK K
     try go_frame
     refine draw_t 2 7 hHeld ?_
     refine draw_t 3 8 hHeld ?_
     refine draw_t 4 9 hHeld ?_
     refine draw_t 5 10 hHeld ?_
     refine draw_t 6 11 hHeld ?_
     refine draw_t 7 12 hHeld ?_
     refine draw_t 8 13 hHeld ?_
     refine draw_t 9 14 hHeld ?_
     refine rdy1 10 (fun K hK=>?_)
     go_simp
     (go_at_call 73;refine (hsz.out _).mono ?_;rintro e w3 ⟨rfl,hbq⟩)
     go_wp2_with fail
     refine hK.out _ _ (keepAsk hHeld hbq) (fun hHeld=>?_)
     clear hK K
     try go_frame
     refine rdy1 11 (fun K hK=>?_)
     go_simp
     (go_at_call 18;refine (hnd.out _).mono ?_;rintro e w4 ⟨rfl,hbq⟩)
     go_wp2_with fail
     refine hK.out _ _ (keepAsk hHeld hbq) (fun hHeld=>?_)
     clear hK K
     try go_frame
     refine draw_t 12 17 hHeld ?_
     refine draw_t 13 18 hHeld ?_
     refine draw_t 14 4 hHeld ?_
     refine wpAnyH_done (by kernel_rfl) ?_ _
     have hB:=hHeld.2.2.2.2.2
     clear hHeld c0 c1 d0 d1 d2 hbx
     go_wp2
     go_ret
     exact ⟨za9 E.out,hB⟩
end Go.Proofs.YtipjdbhocjpmdaaGreat
