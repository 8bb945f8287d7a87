import Derived.Test.YtipjdbhocjpmdaaGreatQ01
import Derived.Test.YtipjdbhocjpmdaaGreatQ04
import Derived.Test.YtipjdbhocjpmdaaGreatQ05
set_option linter.unusedSimpArgs false
set_option linter.unusedVariables false
set_option maxRecDepth 100000
set_option maxHeartbeats 12800000
namespace Go.Proofs.YtipjdbhocjpmdaaGreat
open Go.RowKit
theorem tails_step {ps:List Pg} {k:Nat} {x:Pg} {sp:Int} (h:ps[k]?=some x):zo2 sp (ps.drop k)=if x.kind=3/\x.space=sp then zo2 sp (ps.drop (k+1))+1 else 0:=by
 obtain ⟨hk,rfl⟩:=List.getElem?_eq_some_iff.1 h
 rw [List.drop_eq_getElem_cons hk,zo2]
theorem tails_end {ps:List Pg} {k:Nat} {sp:Int} (h:ps.length<=k):zo2 sp (ps.drop k)=0:=by
 rw [List.drop_eq_nil_of_le h];rfl
theorem refInUse_any (p:Option Addr) (n cap:Nat) (ps:List Pg) (w:World) (hr:PRow w p n cap ps) :
 Calls Tryz.prog 131 #[.slice p n cap] w fun e w'=>e = .returned (.int .i64 (ze6 ps))/\w=w':=by
 have hl:=hr.i63.2
 have Hr:=qq hr
 have Hlen:=qq hr.len
 clear hr
 go_enter Tryz.func131,Tryz.ntmps131
 go_wp2
 go_loop [3,4] (fun c i=>∃ k m:Nat,k<=n/\m<=k/\m=ze6 (ps.take k)/\c = .int .i64 m/\i = .int .i64 k) (fun _ i=>n - (intOf i).toNat)
 case atStart=>exact ⟨0,0,by omega,by omega,by simp [ze6],rfl,rfl⟩
 case round =>
  obtain ⟨k,m,hk,hmk,hm,rfl,rfl⟩:=hrel
  have Hm:=qq hm
  clear hm
  by_cases hlt:k < n
  · obtain ⟨x,b,off,hx,rfl,c0,c1,c2,c3⟩:=Hr.out.at_ hlt
    have hs:=inUse_take hx
    have hlt2:(k:Int) < n:=by omega
    clear hx c1 c2 c3
    by_cases h0:x.kind=0
    · rw [if_pos h0] at hs
      have Hs:=qq hs
      rw [h0] at c0
      clear hs h0
      go_wp2
      go_round
      case rel=>exact ⟨k+1,m,by omega,by omega,by rw [Hs.out,Hm.out];omega,rfl,by go_num⟩
      case measure=>simp [intOf];omega
    · rw [if_neg h0] at hs
      have Hs:=qq hs
      have hne:(x.kind != 0)=true:=bne_iff_ne.2 h0
      clear hs h0
      go_wp2
      go_round
      case rel=>exact ⟨k+1,m+1,by omega,by omega,by rw [Hs.out,Hm.out],by go_num,by go_num⟩
      case measure=>simp [intOf];omega
  · have E:Hid (ps.take k=ps):=List.take_of_length_le (by rw [Hlen.out];omega)
    go_wp2
    go_ret
    exact ⟨zj1 (by rw [Hm.out,E.out]),rfl⟩
theorem refPins_any (n:Int) (w:World) :
 Calls Tryz.prog 56 #[.int .i64 n] w fun e w'=>e = .returned (.bool (zh3 n))/\w=w':=by
 by_cases h1:0<=n
 · by_cases h2:n<=2147483647
   · have E:=qq (show zh3 n=true from decide_eq_true ⟨h1,h2⟩)
     go_enter Tryz.func56,Tryz.ntmps56
     go_wp2
     go_ret
     exact ⟨za9 E.out.symm,rfl⟩
   · have E:=qq (show zh3 n=false from decide_eq_false fun h=>h2 h.2)
     go_enter Tryz.func56,Tryz.ntmps56
     go_wp2
     go_ret
     exact ⟨za9 E.out.symm,rfl⟩
 · have E:=qq (show zh3 n=false from decide_eq_false fun h=>h1 h.1)
   go_enter Tryz.func56,Tryz.ntmps56
   go_wp2
   go_ret
   exact ⟨za9 E.out.symm,rfl⟩
theorem refTails_any (p:Option Addr) (n cap:Nat) (ps:List Pg) (i:Nat) (sp:Int) (w:World) (hr:PRow w p n cap ps) (hi:i < n) :
 Calls Tryz.prog 57 #[.slice p n cap,.int .i64 i,.int .i64 sp] w fun e w'=>e = .returned (.int .i64 (zo2 sp (ps.drop (i+1))))/\w=w':=by
 have hl:=hr.i63.2
 have Hr:=qq hr
 have Hlen:=qq hr.len
 clear hr
 have hi2:(i:Int) < n:=by omega
 go_enter Tryz.func57,Tryz.ntmps57
 go_wp2
 go_loop [7,8] (fun c k=>∃ m:Nat,i+1+m<=n/\m+zo2 sp (ps.drop (i+1+m))=zo2 sp (ps.drop (i+1))/\c = .int .i64 m/\k = .int .i64 (i+1+m:Nat)) (fun _ k=>n - (intOf k).toNat)
 case atStart=>exact ⟨0,by omega,by simp,rfl,by go_num⟩
 case round =>
  obtain ⟨m,hm,ht,rfl,rfl⟩:=hrel
  have Ht:=qq ht
  clear ht
  obtain ⟨k,hk⟩:∃ k,k=i+1+m:=⟨_,rfl⟩
  have hmk:m<=k:=by omega
  rw [<-hk] at Ht
  rw [<-hk]
  by_cases hlt:k < n
  · obtain ⟨x,b,off,hx,rfl,c0,c1,c2,c3⟩:=Hr.out.at_ hlt
    have hs:=tails_step (sp:=sp) hx
    have hlt2:(k:Int) < n:=by omega
    by_cases h3:x.kind=3
    · by_cases h4:x.space=sp
      · rw [if_pos ⟨h3,h4⟩] at hs
        have Hs:=qq hs
        rw [h3] at c0
        rw [h4] at c1
        have Hk:=qq hk
        clear hs hx c2 c3 h3 h4 hk hm
        go_wp2
        go_round
        case rel=>exact ⟨m+1,by have:=Hk.out;omega,by rw [show i+1+(m+1)=k+1 from by have:=Hk.out;omega];have:=Ht.out;have:=Hs.out;omega,by go_num,by rw [show i+1+(m+1)=k+1 from by have:=Hk.out;omega];go_num⟩
        case measure=>simp [intOf];omega
      · rw [if_neg fun h=>h4 h.2] at hs
        have Hs:=qq hs
        rw [h3] at c0
        have hne:(x.space == sp)=false:=beq_eq_false_iff_ne.2 h4
        clear hs hx c2 c3 h3 h4 hk hm
        go_wp2
        go_ret
        exact ⟨zj1 (by have:=Ht.out;have:=Hs.out;omega),rfl⟩
    · rw [if_neg fun h=>h3 h.1] at hs
      have Hs:=qq hs
      have hne:(x.kind == 3)=false:=beq_eq_false_iff_ne.2 h3
      clear hs hx c2 c3 h3 hk hm c1
      go_wp2
      go_ret
      exact ⟨zj1 (by have:=Ht.out;have:=Hs.out;omega),rfl⟩
  · have Hs:=qq (tails_end (sp:=sp) (ps:=ps) (k:=k) (by rw [Hlen.out];omega))
    clear hk hm
    go_wp2
    go_ret
    exact ⟨zj1 (by have:=Ht.out;have:=Hs.out;omega),rfl⟩
theorem proper_step {pw np:Int} {ps:List Pg} {k:Nat} {x:Pg} (h:ps[k]?=some x) (due:Int):zf0 pw np (ps.drop k) due=match zg8 pw np x (ps.drop (k+1)) due with | some d=>zf0 pw np (ps.drop (k+1)) d | none=>false:=by
 obtain ⟨hk,rfl⟩:=List.getElem?_eq_some_iff.1 h
 rw [List.drop_eq_getElem_cons hk,zf0]
 cases zg8 pw np ps[k] (ps.drop (k+1)) due <;> rfl
theorem zn0 {pw np:Int} {ps:List Pg} {k:Nat} {x:Pg} {due:Int} (h:ps[k]?=some x) (hs:zg8 pw np x (ps.drop (k+1)) due=none):zf0 pw np (ps.drop k) due=false:=by
 rw [proper_step h,hs]
theorem yc3 {pw np:Int} {ps:List Pg} {k:Nat} {x:Pg} {due d:Int} (h:ps[k]?=some x) (hs:zg8 pw np x (ps.drop (k+1)) due=some d):zf0 pw np (ps.drop k) due=zf0 pw np (ps.drop (k+1)) d:=by
 rw [proper_step h,hs]
theorem step_first {pw np:Int} {x:Pg} {r:List Pg} {due:Int} (h:¬(x.kind=3↔0 < due)\/x.space < 0\/1 < x.space\/zh3 x.pins=false):zg8 pw np x r due=none:=by unfold zg8;rw [if_pos h]
theorem step_k0 {pw np:Int} {x:Pg} {r:List Pg} {due:Int} (h:¬(¬(x.kind=3↔0 < due)\/x.space < 0\/1 < x.space\/zh3 x.pins=false)) (hk:x.kind=0):zg8 pw np x r due=if x=Pg.zero then some (max 0 (due - 1)) else none:=by unfold zg8;rw [if_neg h,if_pos hk]
theorem step_k1 {pw np:Int} {x:Pg} {r:List Pg} {due:Int} (h:¬(¬(x.kind=3↔0 < due)\/x.space < 0\/1 < x.space\/zh3 x.pins=false)) (hk:x.kind=1):zg8 pw np x r due=if x.used < 0\/pw < x.used then none else some (max 0 (due - 1)):=by unfold zg8;rw [if_neg h,if_neg (by omega),if_pos hk]
theorem step_k2 {pw np:Int} {x:Pg} {r:List Pg} {due:Int} (h:¬(¬(x.kind=3↔0 < due)\/x.space < 0\/1 < x.space\/zh3 x.pins=false)) (hk:x.kind=2):zg8 pw np x r due=if zb6 pw np x.used < 1\/(zo2 x.space r:Int) < zb6 pw np x.used - 1 then none else some (max 0 (zb6 pw np x.used - 1)):=by unfold zg8;rw [if_neg h,if_neg (by omega),if_neg (by omega),if_pos hk]
theorem step_k3 {pw np:Int} {x:Pg} {r:List Pg} {due:Int} (h:¬(¬(x.kind=3↔0 < due)\/x.space < 0\/1 < x.space\/zh3 x.pins=false)) (hk:x.kind=3):zg8 pw np x r due=if x.used=0/\x.pins=0 then some (max 0 (due - 1)) else none:=by unfold zg8;rw [if_neg h,if_neg (by omega),if_neg (by omega),if_neg (by omega),if_pos hk]
theorem step_other {pw np:Int} {x:Pg} {r:List Pg} {due:Int} (h:¬(¬(x.kind=3↔0 < due)\/x.space < 0\/1 < x.space\/zh3 x.pins=false)) (h0:¬x.kind=0) (h1:¬x.kind=1) (h2:¬x.kind=2) (h3:¬x.kind=3):zg8 pw np x r due=none:=by unfold zg8;rw [if_neg h,if_neg h0,if_neg h1,if_neg h2,if_neg h3]
theorem need_bd (pw np n:Int) : -1<=zb6 pw np n/\zb6 pw np n<=4:=by unfold zb6 zl2;split <;> (repeat (first | omega | split))
theorem zz0 {pw np:Int} {nw:Nat} {ps:List Pg} {sp b:Int} (h:zb8 pw np=false\/¬(nw:Int)=np*pw\/¬(ps.length:Int)=np\/sp < 0\/1 < sp\/zm7 ps b=false):ze8 pw np nw ps sp b=false:=by
 unfold ze8
 rcases h with h | h | h | h | h | h
 · simp [h]
 · simp [h]
 · simp [h]
 · have:decide (0<=sp/\sp<=1)=false:=decide_eq_false (by omega)
   simp [this]
 · have:decide (0<=sp/\sp<=1)=false:=decide_eq_false (by omega)
   simp [this]
 · simp [h]
theorem properB_true {pw np:Int} {nw:Nat} {ps:List Pg} {sp b:Int} (h1:zb8 pw np=true) (h2:(nw:Int)=np*pw) (h3:(ps.length:Int)=np) (h4:0<=sp) (h5:sp<=1) (h6:zm7 ps b=true):ze8 pw np nw ps sp b=zf0 pw np ps 0:=by
 unfold ze8
 simp [h1,h2,h3,h4,h5,h6]
theorem proper_conf (pw np:Int) (p q:Option Addr) (n c m d:Nat) (sp bp:Int) (w:World) (hv:zb8 pw np=false) :
 Calls Tryz.prog 15 #[.agg #[.int .i64 pw,.int .i64 np,.slice p n c,.slice q m d,.int .i64 sp,.int .i64 bp]] w fun e w'=>e = .returned (.bool (false))/\Below w.heap.size w w':=by
 have hc:=qq (fun w=>zg0 hv w)
 clear hv
 go_enter Tryz.func15,Tryz.ntmps15
 go_wp2_with fail
 refine (hc.out _).mono ?_
 rintro e w1 ⟨rfl,hb1⟩
 have c0:=za5 hb1 0 (v:=.int .i64 pw) rfl
 have c1:=za5 hb1 1 (v:=.int .i64 np) rfl
 have c2:=za5 hb1 2 (v:=.slice p n c) rfl
 have c3:=za5 hb1 3 (v:=.slice q m d) rfl
 have c4:=za5 hb1 4 (v:=.int .i64 sp) rfl
 have c5:=za5 hb1 5 (v:=.int .i64 bp) rfl
 go_wp2
 go_ret
 exact ⟨rfl,za4 hb1⟩
theorem proper_shape (pw np:Int) (p q:Option Addr) (n c m d:Nat) (sp bp:Int) (w:World) (hv:zb8 pw np=true) (h:¬(n:Int)=np*pw\/¬(m:Int)=np\/sp < 0\/1 < sp) :
 Calls Tryz.prog 15 #[.agg #[.int .i64 pw,.int .i64 np,.slice p n c,.slice q m d,.int .i64 sp,.int .i64 bp]] w fun e w'=>e = .returned (.bool (false))/\Below w.heap.size w w':=by
 have hc:=qq (fun w=>zg0 hv w)
 obtain ⟨g1,g2⟩:=zd6 hv
 obtain ⟨k1,k2,-,k4,k5⟩:=zb1 hv
 clear hv
 by_cases h1:(n:Int)=np*pw
 · have b1:((n:Int) != np*pw)=false:=by rw [h1];simp
   by_cases h2:(m:Int)=np
   · have b2:((m:Int) != np)=false:=by rw [h2];simp
     by_cases h3:sp < 0
     · clear h h1 h2
       go_enter Tryz.func15,Tryz.ntmps15
       go_wp2_with fail
       refine (hc.out _).mono ?_
       rintro e w1 ⟨rfl,hb1⟩
       have c0:=za5 hb1 0 (v:=.int .i64 pw) rfl
       have c1:=za5 hb1 1 (v:=.int .i64 np) rfl
       have c2:=za5 hb1 2 (v:=.slice p n c) rfl
       have c3:=za5 hb1 3 (v:=.slice q m d) rfl
       have c4:=za5 hb1 4 (v:=.int .i64 sp) rfl
       have c5:=za5 hb1 5 (v:=.int .i64 bp) rfl
       go_wp2
       go_ret
       exact ⟨rfl,za4 hb1⟩
     · have h4:1 < sp:=by omega
       clear h h1 h2
       go_enter Tryz.func15,Tryz.ntmps15
       go_wp2_with fail
       refine (hc.out _).mono ?_
       rintro e w1 ⟨rfl,hb1⟩
       have c0:=za5 hb1 0 (v:=.int .i64 pw) rfl
       have c1:=za5 hb1 1 (v:=.int .i64 np) rfl
       have c2:=za5 hb1 2 (v:=.slice p n c) rfl
       have c3:=za5 hb1 3 (v:=.slice q m d) rfl
       have c4:=za5 hb1 4 (v:=.int .i64 sp) rfl
       have c5:=za5 hb1 5 (v:=.int .i64 bp) rfl
       go_wp2
       go_ret
       exact ⟨rfl,za4 hb1⟩
   · have b2:((m:Int) != np)=true:=bne_iff_ne.2 h2
     clear h h1 h2
     go_enter Tryz.func15,Tryz.ntmps15
     go_wp2_with fail
     refine (hc.out _).mono ?_
     rintro e w1 ⟨rfl,hb1⟩
     have c0:=za5 hb1 0 (v:=.int .i64 pw) rfl
     have c1:=za5 hb1 1 (v:=.int .i64 np) rfl
     have c2:=za5 hb1 2 (v:=.slice p n c) rfl
     have c3:=za5 hb1 3 (v:=.slice q m d) rfl
     have c4:=za5 hb1 4 (v:=.int .i64 sp) rfl
     have c5:=za5 hb1 5 (v:=.int .i64 bp) rfl
     go_wp2
     go_ret
     exact ⟨rfl,za4 hb1⟩
 · have b1:((n:Int) != np*pw)=true:=bne_iff_ne.2 h1
   clear h h1
   go_enter Tryz.func15,Tryz.ntmps15
   go_wp2_with fail
   refine (hc.out _).mono ?_
   rintro e w1 ⟨rfl,hb1⟩
   have c0:=za5 hb1 0 (v:=.int .i64 pw) rfl
   have c1:=za5 hb1 1 (v:=.int .i64 np) rfl
   have c2:=za5 hb1 2 (v:=.slice p n c) rfl
   have c3:=za5 hb1 3 (v:=.slice q m d) rfl
   have c4:=za5 hb1 4 (v:=.int .i64 sp) rfl
   have c5:=za5 hb1 5 (v:=.int .i64 bp) rfl
   go_wp2
   go_ret
   exact ⟨rfl,za4 hb1⟩
end Go.Proofs.YtipjdbhocjpmdaaGreat
