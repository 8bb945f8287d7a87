import Derived.Test.YtipjdbhocjpmdaaGreatQ01
import Derived.Test.YtipjdbhocjpmdaaGreatQ06
set_option linter.unusedSimpArgs false
set_option linter.unusedVariables false
set_option maxRecDepth 100000
set_option maxHeartbeats 12800000
namespace Go.Proofs.YtipjdbhocjpmdaaGreat
open Go.RowKit
theorem bump_cases (ps:List Pg) (b:Int):b = -1\/(¬b = -1/\b < 0)\/(0<=b/\(ps.length:Int)<=b)\/(∃ k:Nat,∃ x,b=k/\ps[k]?=some x):=by
 by_cases h1:b = -1
 · exact Or.inl h1
 · by_cases h2:b < 0
   · exact Or.inr (Or.inl ⟨h1,h2⟩)
   · by_cases h3:(ps.length:Int)<=b
     · exact Or.inr (Or.inr (Or.inl ⟨by omega,h3⟩))
     · exact Or.inr (Or.inr (Or.inr ⟨b.toNat,_,by omega,List.getElem?_eq_getElem (by omega)⟩))
theorem bumpB_at {ps:List Pg} {k:Nat} {x:Pg} (h:ps[k]?=some x):zm7 ps k=decide (x.kind=1):=by
 have hk:=(List.getElem?_eq_some_iff.1 h).1
 unfold zm7
 rw [Int.toNat_natCast,zc6 h]
 apply decide_eq_decide.2
 constructor
 · rintro (h | h);omega;exact h.2.2
 · intro h;exact Or.inr ⟨by omega,by omega,h⟩
theorem proper_bump (pw np:Int) (p q:Option Addr) (n c m d:Nat) (sp bp:Int) (ps:List Pg) (w:World) (hv:zb8 pw np=true) (h1:(n:Int)=np*pw) (h2:(m:Int)=np) (h3:0<=sp) (h4:sp<=1) (hr:PRow w q m d ps) (hbp:zm7 ps bp=false) :
 Calls Tryz.prog 15 #[.agg #[.int .i64 pw,.int .i64 np,.slice p n c,.slice q m d,.int .i64 sp,.int .i64 bp]] w fun e w'=>e = .returned (.bool (false))/\Below w.heap.size w w':=by
 have hc:=qq (fun w=>zg0 hv w)
 obtain ⟨g1,g2⟩:=zd6 hv
 obtain ⟨k1,k2,-,k4,k5⟩:=zb1 hv
 have b1:((n:Int) != np*pw)=false:=by rw [h1];simp
 have b2:((m:Int) != np)=false:=by rw [h2];simp
 have hm64:m<=64:=by omega
 have Hr:=qq hr
 have Hlen:=qq hr.len
 clear hv h1 h2 hr
 rcases bump_cases ps bp with h | ⟨h,h0⟩ | ⟨h0,h⟩ | ⟨k,x,rfl,hx⟩
 · exfalso;rw [h] at hbp;unfold zm7 at hbp;simp at hbp
 · have b5:(bp != -1)=true:=bne_iff_ne.2 h
   clear h hbp
   go_enter Tryz.func15,Tryz.ntmps15
   go_wp2_with fail
   refine (hc.out _).mono ?_
   rintro e w1 ⟨rfl,hb1⟩
   have c0:=za5 hb1 0 (v:=.int .i64 pw) rfl
   have c1:=za5 hb1 1 (v:=.int .i64 np) rfl
   have c2:=za5 hb1 2 (v:=.slice p n c) rfl
   have c3:=za5 hb1 3 (v:=.slice q m d) rfl
   have c4:=za5 hb1 4 (v:=.int .i64 sp) rfl
   have c5:=za5 hb1 5 (v:=.int .i64 bp) rfl
   go_wp2
   go_ret
   exact ⟨rfl,za4 hb1⟩
 · have b5:(bp != -1)=true:=bne_iff_ne.2 (by omega)
   rw [Hlen.out] at h
   clear hbp
   go_enter Tryz.func15,Tryz.ntmps15
   go_wp2_with fail
   refine (hc.out _).mono ?_
   rintro e w1 ⟨rfl,hb1⟩
   have c0:=za5 hb1 0 (v:=.int .i64 pw) rfl
   have c1:=za5 hb1 1 (v:=.int .i64 np) rfl
   have c2:=za5 hb1 2 (v:=.slice p n c) rfl
   have c3:=za5 hb1 3 (v:=.slice q m d) rfl
   have c4:=za5 hb1 4 (v:=.int .i64 sp) rfl
   have c5:=za5 hb1 5 (v:=.int .i64 bp) rfl
   go_wp2
   go_ret
   exact ⟨rfl,za4 hb1⟩
 · rw [bumpB_at hx] at hbp
   have hkm:k < m:=by have:=(List.getElem?_eq_some_iff.1 hx).1;rw [Hlen.out] at this;exact this
   obtain ⟨x',b,off,hx',rfl,z0,-,-,-⟩:=Hr.out.at_ hkm
   obtain rfl:x=x':=by rw [hx] at hx';exact Option.some.inj hx'
   have lb:b < w.heap.size:=zb4 z0
   have b5:((k:Int) != -1)=true:=bne_iff_ne.2 (by omega)
   have b6:(x.kind != 1)=true:=bne_iff_ne.2 (of_decide_eq_false hbp)
   have hki:(k:Int) < m:=by omega
   clear hbp hx hx'
   go_enter Tryz.func15,Tryz.ntmps15
   go_wp2_with fail
   refine (hc.out _).mono ?_
   rintro e w1 ⟨rfl,hb1⟩
   have c0:=za5 hb1 0 (v:=.int .i64 pw) rfl
   have c1:=za5 hb1 1 (v:=.int .i64 np) rfl
   have c2:=za5 hb1 2 (v:=.slice p n c) rfl
   have c3:=za5 hb1 3 (v:=.slice (some ⟨b,off,none⟩) m d) rfl
   have c4:=za5 hb1 4 (v:=.int .i64 sp) rfl
   have c5:=za5 hb1 5 (v:=.int .i64 k) rfl
   have z0':=za0 (za4 hb1) z0
   clear z0
   go_wp2
   go_ret
   exact ⟨rfl,za4 hb1⟩
end Go.Proofs.YtipjdbhocjpmdaaGreat
