import Derived.Test.YtipjdbhocjpmdaaGreatQ01
import Derived.Test.YtipjdbhocjpmdaaGreatQ32
import Derived.Test.YtipjdbhocjpmdaaGreatQ35
import Derived.Test.YtipjdbhocjpmdaaGreatQ36
set_option linter.unusedSimpArgs false
set_option linter.unusedVariables false
set_option maxRecDepth 100000
set_option maxHeartbeats 12800000
namespace Go.Proofs.YtipjdbhocjpmdaaGreat
open Go.RowKit
theorem decode_bad (x:Nat) (w:World) (hx:x < 18446744073709551616) (h:¬x < 281474976710656) :
 Calls Tryz.prog 67 #[.int .u64 x] w fun e w'=>e = .returned (.tuple #[.agg #[.int .i64 0,.int .i64 0,.int .u32 0],.bool false])/\Below w.heap.size w w':=by
 have hu:=qq (yb0 x (some ⟨w.heap.size+1,0,none⟩) 4 4 [2,2,12,32] _ hx rfl (by omega) (by simpa using irow4 (w.alloc (.cells #[.int .i64 0,.int .i64 0,.int .u32 0] 54)) 3 .i64 2 2 12 32))
 have ho:=Own3.new w (.int .i64 0) (.int .i64 0) (.int .u32 0) 54
 obtain ⟨X,hX⟩:∃ X:Int,Hid ((x:Int)=X):=⟨_,rfl⟩
 obtain ⟨e1,e2⟩:=unp_head_no h
 rw [e1,e2] at hu
 rw [hX.out]
 rw [hX.out] at hu
 clear e1 e2 h hx
 have Ho:=qq ho
 clear ho
 go_enter Tryz.func67,Tryz.ntmps67
 go_wp2_with fail
 refine hu.out.mono ?_
 rintro e w1 ⟨⟨q,m,c,rfl,hq⟩,hb1⟩
 have hb01:=za4 hb1
 obtain ⟨c0,c1,c2,f0,f1,f2⟩:=Ho.out.keep hb01
 have hbw:=za4 hb01
 clear hu hq hb1 hb01
 go_wp2
 exact bodyPost_ret (v:=.tuple #[.agg #[.int .i64 0,.int .i64 0,.int .u32 0],.bool false]) (by simp [results,Tryz.results67,go_sem,c0,c1,c2]) rfl ⟨rfl,zb9 hbw (Nat.le_refl _)⟩
theorem decode_tag (x:Nat) (w:World) (hx:x < 18446744073709551616) (h:x < 281474976710656) (h4:¬x % 4=1) :
 Calls Tryz.prog 67 #[.int .u64 x] w fun e w'=>e = .returned (.tuple #[.agg #[.int .i64 0,.int .i64 0,.int .u32 0],.bool false])/\Below w.heap.size w w':=by
 have hu:=qq (yb0 x (some ⟨w.heap.size+1,0,none⟩) 4 4 [2,2,12,32] _ hx rfl (by omega) (by simpa using irow4 (w.alloc (.cells #[.int .i64 0,.int .i64 0,.int .u32 0] 54)) 3 .i64 2 2 12 32))
 have ho:=Own3.new w (.int .i64 0) (.int .i64 0) (.int .u32 0) 54
 obtain ⟨X,hX⟩:∃ X:Int,Hid ((x:Int)=X):=⟨_,rfl⟩
 obtain ⟨e1,e2⟩:=unp_head h
 rw [e1,e2] at hu
 obtain ⟨R,hR⟩:∃ R:Int,Hid (((x % 4:Nat):Int)=R):=⟨_,rfl⟩
 have hne:(R != 1)=true:=by rw [bne_iff_ne,<-hR.out];omega
 rw [hR.out] at hu
 rw [hX.out]
 rw [hX.out] at hu
 clear e1 e2 h hx h4
 have Ho:=qq ho
 clear ho
 go_enter Tryz.func67,Tryz.ntmps67
 go_wp2_with fail
 refine hu.out.mono ?_
 rintro e w1 ⟨⟨q,m,c,rfl,hq⟩,hb1⟩
 obtain rfl:m=4:=hq.len.symm
 obtain ⟨y,b,off,hy,rfl,d0⟩:=hq.at_ (k:=0) (by omega)
 simp at hy
 subst hy
 rw [Nat.add_zero] at d0
 have hb01:=za4 hb1
 obtain ⟨c0,c1,c2,f0,f1,f2⟩:=Ho.out.keep hb01
 have hbw:=za4 hb01
 clear hu hq hb1 hb01
 go_wp2
 exact bodyPost_ret (v:=.tuple #[.agg #[.int .i64 0,.int .i64 0,.int .u32 0],.bool false]) (by simp [results,Tryz.results67,go_sem,c0,c1,c2]) rfl ⟨rfl,zb9 hbw (Nat.le_refl _)⟩
theorem decode_yes (x:Nat) (w:World) (hx:x < 18446744073709551616) (h:x < 281474976710656) (h4:x % 4=1) (hv:Hid (zb3 (dK x) (dN x) (dM x)=true)) :
 Calls Tryz.prog 67 #[.int .u64 x] w fun e w'=>e = .returned (.tuple #[.agg #[.int .i64 (dK x),.int .i64 (dN x),.int .u32 (dM x)],.bool true])/\Below w.heap.size w w':=by
 have hu:=qq (yb0 x (some ⟨w.heap.size+1,0,none⟩) 4 4 [2,2,12,32] _ hx rfl (by omega) (by simpa using irow4 (w.alloc (.cells #[.int .i64 0,.int .i64 0,.int .u32 0] 54)) 3 .i64 2 2 12 32))
 have ho:=Own3.new w (.int .i64 0) (.int .i64 0) (.int .u32 0) 54
 obtain ⟨X,hX⟩:∃ X:Int,Hid ((x:Int)=X):=⟨_,rfl⟩
 obtain ⟨e1,e2⟩:=unp_head h
 rw [e1,e2,h4] at hu
 have hk:(dK x:Int)<=3:=by unfold dK;omega
 have hn:(dN x:Int)<=4095:=by unfold dN;omega
 have hm:(dM x:Int) < 4294967296:=by unfold dM;omega
 obtain ⟨K,hK,hK0⟩:∃ K:Int,Hid (((dK x:Nat):Int)=K)/\0<=K:=⟨_,rfl,by omega⟩
 obtain ⟨N,hN,hN0⟩:∃ N:Int,Hid (((dN x:Nat):Int)=N)/\0<=N:=⟨_,rfl,by omega⟩
 obtain ⟨M,hM,hM0⟩:∃ M:Int,Hid (((dM x:Nat):Int)=M)/\0<=M:=⟨_,rfl,by omega⟩
 rw [hK.out] at hu hk hv
 rw [hN.out] at hu hn hv
 rw [hM.out] at hu hm hv
 rw [hK.out,hN.out,hM.out,hX.out]
 rw [hX.out] at hu
 clear e1 e2 h hx h4
 have Ho:=qq ho
 clear ho
 go_enter Tryz.func67,Tryz.ntmps67
 go_wp2_with fail
 refine hu.out.mono ?_
 rintro e w1 ⟨⟨q,m,c,rfl,hq⟩,hb1⟩
 obtain rfl:m=4:=hq.len.symm
 obtain ⟨y,b,off,hy,rfl,d0⟩:=hq.at_ (k:=0) (by omega)
 obtain ⟨y1,b1,off1,hy1,hp1,d1⟩:=hq.at_ (k:=1) (by omega)
 obtain ⟨y2,b2,off2,hy2,hp2,d2⟩:=hq.at_ (k:=2) (by omega)
 obtain ⟨y3,b3,off3,hy3,hp3,d3⟩:=hq.at_ (k:=3) (by omega)
 simp at hy hy1 hy2 hy3 hp1 hp2 hp3
 obtain ⟨rfl,rfl⟩:=hp1
 obtain ⟨rfl,rfl⟩:=hp2
 obtain ⟨rfl,rfl⟩:=hp3
 subst hy hy1 hy2 hy3
 rw [Nat.add_zero] at d0
 have hb01:=za4 hb1
 have Ho1:=qq (Ho.out.keep hb01)
 have hbw:=za4 hb01
 clear hu hq hb1 hb01 Ho
 have lb:b < w1.heap.size:=zb4 d0
 have lne:b≠w1.heap.size:=Nat.ne_of_lt lb
 go_wp2
 go_region
 go_wp2_with fail
 refine (zx0 K N M _ hM0 hm).mono ?_
 rw [hv.out]
 rintro e w2 ⟨rfl,hb2⟩
 have hb12:Below w1.heap.size w1 w2:=(((Below.refl _ _).alloc (Nat.le_refl _) _).drew).trans (hb2.mono (by simp))
 obtain ⟨c0,c1,c2,f0,f1,f2⟩:=Ho1.out.keep hb12
 have Hn:=((Own3.new w1 (.int .i64 K) (.int .i64 N) (.int .u32 M) 54).keep (Below.drew (Below.refl _ _))).keep hb2
 obtain ⟨k0,k1,k2,-,-,-⟩:=Hn
 have hbw2:=za3 hbw hb12
 clear hb2 hb12 Ho1 hbw d0 d1 d2 d3 lb lne
 go_wp2
 exact bodyPost_ret (v:=.tuple #[.agg #[.int .i64 K,.int .i64 N,.int .u32 M],.bool true]) (by simp [results,Tryz.results67,go_sem,c0,c1,c2]) rfl ⟨rfl,zb9 hbw2 (Nat.le_refl _)⟩
theorem decode_no (x:Nat) (w:World) (hx:x < 18446744073709551616) (h:x < 281474976710656) (h4:x % 4=1) (hv:Hid (zb3 (dK x) (dN x) (dM x)=false)) :
 Calls Tryz.prog 67 #[.int .u64 x] w fun e w'=>e = .returned (.tuple #[.agg #[.int .i64 0,.int .i64 0,.int .u32 0],.bool false])/\Below w.heap.size w w':=by
 have hu:=qq (yb0 x (some ⟨w.heap.size+1,0,none⟩) 4 4 [2,2,12,32] _ hx rfl (by omega) (by simpa using irow4 (w.alloc (.cells #[.int .i64 0,.int .i64 0,.int .u32 0] 54)) 3 .i64 2 2 12 32))
 have ho:=Own3.new w (.int .i64 0) (.int .i64 0) (.int .u32 0) 54
 obtain ⟨X,hX⟩:∃ X:Int,Hid ((x:Int)=X):=⟨_,rfl⟩
 obtain ⟨e1,e2⟩:=unp_head h
 rw [e1,e2,h4] at hu
 have hk:(dK x:Int)<=3:=by unfold dK;omega
 have hn:(dN x:Int)<=4095:=by unfold dN;omega
 have hm:(dM x:Int) < 4294967296:=by unfold dM;omega
 obtain ⟨K,hK,hK0⟩:∃ K:Int,Hid (((dK x:Nat):Int)=K)/\0<=K:=⟨_,rfl,by omega⟩
 obtain ⟨N,hN,hN0⟩:∃ N:Int,Hid (((dN x:Nat):Int)=N)/\0<=N:=⟨_,rfl,by omega⟩
 obtain ⟨M,hM,hM0⟩:∃ M:Int,Hid (((dM x:Nat):Int)=M)/\0<=M:=⟨_,rfl,by omega⟩
 rw [hK.out] at hu hk hv
 rw [hN.out] at hu hn hv
 rw [hM.out] at hu hm hv
 rw [hX.out]
 rw [hX.out] at hu
 clear e1 e2 h hx h4
 have Ho:=qq ho
 clear ho
 go_enter Tryz.func67,Tryz.ntmps67
 go_wp2_with fail
 refine hu.out.mono ?_
 rintro e w1 ⟨⟨q,m,c,rfl,hq⟩,hb1⟩
 obtain rfl:m=4:=hq.len.symm
 obtain ⟨y,b,off,hy,rfl,d0⟩:=hq.at_ (k:=0) (by omega)
 obtain ⟨y1,b1,off1,hy1,hp1,d1⟩:=hq.at_ (k:=1) (by omega)
 obtain ⟨y2,b2,off2,hy2,hp2,d2⟩:=hq.at_ (k:=2) (by omega)
 obtain ⟨y3,b3,off3,hy3,hp3,d3⟩:=hq.at_ (k:=3) (by omega)
 simp at hy hy1 hy2 hy3 hp1 hp2 hp3
 obtain ⟨rfl,rfl⟩:=hp1
 obtain ⟨rfl,rfl⟩:=hp2
 obtain ⟨rfl,rfl⟩:=hp3
 subst hy hy1 hy2 hy3
 rw [Nat.add_zero] at d0
 have hb01:=za4 hb1
 have Ho1:=qq (Ho.out.keep hb01)
 have hbw:=za4 hb01
 clear hu hq hb1 hb01 Ho
 have lb:b < w1.heap.size:=zb4 d0
 have lne:b≠w1.heap.size:=Nat.ne_of_lt lb
 go_wp2
 go_region
 go_wp2_with fail
 refine (zx0 K N M _ hM0 hm).mono ?_
 rw [hv.out]
 rintro e w2 ⟨rfl,hb2⟩
 have hb12:Below w1.heap.size w1 w2:=(((Below.refl _ _).alloc (Nat.le_refl _) _).drew).trans (hb2.mono (by simp))
 obtain ⟨c0,c1,c2,f0,f1,f2⟩:=Ho1.out.keep hb12
 have Hn:=((Own3.new w1 (.int .i64 K) (.int .i64 N) (.int .u32 M) 54).keep (Below.drew (Below.refl _ _))).keep hb2
 obtain ⟨k0,k1,k2,-,-,-⟩:=Hn
 have hbw2:=za3 hbw hb12
 clear hb2 hb12 Ho1 hbw d0 d1 d2 d3 lb lne
 go_wp2
 exact bodyPost_ret (v:=.tuple #[.agg #[.int .i64 0,.int .i64 0,.int .u32 0],.bool false]) (by simp [results,Tryz.results67,go_sem,c0,c1,c2]) rfl ⟨rfl,zb9 hbw2 (Nat.le_refl _)⟩
theorem decode_any (x:Nat) (w:World) (hx:x < 18446744073709551616) :
 Calls Tryz.prog 67 #[.int .u64 x] w fun e w'=>e = .returned (.tuple #[.agg #[.int .i64 (decK x),.int .i64 (decN x),.int .u32 (decM x)],.bool (okD x)])/\Below w.heap.size w w':=by
 by_cases h:x < 281474976710656
 · by_cases h4:x % 4=1
   · by_cases hv:zb3 (dK x) (dN x) (dM x)=true
     · have ho:=okD_mk h4 h hv
       obtain ⟨e1,e2,e3⟩:=dec_ok ho
       rw [e1,e2,e3,ho]
       exact decode_yes x w hx h h4 hv
     · have hv:zb3 (dK x) (dN x) (dM x)=false:=by simpa using hv
       have ho:=okD_no (x:=x) (Or.inr (Or.inr hv))
       obtain ⟨e1,e2,e3⟩:=dec_no ho
       rw [e1,e2,e3,ho]
       exact decode_no x w hx h h4 hv
   · have ho:=okD_no (x:=x) (Or.inl h4)
     obtain ⟨e1,e2,e3⟩:=dec_no ho
     rw [e1,e2,e3,ho]
     exact decode_tag x w hx h h4
 · have ho:=okD_no (x:=x) (Or.inr (Or.inl h))
   obtain ⟨e1,e2,e3⟩:=dec_no ho
   rw [e1,e2,e3,ho]
   exact decode_bad x w hx h
theorem inUse_set:∀ {ps:List Pg} {k:Nat} {z y:Pg},ps[k]?=some z->ze6 (ps.set k y)+(if z.kind=0 then 0 else 1)=ze6 ps+(if y.kind=0 then 0 else 1)
 | [],k,z,y,h=>by simp at h
 | a :: r,0,z,y,h=>by
  simp at h;subst h
  rw [List.set_cons_zero,ze6,ze6];omega
 | a :: r,k+1,z,y,h=>by
  have ih:=inUse_set (ps:=r) (k:=k) (z:=z) (y:=y) (by simpa using h)
  rw [List.set_cons_succ,ze6,ze6];omega
theorem inUse_kinds:∀ {ps qs:List Pg},ps.map (·.kind)=qs.map (·.kind)->ze6 ps=ze6 qs
 | [],[],_=>rfl
 | [],_ :: _,h=>by simp at h
 | _ :: _,[],h=>by simp at h
 | a :: r,b :: s,h=>by
  simp at h
  rw [ze6,ze6,h.1,inUse_kinds (ps:=r) (qs:=s) h.2]
theorem Inv.place {h:Hp} {x:Wk} (I:Inv h x) {n:Int} (hn0:1<=n) (hn:n<=h.pw) (hb:plB x n=true):∃ (J:Nat) (u:Int) (g0 g1:Pg),
 plA x n=4096+(J:Int)*h.pw+u/\0<=u/\u+n<=h.pw/\(J:Int) < h.np/\h.pages[J]?=some g0/\g0.kind=0 /\
 (∀ k:Nat,k≠J->(plW x n).h.pages[k]?=x.h.pages[k]?)/\(plW x n).h.pages[J]?=some g1/\g1.kind=1/\g1.used=u+n /\
 (plW x n).h.pages.length=x.h.pages.length/\(J:Int)∈(plW x n).taken/\(∀ t,t∈(plW x n).taken↔t∈x.taken\/t=J)/\(plW x n).taken.length<=ze6 (plW x n).h.pages /\
 ((J:Int)∈x.taken->∃ g,x.h.pages[J]?=some g/\g.used=u):=by
 have hcf:=I.conf
 obtain ⟨J,y,p1,p2,p3,p4,p5,p6,p7⟩:=ya7 I.plok hb
 have hpl:=I.pl
 have htl:=I.tl
 have e1:(plW x n).h.pages=(plPs x n).set J ⟨y.kind,y.space,y.used+n,y.pins⟩:=by
  show useAt (plPs x n) (plJ x n).toNat n=_
  unfold useAt;rw [p1,Int.toNat_natCast,zc6 p4]
 have e2:(plW x n).taken=plT x n:=rfl
 have hA:plA x n=4096+(J:Int)*h.pw+y.used:=by
  unfold plA;rw [p1,Int.toNat_natCast,zc6 p4,I.pw]
 rw [I.pw] at p6 p7
 have hJ:(plW x n).h.pages[J]?=some ⟨y.kind,y.space,y.used+n,y.pins⟩:=by
  rw [e1,List.getElem?_set];simp [p3,p2]
 have hu1:ze6 (plW x n).h.pages=ze6 (plPs x n):=by
  have:=inUse_set (y:=⟨y.kind,y.space,y.used+n,y.pins⟩) p4
  rw [e1];simp only at this;omega
 rcases p7 with ⟨r1,r2,r3,r4⟩ | ⟨r1,r2,r3,r4,z,r5,r6⟩
 · have hm:(J:Int)∈x.taken:=List.mem_of_getLast? r3
   obtain ⟨k2,g0,g,f0,f1,f2,f3,f4,f5,f6⟩:=I.tk _ hm
   obtain rfl:J=k2:=by omega
   rw [r2] at p4
   rw [f3] at p4
   injection p4 with p4
   subst p4
   have hT:(plW x n).taken=x.taken:=by rw [e2];unfold plT;rw [if_pos r1]
   refine ⟨J,g.used,g0,_,hA,f5,r4,by omega,f1,f2,fun k hk=>?_,hJ,f4,rfl,by rw [e1,List.length_set,p3],by rw [hT];exact hm,fun t=>?_,?_,fun _=>⟨g,f3,rfl⟩⟩
   · rw [e1,List.getElem?_set_ne (by omega),r2]
   · rw [hT]
     constructor
     · intro h;exact Or.inl h
     · rintro (h | rfl)
       · exact h
       · exact hm
   · rw [hu1,hT,r2];exact htl
 · have hnt:¬(J:Int)∈x.taken:=fun hm=>by
    obtain ⟨k2,g0,g,f0,f1,f2,f3,f4,f5,f6⟩:=I.tk _ hm
    obtain rfl:J=k2:=by omega
    rw [r5] at f3
    injection f3 with f3
    subst f3
    omega
   have hlt:J < h.pages.length:=by omega
   obtain ⟨g,f1,f2,f3⟩:=I.pg J h.pages[J] (List.getElem?_eq_getElem hlt) hnt
   rw [r5] at f1
   injection f1 with f1
   subst f1
   have hT:(plW x n).taken=x.taken ++ [(J:Int)]:=by rw [e2];unfold plT;rw [r1,r2];rfl
   subst r4
   refine ⟨J,0,h.pages[J],_,hA,Int.le_refl _,by omega,by omega,List.getElem?_eq_getElem hlt,by omega,fun k hk=>?_,hJ,rfl,rfl,by rw [e1,List.length_set,p3],by rw [hT];simp,fun t=>?_,?_,fun hm=>absurd hm hnt⟩
   · rw [e1,List.getElem?_set_ne (by omega),r3,List.getElem?_set_ne (by omega)]
   · rw [hT];simp
   · rw [hu1,hT,r3,List.length_append]
     have:=inUse_set (y:=⟨1,1 - x.h.space,0,0⟩) r5
     rw [if_pos r6,if_neg (by simp)] at this
     simp only [List.length_singleton]
     omega
theorem promB_page {x y:Wk} {i:Nat} (h1:y.h.pages[i]?=x.h.pages[i]?) (h2:y.h.space=x.h.space) (h3:(i:Int)∈y.taken↔(i:Int)∈x.taken):zi2 y i=zi2 x i:=by
 unfold zi2
 rw [Int.toNat_natCast,h1,h2]
 cases x.h.pages[i]? with
 | none=>rfl
 | some g=>simp only [h3]
theorem Inv.begun {h:Hp} {x:Wk} (I:Inv h x) {a:Int} {i j:Nat} {g:Pg} (b:Begins h a i j g):¬(i:Int)∈x.taken:=fun hm=>by
 obtain ⟨k2,g0,g2,f0,f1,f2,-⟩:=I.tk _ hm
 obtain rfl:i=k2:=by omega
 have:=b.pg
 rw [f1] at this
 injection this with this
 subst this
 rcases b.kd with ⟨k,-⟩ | ⟨k,-⟩ <;> omega
theorem okT_fwd {a:Int} (h0:0<=a) (h1:a < 4294967296):okT (fwdV a).toNat=true:=by
 rw [(fwd_ok h1).1]
 refine okT_mk ?_ ?_ <;> omega
theorem Inv.keep {h:Hp} {x:Wk} (I:Inv h x) {a:Int} (ha:a∈zc0 h) (hq:¬a∈x.queue) (ht:okT (evWd x a).toNat=false):Inv h (zq2 x a)/\Later x (zq2 x a):=by
 have e1:∀ b,evWd (zq2 x a) b=evWd x b:=fun b=>rfl
 have e2:∀ b,evN (zq2 x a) b=evN x b:=fun b=>rfl
 have e3:∀ b,zj6 (zq2 x a) b↔zj6 x b:=fun b=>Iff.rfl
 have hm:∀ b,b∈(zq2 x a).queue↔b∈x.queue\/b=a:=fun b=>by show b∈x.queue ++ [a]↔_;simp
 have hnc:∀ q,zj6 x q->q≠a:=fun q hc e=>by
  subst e
  have h1:=I.old_copy ha hc
  obtain ⟨k,g0,f1,f2,f3,f4,f5,f6,f7⟩:=I.copy hc
  obtain ⟨i,j,g,b⟩:=zf6 ha
  have:=b.pos
  omega
 refine ⟨⟨I.ok,I.pw,I.np,I.sp,I.old,I.wl,I.pl,I.tk,I.pg,I.tl,fun b hb=>?_,fun q hqq=>?_,fun q hq2 r hr2 cq cr hne=>?_,?_⟩,⟨rfl,⟨[a],rfl⟩,fun _ _=>rfl⟩⟩
 · rcases I.un b hb with c | ⟨c1,c2,c3⟩
   · exact Or.inl c
   · refine Or.inr ⟨c1,fun hin=>?_,c3⟩
     rcases (hm b).1 hin with h2 | h2
     · exact c2 h2
     · subst h2;rw [ht] at c1;cases c1
 · rcases (hm q).1 hqq with h2 | h2
   · exact I.qs q h2
   · subst h2;exact Or.inl ha
 · have hq3:=((hm q).1 hq2).resolve_right (hnc q cq)
   have hr3:=((hm r).1 hr2).resolve_right (hnc r cr)
   exact I.dj q hq3 r hr3 cq cr hne
 · have h1:((zc0 h).filter (zm1 (zq2 x a))).length+1<=((zc0 h).filter (zm1 x)).length:=by
    refine yd8 (c:=a) (fun b hb hu=>?_) ha ?_ ?_
    · unfold zm1 at hu ⊢
      simp only [Bool.and_eq_true,decide_eq_true_eq] at hu ⊢
      exact ⟨fun h2=>hu.1 ((hm b).2 (Or.inl h2)),hu.2⟩
    · unfold zm1;simp [hq,ht]
    · unfold zm1;rw [decide_eq_false (by simp [hm])];rfl
   have h2:(zq2 x a).queue.length=x.queue.length+1:=by show (x.queue ++ [a]).length=_;simp
   have:=I.cnt
   omega
theorem takeWhile_at {P:Pg->Bool}:∀ {l:List Pg} {k:Nat},k < (l.takeWhile P).length->∃ y,l[k]?=some y/\P y=true
 | [],k,h=>by simp at h
 | a :: l,k,h=>by
  rw [List.takeWhile_cons] at h
  split at h
  · rename_i hp
    cases k with
    | zero=>exact ⟨a,rfl,hp⟩
    | succ k =>
     obtain ⟨y,h1,h2⟩:=takeWhile_at (l:=l) (k:=k) (by simpa using h)
     exact ⟨y,by simpa using h1,h2⟩
  · simp at h
theorem Inv.large {h:Hp} {x:Wk} (I:Inv h x) {i:Nat} {g:Pg} (hg:x.h.pages[i]?=some g) (hk:g.kind=2):Inv h (zm5 x i)/\Later x (zm5 x i)/\(∀ a,evWd (zm5 x i) a=evWd x a)/\(zm5 x i).queue=x.queue:=by
 have hat:∀ (k:Nat) (y:Pg),x.h.pages[k]?=some y->∃ s,(zm5 x i).h.pages[k]?=some ⟨y.kind,s,y.used,y.pins⟩/\(¬(y.kind=2\/y.kind=3)->s=y.space):=fun k y hy=>by
  show ∃ s,(spc x.h.pages i (zu6 x.h.pages i) (1 - x.h.space))[k]?=_/\_
  unfold spc
  rw [List.getElem?_mapIdx,hy]
  simp only [Option.map_some]
  by_cases hr:i<=k/\k < zu6 x.h.pages i
  · rw [if_pos hr]
    refine ⟨1 - x.h.space,rfl,fun hno=>?_⟩
    exfalso
    apply hno
    by_cases e:k=i
    · subst e;rw [hg] at hy;injection hy with hy;subst hy;exact Or.inl hk
    · right
      unfold zu6 at hr
      obtain ⟨z,z1,z2⟩:=takeWhile_at (l:=x.h.pages.drop (i+1)) (k:=k - (i+1)) (P:=fun y=>decide (y.kind=3)) (by omega)
      rw [List.getElem?_drop,show i+1+(k - (i+1))=k from by omega,hy] at z1
      injection z1 with z1
      subst z1
      exact of_decide_eq_true z2
  · rw [if_neg hr];exact ⟨y.space,rfl,fun _=>rfl⟩
 have hkd:(zm5 x i).h.pages.map (·.kind)=x.h.pages.map (·.kind):=by
  apply List.ext_getElem?
  intro k
  rw [List.getElem?_map,List.getElem?_map]
  cases hy:x.h.pages[k]? with
  | some y =>
   obtain ⟨s,h1,-⟩:=hat k y hy
   rw [h1];rfl
  | none =>
   have:(zm5 x i).h.pages[k]?=none:=by
    show (spc x.h.pages i (zu6 x.h.pages i) (1 - x.h.space))[k]?=none
    unfold spc;rw [List.getElem?_mapIdx,hy];rfl
   rw [this]
 have hln:(zm5 x i).h.pages.length=x.h.pages.length:=by
  have:=congrArg List.length hkd
  rwa [List.length_map,List.length_map] at this
 have hcp:∀ q,zj6 (zm5 x i) q->zj6 x q:=fun q ⟨k,g2,c1,c2,c3,c4,c5⟩=>by
  cases hy:x.h.pages[k]? with
  | some y =>
   obtain ⟨s,h1,-⟩:=hat k y hy
   rw [h1] at c2
   injection c2 with c2
   exact ⟨k,y,c1,hy,c3,c4,by subst c2;exact c5⟩
  | none =>
   have h1:=List.getElem?_eq_none_iff.1 hy
   have h2:=(List.getElem?_eq_some_iff.1 c2).1
   omega
 refine ⟨⟨I.ok,I.pw,I.np,I.sp,I.old,I.wl,hln.trans I.pl,fun t ht=>?_,fun k g0 hg0 hnt=>?_,?_,fun a ha=>?_,fun q hq=>?_,fun q hq r hr cq cr hne=>I.dj q hq r hr (hcp q cq) (hcp r cr) hne,I.cnt⟩,⟨rfl,⟨[],by simp [zm5]⟩,fun _ _=>rfl⟩,fun _=>rfl,rfl⟩
 · obtain ⟨k,g0,g2,f0,f1,f2,f3,f4,f5,f6⟩:=I.tk t ht
   obtain ⟨s,h1,-⟩:=hat k g2 f3
   exact ⟨k,g0,_,f0,f1,f2,h1,f4,f5,f6⟩
 · obtain ⟨g2,f1,f2,f3⟩:=I.pg k g0 hg0 hnt
   obtain ⟨s,h1,-⟩:=hat k g2 f1
   exact ⟨_,h1,f2,f3⟩
 · rw [inUse_kinds hkd];exact I.tl
 · rcases I.un a ha with c | ⟨c1,c2,c3⟩
   · exact Or.inl c
   · refine Or.inr ⟨c1,c2,?_⟩
     obtain ⟨i2,j2,g2,b⟩:=zf6 ha
     rw [b.oi] at c3 ⊢
     obtain ⟨y,f1,f2,f3⟩:=I.pg i2 g2 b.pg (I.begun b)
     obtain ⟨s,h1,h2⟩:=hat i2 y f1
     unfold zi2 at c3 ⊢
     rw [Int.toNat_natCast,f1] at c3
     rw [Int.toNat_natCast,h1]
     simp only at c3 ⊢
     by_cases hk1:y.kind=1
     · rw [h2 (by omega)];exact c3
     · rw [decide_eq_false hk1];simp
 · rcases I.qs q hq with c | ⟨k,y,c1,c2,c3,c4,c5⟩
   · exact Or.inl c
   · obtain ⟨s,h1,-⟩:=hat k y c2
     exact Or.inr ⟨k,_,c1,h1,c3,c4,c5⟩
theorem Inv.copied {h:Hp} {x:Wk} (I:Inv h x) {a:Int} (ha:a∈zc0 h) (hq:¬a∈x.queue) (ht:okT (evWd x a).toNat=false) (hpr:zi2 x (evI x a)=false) (hbig:evBig x a=false) (hpl:plB x (evN x a)=true) :
 Inv h (zh5 x a)/\Later x (zh5 x a):=by
 obtain ⟨c1,c2,c3,c4,c5,c6,c7,c8,c9⟩:=I.conf
 obtain ⟨i,j,g,b⟩:=zf6 ha
 have hbp:=b.pos
 have hbw:=b.wl
 have hwl:=I.wl
 have e0:evWd x a=ze1 h.words a:=(I.un a ha).elim id (fun c=>by rw [ht] at c;exact absurd c.1 (by decide))
 obtain ⟨e1,e2,e3,-⟩:=old_ev ha e0
 have hoi:evI x a=i:=by unfold evI;rw [I.pw,I.np];exact b.oi
 obtain ⟨y,f1,f2,f3⟩:=I.pg i g b.pg (I.begun b)
 have hk1:g.kind=1:=by
  rcases b.kd with ⟨k,-⟩ | ⟨k,-⟩
  · exact k
  · unfold evBig at hbig
    rw [hoi,Int.toNat_natCast,zc6 f1] at hbig
    have:=of_decide_eq_false hbig
    omega
 have hn:evN x a<=h.pw:=by
  rcases b.kd with ⟨k,l,m⟩ | ⟨k,-⟩ <;> omega
 have hn0:1<=evN x a:=by omega
 obtain ⟨J,u,g0,g1,hA,hu0,hun,hJ,hg0,hk0,hoth,hg1,hk11,hu1,hplen,hJt,htk,htl,hru⟩:=I.place hn0 hn hpl
 obtain ⟨N,hN⟩:∃ N,evN x a=N:=⟨_,rfl⟩
 obtain ⟨T,hT⟩:∃ T,plA x N=T:=⟨_,rfl⟩
 rw [hN] at hA hn hn0 hun hoth hg1 hu1 hplen hJt htk htl e2 hpl
 rw [hT] at hA
 have hpp:=zj2 (p:=(J:Int)) (zc2 I.ok).1 (by omega) hJ
 have hfree:=zs6 b hg0 hk0
 have ka:okA x.h.words.length T N.toNat=true:=zj5.2 (by omega)
 have kb:okA x.h.words.length a N.toNat=true:=zj5.2 (by omega)
 have kc:okA (zj0 x.h.words T a N).length a [fwdV T].length=true:=by rw [move_len (by omega) ka kb];exact zj5.2 (by simp only [List.length_singleton];omega)
 have hW:(zh5 x a).h.words=zc8 (zj0 x.h.words T a N) a [fwdV T]:=by
  show copyWd x a=_
  unfold copyWd;rw [hN,hT]
 have hQ:(zh5 x a).queue=x.queue ++ [T]:=by show x.queue ++ [plA x (evN x a)]=_;rw [hN,hT]
 have hP:(zh5 x a).h.pages=(plW x N).h.pages:=by show (plW x (evN x a)).h.pages=_;rw [hN]
 have hTk:(zh5 x a).taken=(plW x N).taken:=by show (plW x (evN x a)).taken=_;rw [hN]
 have hpw:(zh5 x a).h.pw=h.pw:=I.pw
 have hself:evWd (zh5 x a) a=fwdV T:=by unfold evWd;rw [hW];exact load_write_in kc
 have hout:∀ p,p≠a->(p < T\/T+N<=p)->evWd (zh5 x a) p=evWd x p:=fun p h1 h2=>by
  unfold evWd;rw [hW,zu7 kc (by simp only [List.length_singleton];omega)]
  exact load_move_out (by omega) ka kb (by omega)
 have hnew:evWd (zh5 x a) T=evWd x a:=by
  unfold evWd;rw [hW,zu7 kc (by simp only [List.length_singleton];omega)]
  have:=load_move_in (k:=0) (by omega) ka kb (Int.le_refl _) (by omega)
  simpa using this
 have hold:∀ c∈zc0 h,c≠a->evWd (zh5 x a) c=evWd x c:=fun c hc hne=>by
  obtain ⟨i3,j3,g3,b3⟩:=zf6 hc
  have h1:=zs6 b3 hg0 hk0
  have h2:=b3.pos
  exact hout c hne (by omega)
 have hbelow:∀ q,zj6 x q->q+evN x q<=T\/T+N<=q:=fun q hc=>by
  have hc2:=hc
  obtain ⟨k,y2,d1,d2,d3,d4,d5⟩:=hc
  obtain ⟨k3,y0,y3,l0,l1,l2,l3,l4,l5,l6⟩:=I.tk _ d1
  obtain rfl:k=k3:=by omega
  rw [d2] at l3
  injection l3 with l3
  subst l3
  rw [I.pw] at d3 d5
  by_cases hkJ:k=J
  · subst hkJ
    obtain ⟨g5,m1,m2⟩:=hru d1
    rw [d2] at m1
    injection m1 with m1
    subst m1
    left;omega
  · by_cases hlt:k < J
    · left
      have:((k:Int)+1)*h.pw<=(J:Int)*h.pw:=Int.mul_le_mul_of_nonneg_right (by omega) (by omega)
      rw [Int.add_mul,Int.one_mul] at this
      omega
    · right
      have:((J:Int)+1)*h.pw<=(k:Int)*h.pw:=Int.mul_le_mul_of_nonneg_right (by omega) (by omega)
      rw [Int.add_mul,Int.one_mul] at this
      omega
 have hcopy:∀ q,zj6 x q->evWd (zh5 x a) q=evWd x q/\q≠a/\q≠T:=fun q hc=>by
  have h1:=hbelow q hc
  obtain ⟨k,y0,l1,l2,l3,l4,l5,l6,l7⟩:=I.copy hc
  have h2:=I.old_copy ha hc
  have hne:q≠a:=by omega
  exact ⟨hout q hne (by omega),hne,by omega⟩
 have hcopyN:∀ q,zj6 x q->evN (zh5 x a) q=evN x q:=fun q hc=>by unfold evN;rw [(hcopy q hc).1]
 have hqd:∀ q∈x.queue,evWd (zh5 x a) q=evWd x q:=fun q h1=>by
  rcases I.qs q h1 with h2 | h2
  · exact hold q h2 (fun e=>hq (by rw [<-e];exact h1))
  · exact (hcopy q h2).1
 have hcc:∀ q,zj6 x q->zj6 (zh5 x a) q:=fun q hc=>by
  have h9:=hcopyN q hc
  have h8:=(hcopy q hc).1
  have hc2:=hc
  obtain ⟨k,y2,d1,d2,d3,d4,d5⟩:=hc
  by_cases hkJ:k=J
  · subst hkJ
    obtain ⟨g5,m1,m2⟩:=hru d1
    rw [d2] at m1
    injection m1 with m1
    subst m1
    refine ⟨k,g1,by rw [hTk];exact hJt,by rw [hP];exact hg1,by rw [hpw];rw [I.pw] at d3;exact d3,by rw [h8];exact d4,?_⟩
    rw [h9,hpw];rw [I.pw] at d5;omega
  · refine ⟨k,y2,by rw [hTk];exact (htk _).2 (Or.inl d1),by rw [hP,hoth k hkJ];exact d2,by rw [hpw];rw [I.pw] at d3;exact d3,by rw [h8];exact d4,?_⟩
    rw [h9,hpw];rw [I.pw] at d5;exact d5
 have hback:∀ q∈x.queue,zj6 (zh5 x a) q->zj6 x q:=fun q h1 hc=>by
  rcases I.qs q h1 with h2 | h2
  · exfalso
    obtain ⟨k,y2,d1,d2,d3,d4,d5⟩:=hc
    obtain ⟨i3,j3,g3,b3⟩:=zf6 h2
    have hb3:=b3.pos
    rw [hpw] at d3 d5
    have hge:1<=evN (zh5 x a) q:=by have:=(evN_ok d4).1;omega
    rw [hTk] at d1
    rw [hP] at d2
    rcases (htk _).1 d1 with d1 | d1
    · obtain ⟨k3,y0,y3,l0,l1,l2,l3,l4,l5,l6⟩:=I.tk _ d1
      obtain rfl:k=k3:=by omega
      have h6:=zs6 b3 l1 l2
      have hul:y2.used<=h.pw:=by
       by_cases hkJ:k=J
       · subst hkJ;rw [hg1] at d2;injection d2 with d2;subst d2;omega
       · rw [hoth k hkJ,l3] at d2;injection d2 with d2;subst d2;exact l6
      omega
    · obtain rfl:k=J:=by omega
      have h6:=zs6 b3 hg0 hk0
      rw [hg1] at d2;injection d2 with d2;subst d2
      omega
  · exact h2
 have hTN:evN (zh5 x a) T=N:=by unfold evN;rw [hnew];exact hN
 refine ⟨⟨I.ok,I.pw,I.np,I.sp,I.old,?_,?_,fun t h1=>?_,fun k g5 h1 h2=>?_,?_,fun c hc=>?_,fun q h1=>?_,fun q h1 r h2 cq cr hne=>?_,?_⟩,⟨rfl,⟨[T],hQ⟩,hqd⟩⟩
 · rw [hW,zy9 kc,move_len (by omega) ka kb];exact hwl
 · rw [hP,hplen];exact I.pl
 · rw [hTk] at h1
   rw [hP]
   by_cases hkJ:t=J
   · exact ⟨J,g0,g1,hkJ,hg0,hk0,hg1,hk11,by omega,by omega⟩
   · obtain ⟨k3,y0,y3,l0,l1,l2,l3,l4,l5,l6⟩:=I.tk _ (((htk t).1 h1).resolve_right hkJ)
     exact ⟨k3,y0,y3,l0,l1,l2,by rw [hoth k3 (by omega)];exact l3,l4,l5,l6⟩
 · rw [hTk] at h2
   rw [hP]
   have hnt:¬(k:Int)∈x.taken:=fun h3=>h2 ((htk _).2 (Or.inl h3))
   have hkJ:k≠J:=fun e=>h2 ((htk _).2 (Or.inr (by rw [e])))
   obtain ⟨y5,l1,l2,l3⟩:=I.pg k g5 h1 hnt
   exact ⟨y5,by rw [hoth k hkJ];exact l1,l2,l3⟩
 · rw [hTk,hP];exact htl
 · have hstab:∀ i5 j5 g5,Begins h c i5 j5 g5->zi2 (zh5 x a) i5=zi2 x i5:=fun i5 j5 g5 b5=>by
    have hnt:=I.begun b5
    have hkJ:i5≠J:=fun e=>by
     subst e
     have:=b5.pg
     rw [hg0] at this
     injection this with this
     subst this
     rcases b5.kd with ⟨k,-⟩ | ⟨k,-⟩ <;> omega
    refine promB_page (by rw [hP];exact hoth i5 hkJ) rfl ?_
    rw [hTk,htk]
    constructor
    · rintro (h | h)
      · exact h
      · omega
    · exact Or.inl
   obtain ⟨i5,j5,g5,b5⟩:=zf6 hc
   by_cases hca:c=a
   · subst hca
     right
     refine ⟨by rw [hself];exact okT_fwd (by omega) (by omega),fun h1=>?_,?_⟩
     · rw [hQ] at h1
       rcases List.mem_append.1 h1 with h1 | h1
       · exact hq h1
       · have:=List.mem_singleton.1 h1;omega
     · rw [b5.oi,hstab _ _ _ b5]
       have:evI x c=i5:=by unfold evI;rw [I.pw,I.np];exact b5.oi
       rw [<-this];exact hpr
   · rw [hold c hc hca]
     rcases I.un c hc with h1 | ⟨h1,h2,h3⟩
     · exact Or.inl h1
     · refine Or.inr ⟨h1,fun h4=>?_,by rw [b5.oi] at h3 ⊢;rw [hstab _ _ _ b5];exact h3⟩
       rw [hQ] at h4
       rcases List.mem_append.1 h4 with h4 | h4
       · exact h2 h4
       · have h5:=List.mem_singleton.1 h4
         have h6:=zs6 b5 hg0 hk0
         have h7:=b5.pos
         omega
 · rw [hQ] at h1
   rcases List.mem_append.1 h1 with h1 | h1
   · rcases I.qs q h1 with h2 | h2
     · exact Or.inl h2
     · exact Or.inr (hcc q h2)
   · have h5:=List.mem_singleton.1 h1
     subst h5
     refine Or.inr ⟨J,g1,by rw [hTk];exact hJt,by rw [hP];exact hg1,by rw [hpw];omega,by rw [hnew];exact e1,?_⟩
     rw [hTN,hpw];omega
 · rw [hQ] at h1 h2
   rcases List.mem_append.1 h1 with m1 | m1 <;> rcases List.mem_append.1 h2 with m2 | m2
   · have cq2:=hback q m1 cq
     have cr2:=hback r m2 cr
     rw [hcopyN q cq2,hcopyN r cr2]
     exact I.dj q m1 r m2 cq2 cr2 hne
   · have h5:=List.mem_singleton.1 m2
     have cq2:=hback q m1 cq
     rw [h5,hcopyN q cq2,hTN]
     exact hbelow q cq2
   · have h5:=List.mem_singleton.1 m1
     have cr2:=hback r m2 cr
     rw [h5,hcopyN r cr2,hTN]
     exact (hbelow r cr2).symm
   · exact absurd ((List.mem_singleton.1 m1).trans (List.mem_singleton.1 m2).symm) hne
 · have h1:((zc0 h).filter (zm1 (zh5 x a))).length+1<=((zc0 h).filter (zm1 x)).length:=by
    refine yd8 (c:=a) (fun c hc hu=>?_) ha ?_ ?_
    · unfold zm1 at hu ⊢
      by_cases hca:c=a
      · subst hca
        rw [hself,okT_fwd (by omega) (by omega)] at hu
        simp at hu
      · rw [hold c hc hca] at hu
        simp only [Bool.and_eq_true,decide_eq_true_eq] at hu ⊢
        exact ⟨fun h2=>hu.1 (by rw [hQ];exact List.mem_append_left _ h2),hu.2⟩
    · unfold zm1;simp [hq,ht]
    · unfold zm1;rw [hself,okT_fwd (by omega) (by omega)];simp
   have h2:(zh5 x a).queue.length=x.queue.length+1:=by rw [hQ];simp
   have:=I.cnt
   omega
theorem Inv.forward {h:Hp} {x:Wk} (I:Inv h x) {a:Int} (he:evE x a=0):Inv h (evW x a)/\Later x (evW x a):=by
 unfold evE at he
 unfold evW
 by_cases h0:a=0\/a∈x.queue
 · have hc:evC x a=0:=by unfold evC;rw [if_pos h0]
   rw [hc];exact ⟨I,Later.refl x⟩
 have hq:¬a∈x.queue:=fun c=>h0 (Or.inr c)
 by_cases ho:¬a∈x.old
 · have hc:evC x a=1:=by unfold evC;rw [if_neg h0,if_pos ho]
   rw [hc] at he;exact absurd he (by decide)
 replace ho:a∈x.old:=Classical.not_not.1 ho
 have ho2:a∈zc0 h:=by rw [<-I.old];exact ho
 by_cases ht:okT (evWd x a).toNat=true
 · have hc:evC x a=2:=by unfold evC;rw [if_neg h0,if_neg (by simpa using ho),if_pos ht]
   rw [hc];exact ⟨I,Later.refl x⟩
 replace ht:okT (evWd x a).toNat=false:=by simpa using ht
 by_cases h3:¬ofE x.h.pw x.h.np a=0\/(x.h.pages.length:Int)<=evI x a
 · have hc:evC x a=3:=by unfold evC;rw [if_neg h0,if_neg (by simpa using ho),if_neg (by simp [ht]),if_pos h3]
   rw [hc] at he;exact absurd he (by decide)
 cases hpr:zi2 x (evI x a) with
 | true =>
  have hc:evC x a=4:=by unfold evC;rw [if_neg h0,if_neg (by simpa using ho),if_neg (by simp [ht]),if_neg h3,if_pos hpr]
  rw [hc];exact I.keep ho2 hq ht
 | false =>
  cases hbig:evBig x a with
  | true =>
   have hc:evC x a=5:=by unfold evC;rw [if_neg h0,if_neg (by simpa using ho),if_neg (by simp [ht]),if_neg h3,if_neg (by simp [hpr]),if_pos hbig]
   rw [hc]
   obtain ⟨i,j,g,b⟩:=zf6 ho2
   have hoi:evI x a=i:=by unfold evI;rw [I.pw,I.np];exact b.oi
   obtain ⟨y,f1,f2,f3⟩:=I.pg i g b.pg (I.begun b)
   have hk:y.kind=2:=by
    unfold evBig at hbig
    rw [hoi,Int.toNat_natCast,zc6 f1] at hbig
    exact of_decide_eq_true hbig
   rw [hoi,Int.toNat_natCast]
   obtain ⟨I2,L2,e1,e2⟩:=I.large f1 hk
   obtain ⟨I3,L3⟩:=I2.keep ho2 (by rw [e2];exact hq) (by rw [e1];exact ht)
   exact ⟨I3,L2.trans L3⟩
  | false =>
   cases hpp:plB x (evN x a) with
   | true =>
    have hc:evC x a=7:=by unfold evC;rw [if_neg h0,if_neg (by simpa using ho),if_neg (by simp [ht]),if_neg h3,if_neg (by simp [hpr]),if_neg (by simp [hbig]),if_pos hpp]
    rw [hc];exact I.copied ho2 hq ht hpr hbig hpp
   | false =>
    have hc:evC x a=6:=by unfold evC;rw [if_neg h0,if_neg (by simpa using ho),if_neg (by simp [ht]),if_neg h3,if_neg (by simp [hpr]),if_neg (by simp [hbig]),if_neg (by simp [hpp])]
    rw [hc] at he;exact absurd he (by decide)
theorem evH_later {x y:Wk} (L:Later x y) {q:Int} (hq:q∈x.queue):evH y q=evH x q:=by
 unfold evH;rw [L.hd q hq]
theorem st_ok {h:Hp} {A:Int}:∀ (l:List Int) (x:Wk),Inv h x->A∈x.queue->(∀ i∈l,0<=i/\i < (evH x A).n)->StOK x A l/\((stGo x A l).2=0->Inv h (stGo x A l).1/\Later x (stGo x A l).1)
 | [],x,I,hA,_=>⟨trivial,fun _=>⟨I,Later.refl x⟩⟩
 | i :: r,x,I,hA,hl=>by
  obtain ⟨h0,h1⟩:=hl i (List.mem_cons_self ..)
  have key:evE x (ze1 x.h.words (A+1+i))=0->Inv h (zq8 x (A+1+i))/\Later x (zq8 x (A+1+i)):=fun he=>by
   obtain ⟨I2,L2⟩:=I.forward he
   have hA2:=L2.mem hA
   obtain ⟨k1,k2,k3⟩:=I2.inside hA2 h0 (by rw [evH_later L2 hA];exact h1)
   obtain ⟨I3,L3⟩:=I2.write (v:=evA x (ze1 x.h.words (A+1+i))) k1 k2 k3
   exact ⟨I3,L2.trans L3⟩
  have hrec:∀ he:evE x (ze1 x.h.words (A+1+i))=0,StOK (zq8 x (A+1+i)) A r/\((stGo (zq8 x (A+1+i)) A r).2=0->Inv h (stGo (zq8 x (A+1+i)) A r).1/\Later (zq8 x (A+1+i)) (stGo (zq8 x (A+1+i)) A r).1):=fun he=>by
   obtain ⟨I3,L3⟩:=key he
   exact st_ok r _ I3 (L3.mem hA) (fun j hj=>by rw [evH_later L3 hA];exact hl j (List.mem_cons_of_mem _ hj))
  refine ⟨⟨I.fwok,fun he=>(hrec he).1⟩,fun hz=>?_⟩
  rw [stGo] at hz ⊢
  by_cases he:evE x (ze1 x.h.words (A+1+i))=0
  · rw [if_pos he] at hz ⊢
    obtain ⟨I4,L4⟩:=(hrec he).2 hz
    exact ⟨I4,(key he).2.trans L4⟩
  · rw [if_neg he] at hz
    exact absurd hz he
theorem stL_in {x:Wk} {A i:Int} (hi:i∈stL x A):0<=i/\i < (evH x A).n:=by
 have h:=ptrsV_mem hi
 unfold ptrB at h
 simp only [Bool.and_eq_true,decide_eq_true_eq] at h
 exact ⟨h.1.1.2,h.1.2⟩
theorem Inv.queue_bd {h:Hp} {x:Wk} (I:Inv h x) {A:Int} (hA:A∈x.queue):4096<=A/\A<=9000:=by
 rcases I.qs A hA with c | c
 · have:=at_bd (zy5 c).1;omega
 · obtain ⟨k,g0,f1,f2,f3,f4,f5,f6,f7⟩:=I.copy c
   have h1:=I.conf
   have h2:=zj2 (p:=(k:Int)) (zc2 I.ok).1 (by omega) f3
   omega
theorem Inv.reports {h:Hp} {x:Wk} (I:Inv h x) (s a b c d e f:Int):Inv h { x with sc:=s,r0:=a,r1:=b,r2:=c,r3:=d,r4:=e,r5:=f } :=
 ⟨I.ok,I.pw,I.np,I.sp,I.old,I.wl,I.pl,I.tk,I.pg,I.tl,I.un,I.qs,I.dj,I.cnt⟩
theorem all_ok {h:Hp}:∀ (f:Nat) (x:Wk) (k:Nat),Inv h x->x.sc=k->k<=x.queue.length->(zc0 h).length+1<=k+f->AllOK f x/\((allV f x).2=0->Inv h (allV f x).1)
 | 0,x,k,I,hk,hq,hf=>by have:=I.qlen;omega
 | f+1,x,k,I,hk,hq,hf=>by
  have hql:=I.qlen
  cases hA:x.queue[k]? with
  | none =>
   refine ⟨⟨k,hk,by omega,Or.inl hA⟩,fun _=>?_⟩
   rw [allV_end hk hA];exact I
  | some A =>
   have hAm:=List.mem_of_getElem? hA
   have hkl:=(List.getElem?_eq_some_iff.1 hA).1
   have hbd:=I.queue_bd hAm
   obtain ⟨s1,s2⟩:=st_ok (stL x A) x I hAm (fun i hi=>stL_in hi)
   have key:stE x A=0->Inv h (stW x A)/\(stW x A).sc=((k+1:Nat):Int)/\k+1<=(stW x A).queue.length:=fun he=>by
    obtain ⟨I2,L2⟩:=s2 he
    refine ⟨I2.reports _ _ _ _ _ _ _,?_,?_⟩
    · show wrap64 ((stGo x A (stL x A)).1.sc+1)=_
      rw [L2.sc,hk];unfold wrap64;omega
    · show k+1<=(stGo x A (stL x A)).1.queue.length
      obtain ⟨l,e⟩:=L2.qu
      rw [e,List.length_append];omega
   have hrec:=fun he:stE x A=0=>all_ok f (stW x A) (k+1) (key he).1 (key he).2.1 (key he).2.2 (by omega)
   refine ⟨⟨k,hk,by omega,Or.inr ⟨A,hA,by omega,by omega,I.fwok.wl,s1,fun he=>⟨(key he).2.1,(hrec he).1⟩⟩⟩,fun hz=>?_⟩
   rw [allV_go hk hA] at hz ⊢
   by_cases he:stE x A=0
   · rw [if_pos he] at hz ⊢;exact (hrec he).2 hz
   · rw [if_neg he] at hz;exact absurd hz he
theorem roots_ok {h:Hp}:∀ (rs:List Int) (x:Wk) (acc:List Int),Inv h x->(∀ r∈rs,0<=r/\r < 18446744073709551616)->RootsOK x rs/\((zg2 x acc rs).2.2=0->Inv h (zg2 x acc rs).1/\Later x (zg2 x acc rs).1/\(zg2 x acc rs).2.1.length=acc.length+rs.length)
 | [],x,acc,I,_=>⟨trivial,fun _=>⟨I,Later.refl x,rfl⟩⟩
 | r :: rs,x,acc,I,hl=>by
  have hrec:∀ he:evE x r=0,_:=fun he=>roots_ok rs (evW x r) (acc ++ [evA x r]) (I.forward he).1 (fun q hq=>hl q (List.mem_cons_of_mem _ hq))
  refine ⟨⟨I.fwok,hl r (List.mem_cons_self ..),fun he=>(hrec he).1⟩,fun hz=>?_⟩
  rw [zg2] at hz ⊢
  by_cases he:evE x r=0
  · rw [if_pos he] at hz ⊢
    obtain ⟨I2,L2,e2⟩:=(hrec he).2 hz
    refine ⟨I2,(I.forward he).2.trans L2,?_⟩
    rw [e2];simp only [List.length_append,List.length_cons,List.length_nil];omega
  · rw [if_neg he] at hz
    exact absurd hz he
theorem begin_inv {h:Hp} (h1:okH h=true):Inv h (zp1 h):=by
 refine ⟨h1,rfl,rfl,rfl,rfl,rfl,by show (List.map _ _).length=_;rw [List.length_map],fun t ht=>(by cases ht),fun k g0 hg hn=>?_,Nat.zero_le _,fun a ha=>Or.inl rfl,fun q hq=>(by cases hq),fun q hq=>(by cases hq),?_⟩
 · refine ⟨if g0.kind=1/\0 < g0.pins then ⟨g0.kind,1 - h.space,g0.used,g0.pins⟩ else g0,?_,?_,?_⟩
   · show (List.map _ _)[k]?=_;rw [List.getElem?_map,hg];rfl
   · split <;> rfl
   · split <;> rfl
 · show 0+_<=_
   have:=List.length_filter_le (zm1 (zp1 h)) (zc0 h)
   omega
theorem fillOne_same (x:Wk) (a:Int):(zc5 x a).h.pw=x.h.pw/\(zc5 x a).h.np=x.h.np/\(zc5 x a).h.pages=x.h.pages/\(zc5 x a).h.space=x.h.space/\(zc5 x a).taken=x.taken/\(zc5 x a).queue=x.queue/\(zc5 x a).old=x.old/\(zc5 x a).h.bump=x.h.bump:=by
 unfold zc5;split <;> exact ⟨rfl,rfl,rfl,rfl,rfl,rfl,rfl,rfl⟩
theorem fillB_one (x:Wk) (a b:Int):fillB (zc5 x a) b=fillB x b:=by
 obtain ⟨e1,e2,e3,e4,e5,e6,-,-⟩:=fillOne_same x a
 unfold fillB zi2
 rw [e1,e2,e3,e4,e5,e6]
theorem fill_len {h:Hp}:∀ (l:List Int) (x:Wk),l.Pairwise (fun a b=>a+osz h a<=b)->(∀ a∈l,a∈zc0 h)->x.h.words.length=h.words.length->(∀ a∈l,fillB x a=true->evWd x a=ze1 h.words a)->(l.foldl zc5 x).h.words.length=h.words.length
 | [],x,_,_,e,_=>e
 | a :: l,x,hp,hm,e,hev=>by
  obtain ⟨p1,p2⟩:=List.pairwise_cons.1 hp
  rw [List.foldl_cons]
  by_cases hb:fillB x a=true
  · have h1:=hev a (List.mem_cons_self ..) hb
    have ha:=hm a (List.mem_cons_self ..)
    obtain ⟨e1,e2,e3,-⟩:=old_ev ha h1
    obtain ⟨i,j,g,b⟩:=zf6 ha
    have hpos:=b.pos
    have hwl:=b.wl
    have hln:((fillL x a).length:Int)=osz h a:=by unfold fillL;rw [List.length_cons,List.length_replicate];omega
    have hok:okA x.h.words.length a (fillL x a).length=true:=zj5.2 (by omega)
    have hW:(zc5 x a).h.words=zc8 x.h.words a (fillL x a):=by unfold zc5;rw [if_pos hb]
    refine fill_len l _ p2 (fun c hc=>hm c (List.mem_cons_of_mem _ hc)) (by rw [hW,zy9 hok];exact e) (fun c hc hf=>?_)
    rw [fillB_one] at hf
    have h2:=hev c (List.mem_cons_of_mem _ hc) hf
    have h3:=p1 c hc
    rw [<-h2]
    unfold evWd
    rw [hW,zu7 hok (by omega)]
  · have hW:zc5 x a=x:=by unfold zc5;rw [if_neg hb]
    rw [hW]
    exact fill_len l x p2 (fun c hc=>hm c (List.mem_cons_of_mem _ hc)) e (fun c hc hf=>hev c (List.mem_cons_of_mem _ hc) hf)
theorem Inv.fill {h:Hp} {x:Wk} (I:Inv h x):(zh8 x).h.words.length=h.words.length:=by
 unfold zh8
 rw [I.old]
 refine fill_len _ x (ye3 h) (fun a ha=>ha) I.wl (fun a ha hf=>?_)
 unfold fillB at hf
 simp only [Bool.and_eq_true,Bool.not_eq_true',decide_eq_false_iff_not] at hf
 rcases I.un a ha with c | ⟨-,-,c3⟩
 · exact c
 · rw [I.pw,I.np] at hf
   rw [c3] at hf;exact absurd hf.1 (by decide)
end Go.Proofs.YtipjdbhocjpmdaaGreat
