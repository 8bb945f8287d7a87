import Derived.Test.YtipjdbhocjpmdaaGreatQ01
import Derived.Test.YtipjdbhocjpmdaaGreatQ13
import Derived.Test.YtipjdbhocjpmdaaGreatQ19
import Derived.Deep.DeepCutAuto
import Derived.Maps.RangeWalk
set_option linter.unusedSimpArgs false
set_option linter.unusedVariables false
set_option maxRecDepth 100000
set_option maxHeartbeats 12800000
namespace Go.Proofs.YtipjdbhocjpmdaaGreat
open Go.RowKit
theorem page_big (h:Hp) (p:Option Addr) (b off n c m d:Nat) (i:Nat) (w:World) (hs:SRow w .u64 p n c h.words) (hr:PRow w (some ⟨b,off,none⟩) m d h.pages) (hw:WB h.words) (h1:okH h=true)
 (him:i < m) (xs xu xp:Int) (hx:h.pages[i]?=some ⟨2,xs,xu,xp⟩) :
 Calls Tryz.prog 96 #[.agg #[.int .i64 h.pw,.int .i64 h.np,.slice p n c,.slice (some ⟨b,off,none⟩) m d,.int .i64 h.space,.int .i64 h.bump],.int .i64 i] w fun e w'=>RetS (zf4 h i) (zh0 h i) e w'/\Below w.heap.size w w':=by
 obtain ⟨i0,hin,hz0,hz1,hz2⟩:=info_parts zf2
 have hb0:Below w.heap.size w (w.alloc (.cells #[.int .i64 h.pw,.int .i64 h.np,.slice p n c,.slice (some ⟨b,off,none⟩) m d,.int .i64 h.space,.int .i64 h.bump] 27)):=za1
 have hp:=qq (zf7 (show ze8 h.pw h.np h.words.length h.pages h.space h.bump=true from h1) _ (hs.keep hb0) (hr.keep hb0))
 have Hx:=qq (Own6.new w (.int .i64 h.pw) (.int .i64 h.np) (.slice p n c) (.slice (some ⟨b,off,none⟩) m d) (.int .i64 h.space) (.int .i64 h.bump) 27)
 have HB:=qq hb0
 have hz:Hid (∀ w',Below w.heap.size w w'->w'.cell? ⟨b,off+i*4,none⟩=some (.int .i64 2)/\w'.cell? ⟨b,off+i*4+1,none⟩=some (.int .i64 xs)/\w'.cell? ⟨b,off+i*4+2,none⟩=some (.int .i64 xu)/\w'.cell? ⟨b,off+i*4+3,none⟩=some (.int .i64 xp)):=fun w' hb=>by
  obtain ⟨x',b',off',e1,e2,z⟩:=(hr.keep hb).at_ him
  simp at e2
  obtain ⟨rfl,rfl⟩:=e2
  obtain rfl:(⟨2,xs,xu,xp⟩:Pg)=x':=by rw [hx] at e1;exact Option.some.inj e1
  exact z
 have him2:(i:Int) < m:=by omega
 have hpa:pgAt h i=⟨2,xs,xu,xp⟩:=by unfold pgAt;rw [Int.toNat_natCast];exact zc6 hx
 have hir:¬((i:Int) < 0\/(h.pages.length:Int)<=i):=by rw [hr.len];omega
 have hk:¬((pgAt h i).kind=0\/(pgAt h i).kind=3):=by rw [hpa];show ¬((2:Int)=0\/(2:Int)=3);decide
 have hpw:zq1 h i=zg5 h i true xu.toNat 0:=by unfold zq1;rw [hpa];rfl
 have HY:=qq (fun l (hl:zg5 h i true xu.toNat 0=some l)=>page_some h1 hir hk (hpw.trans hl))
 have HN:=qq (fun (hl:zg5 h i true xu.toNat 0=none)=>page_fail h1 hir hk (hpw.trans hl))
 have hat:=qq (fun a w' (hb:Below w.heap.size w w') (ha:0<=a/\a < 18446744073709551616)=>yc4 h p (some ⟨b,off,none⟩) n c m d a w' (hs.keep hb) (hr.keep hb) hw ha.1 ha.2)
 have had:=qq (fun o w'=>zx5 h.pw h.np i o w')
 clear hs hr hw h1 hx hb0 hpa hir hk hpw
 go_enter Tryz.func96,Tryz.ntmps96
 go_wp2_with fail
 refine hp.out.mono ?_
 rintro e w1 ⟨rfl,hb1⟩
 have hw1:=qq (za3 HB.out hb1)
 obtain ⟨z0,z1,z2,z3⟩:=hz.out _ hw1.out
 have Hx1:=Hx.out.keep hb1
 have HX1:=qq Hx1
 obtain ⟨x0,x1,x2,x3,x4,x5,-,-,-,-,-,-⟩:=Hx1
 have lh:w.heap.size≠w1.heap.size:=Nat.ne_of_lt (zb4 x0)
 clear hp Hx HB hb1 hz
 go_wp2_with fail
 rename (0<=(i:Int)/\_)=>hh
 clear hh him him2
 go_loopw [7,8] (fun v j wr=>v = .slice none 0 0/\j = .int .i64 0/\Below (w1.alloc (.cells #[.int .i64 2,.int .i64 xs,.int .i64 xu,.int .i64 xp] 77)).heap.size (w1.alloc (.cells #[.int .i64 2,.int .i64 xs,.int .i64 xu,.int .i64 xp] 77)) wr) (fun _ j _=>0)
 case atStart=>exact ⟨rfl,rfl,Below.refl _ _⟩
 case round =>
  obtain ⟨rfl,rfl,hb⟩:=hrel
  have hown:=World.ownsRow_nil wr (w1.heap.size+1) 48 1
  have hwk:=zk0.start h i true xu.toNat
  have p0:=za5 (w:=w1) (cs:=#[.int .i64 2,.int .i64 xs,.int .i64 xu,.int .i64 xp]) hb 0 (v:=.int .i64 2) rfl
  have p2:=za5 (w:=w1) (cs:=#[.int .i64 2,.int .i64 xs,.int .i64 xu,.int .i64 xp]) hb 2 (v:=.int .i64 xu) rfl
  have hwr1:=za4 hb
  obtain ⟨x0,x1,x2,x3,x4,x5,-,-,-,-,-,-⟩:=HX1.out.keep hwr1
  have hwr:=za3 hw1.out hwr1
  by_cases hlt:0 < xu.toNat
  · have hlt2:0 < xu:=by omega
    have hA:=addr_bd h.pw h.np i 0
    have hadr:=qq (fun w'=>had.out 0 w')
    obtain ⟨A,hAn⟩:∃ A,Hid (zd4 h.pw h.np i 0=A):=⟨_,rfl⟩
    rw [hAn.out] at hA hadr
    have hatr:=qq (fun w' hb=>hat.out A w' hb hA)
    obtain ⟨K,hK⟩:∃ K,Hid ((atH h A).k=K):=⟨_,rfl⟩
    obtain ⟨N,hN⟩:∃ N,Hid ((atH h A).n=N):=⟨_,rfl⟩
    obtain ⟨M,hM⟩:∃ M,Hid ((atH h A).m=M):=⟨_,rfl⟩
    obtain ⟨E,hE⟩:∃ E,Hid (atE h A=E):=⟨_,rfl⟩
    rw [hK.out,hN.out,hM.out,hE.out] at hatr
    have HW:=qq hwk
    have Hown:=qq hown
    have Hb:=qq hb
    have Hwr:=qq hwr
    clear hwk hown hb hwr hwr1 had hat hA
    go_wp2_with fail
    refine (hadr.out _).mono ?_
    rintro e w2 ⟨rfl,hb2⟩
    have p0:=za0 hb2 p0
    have x0:=za0 hb2 x0
    have x1:=za0 hb2 x1
    have x2:=za0 hb2 x2
    have x3:=za0 hb2 x3
    have x4:=za0 hb2 x4
    have x5:=za0 hb2 x5
    have Hb2:=qq (za3 Hb.out hb2)
    have Hwr2:=qq (za3 Hwr.out hb2)
    have Hown2:=qq (zb5 Hown.out hb2)
    clear hb2 hadr Hb Hwr Hown
    go_wp2_with fail
    refine (hatr.out _ Hwr2.out).mono ?_
    rintro e w3 ⟨rfl,hb3⟩
    have p0:=za0 hb3 p0
    have Hb3:=qq (za3 Hb2.out hb3)
    have Hwr3:=qq (za3 Hwr2.out hb3)
    have hown3:=zb5 Hown2.out hb3
    have lp:w1.heap.size≠w3.heap.size:=Nat.ne_of_lt (zb4 p0)
    clear hb3 hatr Hb2 Hwr2 Hown2 x0 x1 x2 x3 x4 x5
    by_cases hE0:E=0
    · subst hE0
      obtain ⟨-,hv,hm0,hm1,hn0,hn1⟩:=at_in hE.out
      rw [hK.out,hN.out,hM.out] at hv
      rw [hM.out] at hm0 hm1
      rw [hN.out] at hn0 hn1
      obtain ⟨e1,e2⟩:=HY.out _ (HW.out.big hlt (show atE h (zd4 h.pw h.np i 0)=0 by rw [hAn.out];exact hE.out))
      rw [show zd4 h.pw h.np i ((0:Nat):Int)=A from hAn.out] at e2
      have E1:=qq e1
      have E2:=qq e2
      clear e1 e2
      have hsz3:=(za4 Hb3.out).size
      clear hv hm0 hm1
      go_wp2_with (at_builtin;refine wpList_append_own _ rfl _ _ 24 rfl (w1.heap.size+1) 48 i0 (.int .u64 0) 1 8 Tryz.underlying24 hin hz0 hz1 hz2 rfl (by decide) (.slice none 0 0) 0 [] rfl ((hown3.alloc _).alloc _) ⟨w3.heap.size+1,0,none⟩ 1 1 [.int .u64 A] rfl rfl ?c1 ?c2 ?c3 ?c4 ?c5 ?_)
      case c1=>simpa using cell_one_new (w3.alloc (.cells #[.int .i64 K,.int .i64 N,.int .u32 M] 54)) _ _
      case c2=>simp [Value.oneCell']
      case c3=>unfold maxLen;omega
      case c4=>omega
      case c5=>simp;omega
      intro v' w4 hown4 hgrow4 _
      have k0:w4.cell? ⟨w3.heap.size,0,none⟩=some (.int .i64 K):=hgrow4.cell (by simp) (fun e=>by have:=(hown3.lt _ e.symm).2;simp at this)
      have k1:w4.cell? ⟨w3.heap.size,1,none⟩=some (.int .i64 N):=hgrow4.cell (by simp) (fun e=>by have:=(hown3.lt _ e.symm).2;simp at this)
      have k2:w4.cell? ⟨w3.heap.size,2,none⟩=some (.int .u32 M):=hgrow4.cell (by simp) (fun e=>by have:=(hown3.lt _ e.symm).2;simp at this)
      have hb4:Below (w1.alloc (.cells #[.int .i64 2,.int .i64 xs,.int .i64 xu,.int .i64 xp] 77)).heap.size (w1.alloc (.cells #[.int .i64 2,.int .i64 xs,.int .i64 xu,.int .i64 xp] 77)) w4 :=
       (za3 (za3 Hb3.out za1) za1).grown hgrow4 (by have:=Hb3.out.size;simp at this ⊢;omega) (fun j hj=>by have:=(hown3.lt j hj).1;simpa using this)
      have p0:=za5 (w:=w1) (cs:=#[.int .i64 2,.int .i64 xs,.int .i64 xu,.int .i64 xp]) hb4 0 (v:=.int .i64 2) rfl
      have Hown4:=qq hown4
      have Hb4:=qq hb4
      clear hown4 hgrow4 hown3 hb4
      obtain ⟨q',k',rfl,hrow'⟩:=SRow.of_own (n:=0+1) (xs:=[] ++ [A]) Hown4.out
      have Hrow:=qq hrow'
      clear hrow' k0 k1 k2
      go_wp2
      go_ret2
      rw [E1.out,E2.out]
      exact ⟨⟨q',_,k',rfl,Hrow.out⟩,za3 hw1.out (za4 Hb4.out)⟩
    · have hne:(E != 0)=true:=bne_iff_ne.2 hE0
      have hE1:¬atE h (zd4 h.pw h.np i 0)=0:=by rw [hAn.out,hE.out];exact hE0
      obtain ⟨e1,e2⟩:=HN.out (HW.out.bad hlt hE1)
      have E1:=qq e1
      have E2:=qq e2
      clear hE1 e1 e2 hown3
      go_wp2
      go_ret2
      rw [E1.out,E2.out]
      exact ⟨RetS.nil _ _,za3 Hwr3.out za1⟩
  · obtain ⟨e1,e2⟩:=HY.out _ (hwk.fin hlt)
    have hlt2:¬0 < xu:=by omega
    have E1:=qq e1
    have E2:=qq e2
    clear hown e1 e2 hwk
    go_wp2
    go_ret2
    rw [E1.out,E2.out]
    exact ⟨RetS.nil _ _,hwr⟩
theorem page_isbad (h:Hp) (p q:Option Addr) (n c m d:Nat) (i:Int) (w:World) (hs:SRow w .u64 p n c h.words) (hr:PRow w q m d h.pages) (h1:okH h=false) :
 Calls Tryz.prog 96 #[.agg #[.int .i64 h.pw,.int .i64 h.np,.slice p n c,.slice q m d,.int .i64 h.space,.int .i64 h.bump],.int .i64 i] w fun e w'=>RetS (zf4 h i) (zh0 h i) e w'/\Below w.heap.size w w':=by
 have hb0:Below w.heap.size w (w.alloc (.cells #[.int .i64 h.pw,.int .i64 h.np,.slice p n c,.slice q m d,.int .i64 h.space,.int .i64 h.bump] 27)):=za1
 have hp:=qq (zf7 (show ze8 h.pw h.np h.words.length h.pages h.space h.bump=false from h1) _ (hs.keep hb0) (hr.keep hb0))
 have HB:=qq hb0
 obtain ⟨e1,e2⟩:=page_bad (i:=i) h1
 rw [e1,e2]
 clear hs hr h1 e1 e2 hb0
 go_enter Tryz.func96,Tryz.ntmps96
 go_wp2_with fail
 refine hp.out.mono ?_
 rintro e w1 ⟨rfl,hb1⟩
 have hw1:=qq (za3 HB.out hb1)
 clear hp HB hb1
 go_wp2
 go_ret2
 exact ⟨RetS.nil _ _,hw1.out⟩
theorem page_isout (h:Hp) (p q:Option Addr) (n c m d:Nat) (i:Int) (w:World) (hs:SRow w .u64 p n c h.words) (hr:PRow w q m d h.pages) (h1:okH h=true) (h2:i < 0\/h.pages.length<=i) :
 Calls Tryz.prog 96 #[.agg #[.int .i64 h.pw,.int .i64 h.np,.slice p n c,.slice q m d,.int .i64 h.space,.int .i64 h.bump],.int .i64 i] w fun e w'=>RetS (zf4 h i) (zh0 h i) e w'/\Below w.heap.size w w':=by
 have hb0:Below w.heap.size w (w.alloc (.cells #[.int .i64 h.pw,.int .i64 h.np,.slice p n c,.slice q m d,.int .i64 h.space,.int .i64 h.bump] 27)):=za1
 have hp:=qq (zf7 (show ze8 h.pw h.np h.words.length h.pages h.space h.bump=true from h1) _ (hs.keep hb0) (hr.keep hb0))
 have HB:=qq hb0
 have Hx:=qq (Own6.new w (.int .i64 h.pw) (.int .i64 h.np) (.slice p n c) (.slice q m d) (.int .i64 h.space) (.int .i64 h.bump) 27)
 obtain ⟨e1,e2⟩:=page_out (i:=i) h1 h2
 rw [e1,e2]
 rw [hr.len] at h2
 clear hs hr h1 e1 e2 hb0
 by_cases hi:i < 0
 · clear h2
   go_enter Tryz.func96,Tryz.ntmps96
   go_wp2_with fail
   refine hp.out.mono ?_
   rintro e w1 ⟨rfl,hb1⟩
   have hw1:=qq (za3 HB.out hb1)
   clear hp HB hb1 Hx
   go_wp2
   go_ret2
   exact ⟨RetS.nil _ _,hw1.out⟩
 · have h3:(m:Int)<=i:=by omega
   clear h2
   go_enter Tryz.func96,Tryz.ntmps96
   go_wp2_with fail
   refine hp.out.mono ?_
   rintro e w1 ⟨rfl,hb1⟩
   have hw1:=qq (za3 HB.out hb1)
   obtain ⟨x0,x1,x2,x3,x4,x5,-,-,-,-,-,-⟩:=Hx.out.keep hb1
   clear hp HB hb1 Hx
   go_wp2
   go_ret2
   exact ⟨RetS.nil _ _,hw1.out⟩
theorem page_isnone (h:Hp) (p:Option Addr) (b off n c m d:Nat) (i:Nat) (w:World) (hs:SRow w .u64 p n c h.words) (hr:PRow w (some ⟨b,off,none⟩) m d h.pages) (h1:okH h=true)
 (him:i < m) (xk xs xu xp:Int) (hx:h.pages[i]?=some ⟨xk,xs,xu,xp⟩) (hk:xk=0\/xk=3) :
 Calls Tryz.prog 96 #[.agg #[.int .i64 h.pw,.int .i64 h.np,.slice p n c,.slice (some ⟨b,off,none⟩) m d,.int .i64 h.space,.int .i64 h.bump],.int .i64 i] w fun e w'=>RetS (zf4 h i) (zh0 h i) e w'/\Below w.heap.size w w':=by
 have hb0:Below w.heap.size w (w.alloc (.cells #[.int .i64 h.pw,.int .i64 h.np,.slice p n c,.slice (some ⟨b,off,none⟩) m d,.int .i64 h.space,.int .i64 h.bump] 27)):=za1
 have hp:=qq (zf7 (show ze8 h.pw h.np h.words.length h.pages h.space h.bump=true from h1) _ (hs.keep hb0) (hr.keep hb0))
 have HB:=qq hb0
 have Hx:=qq (Own6.new w (.int .i64 h.pw) (.int .i64 h.np) (.slice p n c) (.slice (some ⟨b,off,none⟩) m d) (.int .i64 h.space) (.int .i64 h.bump) 27)
 have hz:Hid (∀ w',Below w.heap.size w w'->w'.cell? ⟨b,off+i*4,none⟩=some (.int .i64 xk)/\w'.cell? ⟨b,off+i*4+1,none⟩=some (.int .i64 xs)/\w'.cell? ⟨b,off+i*4+2,none⟩=some (.int .i64 xu)/\w'.cell? ⟨b,off+i*4+3,none⟩=some (.int .i64 xp)):=fun w' hb=>by
  obtain ⟨x',b',off',e1,e2,z⟩:=(hr.keep hb).at_ him
  simp at e2
  obtain ⟨rfl,rfl⟩:=e2
  obtain rfl:(⟨xk,xs,xu,xp⟩:Pg)=x':=by rw [hx] at e1;exact Option.some.inj e1
  exact z
 have him2:(i:Int) < m:=by omega
 have hpa:pgAt h i=⟨xk,xs,xu,xp⟩:=by unfold pgAt;rw [Int.toNat_natCast];exact zc6 hx
 have hir:¬((i:Int) < 0\/(h.pages.length:Int)<=i):=by rw [hr.len];omega
 obtain ⟨e1,e2⟩:=page_none h1 hir (by rw [hpa];exact hk)
 rw [e1,e2]
 clear hs hr h1 e1 e2 hb0 hpa hir hx
 rcases hk with rfl | rfl
 all_goals
  go_enter Tryz.func96,Tryz.ntmps96
  go_wp2_with fail
  refine hp.out.mono ?_
  rintro e w1 ⟨rfl,hb1⟩
  have hw1:=qq (za3 HB.out hb1)
  obtain ⟨z0,z1,z2,z3⟩:=hz.out _ hw1.out
  obtain ⟨x0,x1,x2,x3,x4,x5,-,-,-,-,-,-⟩:=Hx.out.keep hb1
  have lh:w.heap.size≠w1.heap.size:=Nat.ne_of_lt (zb4 x0)
  clear hp HB hb1 Hx hz
  go_wp2
  go_ret2
  exact ⟨RetS.nil _ _,za3 hw1.out za1⟩
theorem yd5 {u:Value} {h:Hp} (i:Int) (w:World) (hu:HV w u h) :
 Calls Tryz.prog 96 #[u,.int .i64 i] w fun e w'=>RetS (zf4 h i) (zh0 h i) e w'/\Below w.heap.size w w':=by
 obtain ⟨p,n,c,q,m,d,rfl,hs,hr,hw⟩:=hu
 cases h1:okH h
 · exact page_isbad h p q n c m d i w hs hr h1
 · by_cases h2:i < 0\/h.pages.length<=i
   · exact page_isout h p q n c m d i w hs hr h1 h2
   · obtain ⟨i,rfl⟩:=Int.eq_ofNat_of_zero_le (show 0<=i by omega)
     have him:i < m:=by have:=hr.len;omega
     obtain ⟨⟨xk,xs,xu,xp⟩,b,off,hx,rfl,-⟩:=hr.at_ him
     obtain ⟨-,-,-,-,-,-,hL⟩:=zc2 h1
     obtain ⟨-,-,-,-,-,k1,-,-,hk⟩:=zn2 _ _ _ _ hL _ (List.mem_of_getElem? hx)
     simp only [] at k1 hk
     rcases hk with rfl | rfl | rfl | rfl
     · exact page_isnone h p b off n c m d i w hs hr h1 him _ _ _ _ hx (Or.inl rfl)
     · exact page_small h p b off n c m d i w hs hr hw h1 him _ _ _ hx (k1 rfl).2
     · exact page_big h p b off n c m d i w hs hr hw h1 him _ _ _ hx
     · exact page_isnone h p b off n c m d i w hs hr h1 him _ _ _ _ hx (Or.inr rfl)
theorem ya3 (p:Option Addr) (n cap:Nat) (xs:List Int) (v:Int) (w:World) (hr:SRow w .u64 p n cap xs) :
 Calls Tryz.prog 137 #[.slice p n cap,.int .u64 v] w fun e w'=>e = .returned (.bool (decide (v∈xs)))/\Below w.heap.size w w':=by
 have Hs:=qq hr
 have hl:=hr.i63.2
 clear hr
 go_enter Tryz.func137,Tryz.ntmps137
 go_wp2
 go_loopw [5] (fun i wr=>∃ k:Nat,k<=n/\i = .int .i64 k/\(∀ j,j < k->xs[j]?≠some v)/\Below w.heap.size w wr) (fun i _=>n - (intOf i).toNat)
 case atStart=>exact ⟨0,by omega,rfl,fun j hj=>by omega,Below.refl _ _⟩
 case round =>
  obtain ⟨k,hk,rfl,hno,hb⟩:=hrel
  have HN:=qq hno
  clear hno
  by_cases hlt:k < n
  · obtain ⟨x,b,off,hx,rfl,d0⟩:=(Hs.out.keep hb).at_ hlt
    have HX:=qq hx
    have hlt2:(k:Int) < n:=by omega
    clear hx
    by_cases he:x=v
    · subst he
      go_wp2
      go_ret
      exact ⟨by rw [decide_eq_true (List.mem_of_getElem? HX.out)];rfl,hb⟩
    · have hd:(x == v)=false:=beq_eq_false_iff_ne.2 he
      have HE:=qq he
      clear he
      go_wp2
      go_roundw
      case rel =>
       refine ⟨k+1,by omega,by go_num,fun j hj=>?_,hb⟩
       by_cases hjk:j < k
       · exact HN.out j hjk
       · obtain rfl:j=k:=by omega
         rw [HX.out];intro e;exact HE.out (Option.some.inj e)
      case measure=>simp [intOf];omega
  · go_wp2
    go_ret
    refine ⟨?_,hb⟩
    have hno:¬v∈xs:=?_
    · rw [decide_eq_false hno];rfl
    intro hm
    obtain ⟨j,hj⟩:=List.mem_iff_getElem?.1 hm
    have hjl:j < n:=by rw [<-Hs.out.len];exact (List.getElem?_eq_some_iff.1 hj).1
    exact HN.out j (by omega) hj
def pageX (h:Hp) (i o:Int):Int:=ze1 h.words (zd4 h.pw h.np i o)
theorem refword_any (h:Hp) (p q:Option Addr) (n c m d:Nat) (i o:Int) (w:World) (hs:SRow w .u64 p n c h.words) (h1:okH h=true) :
 Calls Tryz.prog 160 #[.agg #[.int .i64 h.pw,.int .i64 h.np,.slice p n c,.slice q m d,.int .i64 h.space,.int .i64 h.bump],.int .i64 i,.int .i64 o] w fun e w'=>e = .returned (.int .u64 (pageX h i o))/\Below w.heap.size w w':=by
 have hn6:n<=1000000:=by obtain ⟨k1,k2,_⟩:=zc2 h1;have:=(zd6 k1).2;rw [hs.len] at k2;omega
 have Hx:=qq (Own6.new w (.int .i64 h.pw) (.int .i64 h.np) (.slice p n c) (.slice q m d) (.int .i64 h.space) (.int .i64 h.bump) 27)
 have Hs:=qq hs
 have hA:=addr_bd h.pw h.np i o
 have had:=qq (fun w'=>zx5 h.pw h.np i o w')
 have hX:Hid (pageX h i o=ze1 h.words (zd4 h.pw h.np i o)):=rfl
 obtain ⟨A,hAn⟩:∃ A,Hid (zd4 h.pw h.np i o=A):=⟨_,rfl⟩
 rw [hAn.out] at hA had hX
 have hld:=qq (fun w' (hs:SRow w' .u64 p n c h.words)=>zd9 p n c h.words A w' hs (by omega) hA.1 hA.2)
 clear hs h1 hA
 go_enter Tryz.func160,Tryz.ntmps160
 go_wp2_with fail
 refine (had.out _).mono ?_
 rintro e w1 ⟨rfl,hb1⟩
 have hw1:=qq (za3 za1 hb1)
 obtain ⟨x0,x1,x2,x3,x4,x5,-,-,-,-,-,-⟩:=Hx.out.keep hb1
 clear had Hx hb1
 go_wp2_with fail
 refine (hld.out _ (Hs.out.keep hw1.out)).mono ?_
 rintro e w' ⟨rfl,rfl⟩
 go_wp2
 go_ret
 exact ⟨by rw [hX.out];rfl,hw1.out⟩
theorem refWord_any (h:Hp) (p q:Option Addr) (n c m d:Nat) (i o:Int) (w:World) (hs:SRow w .u64 p n c h.words) (h1:okH h=true) :
 Calls Tryz.prog 158 #[.agg #[.int .i64 h.pw,.int .i64 h.np,.slice p n c,.slice q m d,.int .i64 h.space,.int .i64 h.bump],.int .i64 i,.int .i64 o] w fun e w'=>e = .returned (.int .u64 (pageX h i o))/\Below w.heap.size w w':=by
 have hc:=qq (fun w' (hs:SRow w' .u64 p n c h.words)=>refword_any h p q n c m d i o w' hs h1)
 have Hs:=qq (hs.keep (za1 (o:=.cells #[.int .i64 h.pw,.int .i64 h.np,.slice p n c,.slice q m d,.int .i64 h.space,.int .i64 h.bump] 27)))
 clear hs h1
 go_enter Tryz.func158,Tryz.ntmps158
 go_wp2_with fail
 refine (hc.out _ Hs.out).mono ?_
 rintro e w1 ⟨rfl,hb1⟩
 have hw1:=qq (za3 za1 hb1)
 clear hc Hs hb1
 go_wp2
 go_ret
 exact ⟨rfl,hw1.out⟩
theorem walk_len (h:Hp) (i:Int) (u:Nat):∀ (f o:Nat) (l:List Int),u - o<=f->zg5 h i false u o=some l->l.length<=u - o
 | 0,o,l,hf,hl=>by
  rw [zp5 (by omega)] at hl;cases hl;simp
 | f+1,o,l,hf,hl=>by
  by_cases hlt:o < u
  · by_cases e:atE h (zd4 h.pw h.np i o)=0
    · rw [zy8 hlt e] at hl
      cases hr:zg5 h i false u (o+((atH h (zd4 h.pw h.np i o)).n.toNat+1)) with
      | none=>rw [hr] at hl;cases hl
      | some r =>
       rw [hr] at hl;cases hl
       have:=walk_len h i u f _ r (by omega) hr
       rw [List.length_cons];omega
    · rw [zv7 hlt e] at hl;cases hl
  · rw [zp5 hlt] at hl;cases hl;simp
theorem pageV_len {h:Hp} {i:Int} (h1:okH h=true):(zf4 h i).length<=64:=by
 by_cases h2:i < 0\/h.pages.length<=i
 · rw [(page_out h1 h2).2];simp
 · by_cases h3:(pgAt h i).kind=0\/(pgAt h i).kind=3
   · rw [(page_none h1 h2 h3).2];simp
   · rw [(yc6 h1 h2 h3).2]
     cases hw:zq1 h i with
     | none=>simp
     | some l =>
      rw [Option.getD_some]
      unfold zq1 at hw
      by_cases h4:(pgAt h i).kind=2
      · rw [decide_eq_true h4] at hw
        by_cases hlt:0 < (pgAt h i).used.toNat
        · by_cases e:atE h (zd4 h.pw h.np i ((0:Nat):Int))=0
          · rw [yb7 hlt e] at hw;cases hw;simp
          · rw [zv7 hlt e] at hw;cases hw
        · rw [zp5 hlt] at hw;cases hw;simp
      · rw [decide_eq_false h4] at hw
        have hlen:=walk_len h i _ _ _ _ (Nat.le_refl _) hw
        obtain ⟨g1,-,-,-,-,-,hL⟩:=zc2 h1
        have hpw:=(zb1 g1).2.1
        have hil:i.toNat < h.pages.length:=by omega
        have hmem:pgAt h i∈h.pages:=by
         unfold pgAt;rw [zc6 (List.getElem?_eq_getElem hil)];exact List.getElem_mem hil
        obtain ⟨-,-,-,-,-,k1,-,-,hk⟩:=zn2 _ _ _ _ hL _ hmem
        have:=k1 (by omega)
        omega
theorem pageE_one {h:Hp} {i:Int} (h1:okH h=true) (h2:¬(i < 0\/h.pages.length<=i)) (h3:¬zh0 h i=0):zh0 h i=19:=by
 unfold zh0 at h3 ⊢
 rw [if_pos h1,if_neg h2] at h3 ⊢
 split at h3
 · exact absurd rfl h3
 · rename_i h4
   rw [if_neg h4]
   split at h3
   · exact absurd rfl h3
   · rename_i h5;rw [if_neg h5]
def zk1 (h:Hp) (k:Nat):List Int:=(List.range k).flatMap (fun (j:Nat)=>zf4 h j)
def startsB (h:Hp):Bool:=(List.range h.pages.length).all (fun (j:Nat)=>decide (zh0 h j=0))
def zl8 (h:Hp):Int:=if okH h then (if startsB h then 0 else 19) else 1
def zi5 (h:Hp):List Int:=if okH h then (if startsB h then zk1 h h.pages.length else []) else []
theorem starts_bad {h:Hp} (h1:okH h=false):zl8 h=1/\zi5 h=[]:=by
 unfold zl8 zi5;rw [if_neg (by simp [h1]),if_neg (by simp [h1])];exact ⟨rfl,rfl⟩
theorem starts_no {h:Hp} {k:Nat} (h1:okH h=true) (hk:k < h.pages.length) (h2:¬zh0 h k=0):zl8 h=19/\zi5 h=[]:=by
 have hB:startsB h=false:=by
  rw [<-Bool.not_eq_true];intro c
  unfold startsB at c
  exact h2 (of_decide_eq_true (List.all_eq_true.1 c k (List.mem_range.2 hk)))
 unfold zl8 zi5;rw [if_pos h1,if_pos h1,if_neg (by simp [hB]),if_neg (by simp [hB])];exact ⟨rfl,rfl⟩
theorem starts_ok {h:Hp} (h1:okH h=true) (h2:∀ k:Nat,k < h.pages.length->zh0 h k=0):zl8 h=0/\zi5 h=zk1 h h.pages.length:=by
 have hB:startsB h=true:=by
  unfold startsB
  exact List.all_eq_true.2 fun j hj=>decide_eq_true (h2 j (List.mem_range.1 hj))
 unfold zl8 zi5;rw [if_pos h1,if_pos h1,if_pos hB,if_pos hB];exact ⟨rfl,rfl⟩
theorem zz2 (h:Hp) (k:Nat):zk1 h (k+1)=zk1 h k ++ zf4 h k:=by
 unfold zk1;rw [List.range_succ,List.flatMap_append];simp
theorem yb8 {h:Hp} (h1:okH h=true):∀ k,(zk1 h k).length<=64*k
 | 0=>by simp [zk1]
 | k+1=>by
  rw [zz2,List.length_append]
  have:=yb8 h1 k
  have:=pageV_len (i:=k) h1
  omega
theorem starts_isbad (h:Hp) (p q:Option Addr) (n c m d:Nat) (w:World) (hs:SRow w .u64 p n c h.words) (hr:PRow w q m d h.pages) (h1:okH h=false) :
 Calls Tryz.prog 64 #[.agg #[.int .i64 h.pw,.int .i64 h.np,.slice p n c,.slice q m d,.int .i64 h.space,.int .i64 h.bump]] w fun e w'=>RetS (zi5 h) (zl8 h) e w'/\Below w.heap.size w w':=by
 have hb0:Below w.heap.size w (w.alloc (.cells #[.int .i64 h.pw,.int .i64 h.np,.slice p n c,.slice q m d,.int .i64 h.space,.int .i64 h.bump] 27)):=za1
 have hp:=qq (zf7 (show ze8 h.pw h.np h.words.length h.pages h.space h.bump=false from h1) _ (hs.keep hb0) (hr.keep hb0))
 have HB:=qq hb0
 obtain ⟨e1,e2⟩:=starts_bad h1
 rw [e1,e2]
 clear hs hr h1 e1 e2 hb0
 go_enter Tryz.func64,Tryz.ntmps64
 go_wp2_with fail
 refine hp.out.mono ?_
 rintro e w1 ⟨rfl,hb1⟩
 have hw1:=qq (za3 HB.out hb1)
 clear hp HB hb1
 go_wp2
 go_ret2
 exact ⟨RetS.nil _ _,hw1.out⟩
theorem starts_isok (h:Hp) (p q:Option Addr) (n c m d:Nat) (w:World) (hs:SRow w .u64 p n c h.words) (hr:PRow w q m d h.pages) (hw:WB h.words) (h1:okH h=true) :
 Calls Tryz.prog 64 #[.agg #[.int .i64 h.pw,.int .i64 h.np,.slice p n c,.slice q m d,.int .i64 h.space,.int .i64 h.bump]] w fun e w'=>RetS (zi5 h) (zl8 h) e w'/\Below w.heap.size w w':=by
 obtain ⟨i0,hin,hz0,hz1,hz2⟩:=info_parts zf2
 have hb0:Below w.heap.size w (w.alloc (.cells #[.int .i64 h.pw,.int .i64 h.np,.slice p n c,.slice q m d,.int .i64 h.space,.int .i64 h.bump] 27)):=za1
 have hp:=qq (zf7 (show ze8 h.pw h.np h.words.length h.pages h.space h.bump=true from h1) _ (hs.keep hb0) (hr.keep hb0))
 have HB:=qq hb0
 have Hx:=qq (Own6.new w (.int .i64 h.pw) (.int .i64 h.np) (.slice p n c) (.slice q m d) (.int .i64 h.space) (.int .i64 h.bump) 27)
 have hl:=hr.len
 have hm64:m<=64:=by obtain ⟨g1,_,g3,_⟩:=zc2 h1;have:=(zb1 g1).2.2.2.2;omega
 have hpg:=qq (fun (i:Int) w' (hb:Below w.heap.size w w')=>yd5 i w' (⟨p,n,c,q,m,d,rfl,hs.keep hb,hr.keep hb,hw⟩:HV w' (.agg #[.int .i64 h.pw,.int .i64 h.np,.slice p n c,.slice q m d,.int .i64 h.space,.int .i64 h.bump]) h))
 have HNO:=qq (fun (k:Nat) (hk:k < m) (h2:¬zh0 h k=0)=>And.intro (pageE_one h1 (show ¬((k:Int) < 0\/(h.pages.length:Int)<=k) by omega) h2) (starts_no h1 (by omega) h2))
 have HOK:=qq (fun (h2:∀ k:Nat,k < m->zh0 h k=0)=>starts_ok h1 (fun k hk=>h2 k (by omega)))
 have HTL:=qq (fun k=>yb8 h1 k)
 have HPL:=qq (fun (k:Nat)=>pageV_len (i:=k) h1)
 have HL:=qq hl
 clear hs hr h1 hw hb0 hl
 go_enter Tryz.func64,Tryz.ntmps64
 go_wp2_with fail
 refine hp.out.mono ?_
 rintro e w1 ⟨rfl,hb1⟩
 have hw1:=qq (za3 HB.out hb1)
 have HX1:=qq (Hx.out.keep hb1)
 clear hp HB hb1 Hx
 go_wp2_with fail
 go_loopw [4,5] (fun v j wr=>∃ (k:Nat),k<=m/\wr.ownsRow w1.heap.size 48 1 v (zk1 h k).length (zb2 .u64 (zk1 h k))/\j = .int .i64 k/\(∀ j:Nat,j < k->zh0 h j=0)/\Below w1.heap.size w1 wr) (fun _ j _=>m - (intOf j).toNat)
 case atStart=>exact ⟨0,by omega,World.ownsRow_nil _ _ _ _,rfl,fun j hj=>by omega,Below.refl _ _⟩
 case round =>
  obtain ⟨k,hk,hown,rfl,hgd,hb⟩:=hrel
  obtain ⟨x0,x1,x2,x3,x4,x5,-,-,-,-,-,-⟩:=HX1.out.keep hb
  have HGD:=qq hgd
  have Hwr:=qq (za3 hw1.out hb)
  clear hgd
  by_cases hlt:k < m
  · have hlt2:(k:Int) < m:=by omega
    have hpk:=qq (hpg.out k _ Hwr.out)
    have hsu:=qq (zz2 h k)
    have hl1:=HTL.out k
    have hl2:=HPL.out k
    obtain ⟨T,hT⟩:∃ T,Hid (zk1 h k=T):=⟨_,rfl⟩
    obtain ⟨V,hV⟩:∃ V,Hid (zf4 h k=V):=⟨_,rfl⟩
    rw [hT.out] at hown hl1 hsu
    rw [hV.out] at hl2 hsu hpk
    have Hown:=qq hown
    have Hb:=qq hb
    clear hown hb
    by_cases hE:zh0 h k=0
    · have HE:=qq hE
      rw [hE] at hpk
      clear hE
      go_wp2_with fail
      refine hpk.out.mono ?_
      rintro e w2 ⟨⟨q',m',c',rfl,hrow⟩,hb2⟩
      have Hrow:=qq hrow
      have hml:m'<=64:=by rw [<-hrow.len];exact hl2
      have Hb2:=qq (za3 Hb.out hb2)
      have hown2:=zb5 Hown.out hb2
      have hsz:=Hb2.out.size
      clear hpk hb2 hrow Hown Hb x0 x1 x2 x3 x4 x5
      go_wp2_with (at_builtin;refine zd7 rfl _ _ 24 rfl w1.heap.size 48 i0 (.int .u64 0) 8 Tryz.underlying24 hin hz0 hz1 hz2 rfl _ _ _ rfl hown2 q' m' c' .u64 V rfl Hrow.out ?c3 ?c4 ?c5 ?_)
      case c3=>unfold maxLen;omega
      case c4=>omega
      case c5=>exact hsz
      intro v' w4 hown4 hgrow4
      have hb4:Below w1.heap.size w1 w4:=Hb2.out.grown hgrow4 hsz (fun j hj=>(hown2.lt j hj).1)
      rw [ze4] at hown4
      have Hown4:=qq hown4
      have Hb4:=qq hb4
      have hml2:=qq Hrow.out.len
      clear hown4 hgrow4 hown2 hb4
      go_wp2
      go_roundw
      case rel =>
       refine ⟨k+1,by omega,?_,by go_num,fun j hj=>?_,Hb4.out⟩
       · rw [hsu.out,List.length_append,hml2.out];exact Hown4.out
       · by_cases hjk:j < k
         · exact HGD.out j hjk
         · obtain rfl:j=k:=by omega
           exact HE.out
      case measure=>simp [intOf];omega
    · obtain ⟨e0,e1,e2⟩:=HNO.out k hlt hE
      have E1:=qq e1
      have E2:=qq e2
      rw [e0] at hpk
      clear hE e0 e1 e2
      go_wp2_with fail
      refine hpk.out.mono ?_
      rintro e w2 ⟨⟨q',m',c',rfl,hrow⟩,hb2⟩
      have Hw2:=qq (za3 Hwr.out hb2)
      clear hpk hb2 hrow Hown Hb x0 x1 x2 x3 x4 x5
      go_wp2
      go_ret2
      rw [E1.out,E2.out]
      exact ⟨RetS.nil _ _,Hw2.out⟩
  · obtain rfl:k=m:=by omega
    obtain ⟨e1,e2⟩:=HOK.out HGD.out
    rw [HL.out] at e2
    have E1:=qq e1
    have E2:=qq e2
    obtain ⟨q',c',rfl,hrow⟩:=SRow.of_own hown
    have Hrow:=qq hrow
    clear hown hrow e1 e2 hb
    go_wp2
    go_ret2
    rw [E1.out,E2.out]
    exact ⟨⟨q',_,c',rfl,Hrow.out⟩,Hwr.out⟩
theorem refStarts_val {u:Value} {h:Hp} (w:World) (hu:HV w u h) :
 Calls Tryz.prog 64 #[u] w fun e w'=>RetS (zi5 h) (zl8 h) e w'/\Below w.heap.size w w':=by
 obtain ⟨p,n,c,q,m,d,rfl,hs,hr,hw⟩:=hu
 cases h1:okH h
 · exact starts_isbad h p q n c m d w hs hr h1
 · exact starts_isok h p q n c m d w hs hr hw h1
theorem walk_wb (h:Hp) (i:Int) (big:Bool) (u:Nat):∀ (f o:Nat) (l:List Int),u - o<=f->zg5 h i big u o=some l->WB l
 | 0,o,l,hf,hl=>by
  rw [zp5 (by omega)] at hl;cases hl;exact WB.nil
 | f+1,o,l,hf,hl=>by
  by_cases hlt:o < u
  · by_cases e:atE h (zd4 h.pw h.np i o)=0
    · cases big
      · rw [zy8 hlt e] at hl
        cases hr:zg5 h i false u (o+((atH h (zd4 h.pw h.np i o)).n.toNat+1)) with
        | none=>rw [hr] at hl;cases hl
        | some r =>
         rw [hr] at hl;cases hl
         intro x hx
         rcases List.mem_cons.1 hx with rfl | hx
         · exact addr_bd _ _ _ _
         · exact walk_wb h i false u f _ r (by omega) hr x hx
      · rw [yb7 hlt e] at hl;cases hl
        intro x hx
        rw [List.mem_singleton.1 hx];exact addr_bd _ _ _ _
    · rw [zv7 hlt e] at hl;cases hl
  · rw [zp5 hlt] at hl;cases hl;exact WB.nil
theorem pageV_wb (h:Hp) (i:Int):WB (zf4 h i):=by
 unfold zf4
 split
 · split
   · exact WB.nil
   · split
     · exact WB.nil
     · cases hw:zq1 h i with
       | none=>exact WB.nil
       | some l=>exact walk_wb h i _ _ _ _ l (Nat.le_refl _) hw
 · exact WB.nil
theorem startsV_wb (h:Hp):WB (zi5 h):=by
 unfold zi5
 split
 · split
   · intro x hx
     obtain ⟨j,-,hj⟩:=List.mem_flatMap.1 hx
     exact pageV_wb h j x hj
   · exact WB.nil
 · exact WB.nil
theorem yd6 (h:Hp):(zi5 h).length<=4096:=by
 unfold zi5
 split
 · rename_i h1
   split
   · have:=yb8 h1 h.pages.length
     obtain ⟨g1,_,g3,_⟩:=zc2 h1
     have:=(zb1 g1).2.2.2.2
     omega
   · simp
 · simp
def zm3 (h:Hp) (l:List Int):List Int:=l.filter (fun a=>decide (¬(atH h a).k=0))
def zc0 (h:Hp):List Int:=zm3 h (zi5 h)
theorem objs_in {h:Hp} {l:List Int} {k:Nat} {x:Int} (hx:l[k]?=some x) (hk:¬(atH h x).k=0):zm3 h (l.take (k+1))=zm3 h (l.take k) ++ [x]:=by
 unfold zm3;rw [zi9 hx,List.filter_append];simp [hk]
theorem objs_out {h:Hp} {l:List Int} {k:Nat} {x:Int} (hx:l[k]?=some x) (hk:(atH h x).k=0):zm3 h (l.take (k+1))=zm3 h (l.take k):=by
 unfold zm3;rw [zi9 hx,List.filter_append];simp [hk]
theorem objs_len (h:Hp) (l:List Int) (k:Nat):(zm3 h (l.take k)).length<=l.length:=by
 unfold zm3
 exact Nat.le_trans (List.length_filter_le _ _) (by rw [List.length_take];omega)
theorem refAt_val {u:Value} {h:Hp} (a:Int) (w:World) (hu:HV w u h) (ha:0<=a) (ha2:a < 18446744073709551616) :
 Calls Tryz.prog 26 #[u,.int .u64 a] w fun e w'=>e = .returned (.tuple #[.agg #[.int .i64 (atH h a).k,.int .i64 (atH h a).n,.int .u32 (atH h a).m],.int .i64 (atE h a)])/\Below w.heap.size w w':=by
 obtain ⟨p,n,c,q,m,d,rfl,hs,hr,hw⟩:=hu
 exact yc4 h p q n c m d a w hs hr hw ha ha2
theorem Own3.set3 {w:World} {b:Nat} {y0 y1 y2:Value} (h:Own3 w b y0 y1 y2) (x0 x1 x2:Value):Own3 (((w.setCell ⟨b,0,none⟩ x0).setCell ⟨b,1,none⟩ x1).setCell ⟨b,2,none⟩ x2) b x0 x1 x2:=by
 obtain ⟨c0,c1,c2,f0,f1,f2⟩:=h
 constructor <;> simp [go_sem,c0,c1,c2,f0,f1,f2]
theorem keep8 {w0 w w':World} {a0 a1 a2 a3 a4 a5 a6:Addr} {v0 v1 v2 v3 v4 v5 v6:Value} (h:w.cell? a0=some v0/\w.cell? a1=some v1/\w.cell? a2=some v2/\w.cell? a3=some v3/\w.cell? a4=some v4/\w.cell? a5=some v5/\w.cell? a6=some v6/\Below w0.heap.size w0 w) (hb:Below w.heap.size w w') :
 w'.cell? a0=some v0/\w'.cell? a1=some v1/\w'.cell? a2=some v2/\w'.cell? a3=some v3/\w'.cell? a4=some v4/\w'.cell? a5=some v5/\w'.cell? a6=some v6/\Below w0.heap.size w0 w':=by
 obtain ⟨h0,h1,h2,h3,h4,h5,h6,h7⟩:=h
 exact ⟨za0 hb h0,za0 hb h1,za0 hb h2,za0 hb h3,za0 hb h4,za0 hb h5,za0 hb h6,za3 h7 hb⟩
theorem zx8 {u:Value} {h:Hp} (w:World) (hu:HV w u h) :
 Calls Tryz.prog 136 #[u] w fun e w'=>RetS (zc0 h) (zl8 h) e w'/\Below w.heap.size w w':=by
 obtain ⟨p,n,c,q,m,d,rfl,hs,hr,hwb⟩:=hu
 obtain ⟨i0,hin,hz0,hz1,hz2⟩:=info_parts zf2
 have hb0:Below w.heap.size w (w.alloc (.cells #[.int .i64 h.pw,.int .i64 h.np,.slice p n c,.slice q m d,.int .i64 h.space,.int .i64 h.bump] 27)):=za1
 have hst:=qq (refStarts_val (h:=h) _ ⟨p,n,c,q,m,d,rfl,hs.keep hb0,hr.keep hb0,hwb⟩)
 have Hx:=qq (Own6.new w (.int .i64 h.pw) (.int .i64 h.np) (.slice p n c) (.slice q m d) (.int .i64 h.space) (.int .i64 h.bump) 27)
 have hatG:=qq (fun (a:Int) w' (hb:Below w.heap.size w w') (h1:0<=a) (h2:a < 18446744073709551616)=>refAt_val a w' (⟨p,n,c,q,m,d,rfl,hs.keep hb,hr.keep hb,hwb⟩:HV w' (.agg #[.int .i64 h.pw,.int .i64 h.np,.slice p n c,.slice q m d,.int .i64 h.space,.int .i64 h.bump]) h) h1 h2)
 have HWB:=qq (startsV_wb h)
 have HLEN:=qq (yd6 h)
 have HB:=qq hb0
 obtain ⟨E,hE⟩:∃ E,Hid (zl8 h=E):=⟨_,rfl⟩
 obtain ⟨ls,hls⟩:∃ ls,Hid (zi5 h=ls):=⟨_,rfl⟩
 rw [hE.out,hls.out] at hst
 rw [hls.out] at HWB HLEN
 rw [hE.out]
 clear hs hr hb0
 go_enter Tryz.func136,Tryz.ntmps136
 go_wp2_with fail
 refine hst.out.mono ?_
 rintro e w1 ⟨⟨lp,N,lc,rfl,hlr⟩,hb1⟩
 have hw1:=qq (za3 HB.out hb1)
 have HX1:=qq (Hx.out.keep hb1)
 have Hlr:=qq hlr
 have hNl:=hlr.len
 have hN9:N<=4096:=by have:=HLEN.out;omega
 have HNl:=qq hNl
 clear hst HB hb1 Hx hlr hNl
 go_wp2_with fail
 go_loopw [6,7] (fun v j wr=>∃ (k:Nat),k<=N/\wr.ownsRow w1.heap.size 48 1 v (zm3 h (ls.take k)).length (zb2 .u64 (zm3 h (ls.take k)))/\j = .int .i64 k/\Below w1.heap.size w1 wr) (fun _ j _=>N - (intOf j).toNat)
 case atStart=>exact ⟨0,by omega,World.ownsRow_nil _ _ _ _,rfl,Below.refl _ _⟩
 case round =>
  obtain ⟨k,hk,hown,rfl,hb⟩:=hrel
  have hx6:=HX1.out.keep hb
  have Hwr:=qq (za3 hw1.out hb)
  by_cases hlt:k < N
  · have hlt2:(k:Int) < N:=by omega
    obtain ⟨x,lb,lo,hx,rfl,lc0⟩:=(Hlr.out.keep hb).at_ hlt
    obtain ⟨x0,x1,x2,x3,x4,x5,-,-,-,-,-,-⟩:=hx6
    have hxw:=HWB.out x (List.mem_of_getElem? hx)
    have hat:=qq (fun w' (hB:Below wr.heap.size wr w')=>hatG.out x w' (za3 Hwr.out hB) hxw.1 hxw.2)
    obtain ⟨K,hK0⟩:∃ K,Hid ((atH h x).k=K):=⟨_,rfl⟩
    rw [hK0.out] at hat
    generalize (atH h x).n=N0 at hat
    generalize (atH h x).m=M0 at hat
    generalize atE h x=E0 at hat
    have Hx0:=qq hx
    have Hown:=qq hown
    have Hb:=qq hb
    have hln:=Nat.le_trans (objs_len h ls k) HLEN.out
    clear hx hown hxw hb
    have hSof:=qq (fun W (hB:Below wr.heap.size wr W)=>(⟨za0 hB x0,za0 hB x1,za0 hB x2,za0 hB x3,za0 hB x4,za0 hB x5,za0 hB lc0,hB⟩:(fun w'=>w'.cell? ⟨w.heap.size,0,none⟩=some (.int .i64 h.pw)/\w'.cell? ⟨w.heap.size,1,none⟩=some (.int .i64 h.np)/\w'.cell? ⟨w.heap.size,2,none⟩=some (.slice p n c)/\w'.cell? ⟨w.heap.size,3,none⟩=some (.slice q m d)/\w'.cell? ⟨w.heap.size,4,none⟩=some (.int .i64 h.space)/\w'.cell? ⟨w.heap.size,5,none⟩=some (.int .i64 h.bump)/\w'.cell? ⟨lb,lo+k,none⟩=some (.int .u64 x)/\Below wr.heap.size wr w') W))
    go_upto_region 6 with fail
    go_cut [8,9] (fun th te wx=>∃ b:Nat,th = .pointer (some ⟨b,0,none⟩)/\te = .int .i64 E0/\Own3 wx b (.int .i64 K) (.int .i64 N0) (.int .u32 M0)/\wr.heap.size<=b/\Below wr.heap.size wr wx)
    case first =>
     refine wp_region_held_drew (S:=fun w'=>w'.cell? ⟨w.heap.size,0,none⟩=some (.int .i64 h.pw)/\w'.cell? ⟨w.heap.size,1,none⟩=some (.int .i64 h.np)/\w'.cell? ⟨w.heap.size,2,none⟩=some (.slice p n c)/\w'.cell? ⟨w.heap.size,3,none⟩=some (.slice q m d)/\w'.cell? ⟨w.heap.size,4,none⟩=some (.int .i64 h.space)/\w'.cell? ⟨w.heap.size,5,none⟩=some (.int .i64 h.bump)/\w'.cell? ⟨lb,lo+k,none⟩=some (.int .u64 x)/\Below wr.heap.size wr w') (by kernel_rfl) (hSof.out _ (Below.drew (Below.refl _ _))) (fun hHeld=>?_)
     refine draw_t 0 22 hHeld ?_
     refine draw_t 1 23 hHeld ?_
     refine draw_t 2 24 hHeld ?_
     refine draw_t 3 25 hHeld ?_
     refine draw_t 4 26 hHeld ?_
     refine rdy2 5 9 (fun K hK=>?_) (fun K hK=>?_)
     · go_simp
       (go_at_call 26;refine (hat.out _ ((Below.refl _ _).drew)).mono ?_;rintro e w2 ⟨rfl,hbq⟩)
       have hb2:Below wr.heap.size wr w2:=(Below.refl _ _).drew.trans (by simpa using hbq)
       go_wp2_with fail
       refine hK.out _ _ (hSof.out _ ((Below.refl _ _).drew.trans (by simpa using hbq))) (fun hHeld=>?_)
       clear hK K
       try go_frame
       refine draw_t 6 21 hHeld ?_
       refine draw_t 7 28 hHeld ?_
       refine draw_t 8 29 hHeld ?_
       refine rdy1 9 (fun K hK=>?_)
       go_simp
       refine hK.out _ _ (hSof.out _ (za3 hb2 za1)) (fun hHeld=>?_)
       clear hK K
       try go_frame
       refine rdy1 10 (fun K hK=>?_)
       go_simp
       refine hK.out _ _ (hSof.out _ (za3 hb2 za1)) (fun hHeld=>?_)
       clear hK K
       try go_frame
       refine draw_t 11 9 hHeld ?_
       refine wpAnyH_done (by kernel_rfl) ?_ _
       go_wp2_with fail
       go_meet
       exact ⟨_,rfl,rfl,Own3.new _ _ _ _ _,hb2.size,za3 hb2 za1⟩
     · go_simp
       refine hK.out _ _ (hSof.out _ ((Below.refl _ _).drew.alloc (by simp) _)) (fun hHeld=>?_)
       clear hK K
       try go_frame
       refine rdy1 5 (fun K hK=>?_)
       go_simp
       (go_at_call 26;refine (hat.out _ ((Below.refl _ _).drew.alloc (by simp) _)).mono ?_;rintro e w2 ⟨rfl,hbq⟩)
       have hb2:Below wr.heap.size wr w2:=((Below.refl _ _).drew.alloc (by simp) _).trans (hbq.mono (by simp))
       have ho3:=(Own3.new wr.drew (.int .i64 0) (.int .i64 0) (.int .u32 0) 54).keep hbq
       simp only [World.size_drew] at ho3
       obtain ⟨d0,d1,d2,f0,f1,f2⟩:=ho3
       go_wp2_with fail
       refine hK.out _ _ (hSof.out _ hb2) (fun hHeld=>?_)
       clear hK K
       try go_frame
       refine draw_t 6 21 hHeld ?_
       refine draw_t 7 28 hHeld ?_
       refine draw_t 8 29 hHeld ?_
       refine rdy1 10 (fun K hK=>?_)
       go_simp
       refine hK.out _ _ (hSof.out _ (zb9 hb2 (by simp))) (fun hHeld=>?_)
       clear hK K
       try go_frame
       refine draw_t 11 9 hHeld ?_
       refine wpAnyH_done (by kernel_rfl) ?_ _
       go_wp2_with fail
       go_meet
       exact ⟨_,rfl,rfl,Own3.set3 ⟨d0,d1,d2,f0,f1,f2⟩ _ _ _,by simp,zb9 hb2 (by simp)⟩
    case rest =>
     obtain ⟨b,rfl,rfl,ho3,-,hbc⟩:=hcut
     obtain ⟨d0,-,-,-,-,-⟩:=ho3
     have hl0:=za0 hbc lc0
     have hown2:=zb5 Hown.out hbc
     have Hbc:=qq (za3 Hb.out hbc)
     have Hwc:=qq (za3 Hwr.out hbc)
     clear hSof hat x0 x1 x2 x3 x4 x5 lc0 hbc Hown Hwr
     by_cases hk0:K=0
     · have Hs:=qq (objs_out (h:=h) (k:=k) Hx0.out (by rw [hK0.out];exact hk0))
       subst hk0
       have Hown2:=qq hown2
       clear hown2
       go_wp2
       go_roundw
       case rel=>exact ⟨k+1,by omega,by rw [Hs.out];exact Hown2.out,by go_num,Hbc.out⟩
       case measure=>simp [intOf];omega
     · have Hs:=qq (objs_in (h:=h) (k:=k) Hx0.out (by rw [hK0.out];exact hk0))
       have hne:(K != 0)=true:=bne_iff_ne.2 hk0
       have hsz:=Hbc.out.size
       obtain ⟨q',c',rfl,-⟩:=VRow.of_own hown2
       clear hk0
       go_wp2_with (at_builtin;refine wpList_append_own _ rfl _ _ 24 rfl w1.heap.size 48 i0 _ 1 8 Tryz.underlying24 hin hz0 hz1 hz2 rfl (by decide) _ _ _ rfl (hown2.alloc _) ⟨wc.heap.size,0,none⟩ 1 1 [.int .u64 x] rfl rfl ?c1 ?c2 ?c3 ?c4 ?c5 ?_)
       case c1=>exact World.news_of_block (cs:=#[.int .u64 x]) (t:=48) (fr:=(0,0)) (heap_alloc_new wc _)
       case c2=>simp [Value.oneCell']
       case c3=>unfold maxLen;omega
       case c4=>omega
       case c5=>simp;omega
       intro v' w3 hown3 hgrow3 _
       have hb3:Below w1.heap.size w1 w3:=(Hbc.out.alloc hsz _).grown hgrow3 (by simp;omega) (fun j hj=>(hown2.lt j hj).1)
       rw [show [Value.int .u64 x]=zb2 .u64 [x] from rfl,ze4] at hown3
       have hown4:=qq hown3
       clear hown3 hgrow3 hown2
       go_wp2
       go_roundw
       case rel=>exact ⟨k+1,by omega,by rw [Hs.out,List.length_append];exact hown4.out,by go_num,hb3⟩
       case measure=>simp [intOf];omega
  · obtain rfl:k=N:=by omega
    obtain ⟨q',c',rfl,hrow⟩:=SRow.of_own hown
    have Hrow:=qq hrow
    have Eo:=qq (show zc0 h=zm3 h (ls.take k) from by unfold zc0;rw [hls.out,List.take_of_length_le (by rw [HNl.out];exact Nat.le_refl _)])
    clear hown hrow hb hx6
    go_wp2
    go_ret2
    exact ⟨⟨q',_,c',rfl,by rw [Eo.out];exact Hrow.out⟩,Hwr.out⟩
end Go.Proofs.YtipjdbhocjpmdaaGreat
