import Derived.Test.YtipjdbhocjpmdaaGreatQ01
import Derived.Test.YtipjdbhocjpmdaaGreatQ02
import Derived.Test.YtipjdbhocjpmdaaGreatQ03
set_option linter.unusedSimpArgs false
set_option linter.unusedVariables false
set_option maxRecDepth 100000
set_option maxHeartbeats 12800000
namespace Go.Proofs.YtipjdbhocjpmdaaGreat
open Go.RowKit
theorem refConf_any (pw np:Int) (w:World) :
 Calls Tryz.prog 55 #[.agg #[.int .i64 pw,.int .i64 np]] w fun e w'=>e = .returned (.bool (zb8 pw np))/\Below w.heap.size w w':=by
 by_cases h1:16<=pw
 · by_cases h2:pw<=64
   · by_cases h3:pw % 4=0
     · by_cases h4:8<=np
       · by_cases h5:np<=64
         · have E:=qq (conf_mk ⟨h1,h2,h3,h4,h5⟩)
           go_enter Tryz.func55,Tryz.ntmps55
           go_wp2
           go_ret
           exact ⟨za9 E.out.symm,za1⟩
         · have E:=qq (zw0 (pw:=pw) (np:=np) fun h=>h5 h.2.2.2.2)
           go_enter Tryz.func55,Tryz.ntmps55
           go_wp2
           go_ret
           exact ⟨za9 E.out.symm,za1⟩
       · have E:=qq (zw0 (pw:=pw) (np:=np) fun h=>h4 h.2.2.2.1)
         go_enter Tryz.func55,Tryz.ntmps55
         go_wp2
         go_ret
         exact ⟨za9 E.out.symm,za1⟩
     · have E:=qq (zw0 (pw:=pw) (np:=np) fun h=>h3 h.2.2.1)
       have hd:(pw % 4 == 0)=false:=beq_eq_false_iff_ne.2 h3
       clear h3
       go_enter Tryz.func55,Tryz.ntmps55
       go_wp2
       go_ret
       exact ⟨za9 E.out.symm,za1⟩
   · have E:=qq (zw0 (pw:=pw) (np:=np) fun h=>h2 h.2.1)
     go_enter Tryz.func55,Tryz.ntmps55
     go_wp2
     go_ret
     exact ⟨za9 E.out.symm,za1⟩
 · have E:=qq (zw0 (pw:=pw) (np:=np) fun h=>h1 h.1)
   go_enter Tryz.func55,Tryz.ntmps55
   go_wp2
   go_ret
   exact ⟨za9 E.out.symm,za1⟩
theorem zg0 {b:Bool} {pw np:Int} (h:zb8 pw np=b) (w:World) :
 Calls Tryz.prog 55 #[.agg #[.int .i64 pw,.int .i64 np]] w fun e w'=>e = .returned (.bool b)/\Below w.heap.size w w':=by
 subst h;exact refConf_any pw np w
theorem refLimit_any (pw np:Int) (w:World) :
 Calls Tryz.prog 130 #[.agg #[.int .i64 pw,.int .i64 np]] w fun e w'=>e = .returned (.int .i64 (zq3 pw np))/\Below w.heap.size w w':=by
 cases hv:zb8 pw np
 · rw [limit_no hv]
   have hc:=qq (fun w=>zg0 hv w)
   clear hv
   go_enter Tryz.func130,Tryz.ntmps130
   go_wp2_with fail
   refine (hc.out _).mono ?_
   rintro e w1 ⟨rfl,hb1⟩
   go_wp2
   go_ret
   exact ⟨rfl,za4 hb1⟩
 · rw [limit_ok hv]
   have hc:=qq (fun w=>zg0 hv w)
   obtain ⟨-,-,-,h4,h5⟩:=zb1 hv
   clear hv
   go_enter Tryz.func130,Tryz.ntmps130
   go_wp2_with fail
   refine (hc.out _).mono ?_
   rintro e w1 ⟨rfl,hb1⟩
   have c1:=za5 hb1 1 rfl
   go_wp2
   go_ret
   exact ⟨rfl,za4 hb1⟩
theorem yb3 (pw np:Int) (w:World) :
 Calls Tryz.prog 61 #[.agg #[.int .i64 pw,.int .i64 np]] w fun e w'=>e = .returned (.int .i64 (zs9 pw np))/\Below w.heap.size w w':=by
 cases hv:zb8 pw np
 · rw [small_no hv]
   have hc:=qq (fun w=>zg0 hv w)
   clear hv
   go_enter Tryz.func61,Tryz.ntmps61
   go_wp2_with fail
   refine (hc.out _).mono ?_
   rintro e w1 ⟨rfl,hb1⟩
   go_wp2
   go_ret
   exact ⟨rfl,za4 hb1⟩
 · rw [small_ok hv]
   have hc:=qq (fun w=>zg0 hv w)
   obtain ⟨h4,h5,-,-,-⟩:=zb1 hv
   clear hv
   go_enter Tryz.func61,Tryz.ntmps61
   go_wp2_with fail
   refine (hc.out _).mono ?_
   rintro e w1 ⟨rfl,hb1⟩
   have c0:=za5 hb1 0 rfl
   go_wp2
   go_ret
   exact ⟨rfl,za4 hb1⟩
theorem needP_small {pw n:Int} (h:n<=pw / 4):zl2 pw n=0:=by unfold zl2;rw [if_pos h]
theorem needP_at {pw n:Int} {k:Nat} (h0:pw / 4 < n) (h1:1<=k) (h4:k<=4) (hl:k=1\/(k - 1:Int)*pw < n) (h:n<=(k:Int)*pw):zl2 pw n=k:=by
 unfold zl2
 rw [if_neg (by omega)]
 rcases (show k=1\/k=2\/k=3\/k=4 by omega) with rfl | rfl | rfl | rfl
 · rw [if_pos (by omega)];rfl
 · rw [if_neg (by omega),if_pos (by omega)];rfl
 · rw [if_neg (by omega),if_neg (by omega),if_pos (by omega)];rfl
 · rw [if_neg (by omega),if_neg (by omega),if_neg (by omega),if_pos (by omega)];rfl
theorem needP_none {pw n:Int} (hp:16<=pw) (h0:pw / 4 < n) (h:4*pw < n):zl2 pw n = -1:=by
 unfold zl2
 rw [if_neg (by omega),if_neg (by omega),if_neg (by omega),if_neg (by omega),if_neg (by omega)]
theorem zy1 (pw np n:Int) (w:World) :
 Calls Tryz.prog 18 #[.agg #[.int .i64 pw,.int .i64 np],.int .i64 n] w fun e w'=>e = .returned (.int .i64 (zb6 pw np n))/\Below w.heap.size w w':=by
 by_cases hv:zb8 pw np=true
 · have hc:=qq (fun w=>zg0 hv w)
   by_cases h1:n < 1
   · rw [zx3 (Or.inr h1)]
     clear hv
     go_enter Tryz.func18,Tryz.ntmps18
     go_wp2_with fail
     refine (hc.out _).mono ?_
     rintro e w1 ⟨rfl,hb1⟩
     go_wp2
     go_ret
     exact ⟨rfl,za4 hb1⟩
   · rw [zx2 hv (by omega)]
     obtain ⟨h4,h5,-,-,-⟩:=zb1 hv
     have hs:=qq (fun w=>yb3 pw np w)
     rw [small_ok hv] at hs
     clear hv
     by_cases h0:n<=pw / 4
     · rw [needP_small h0]
       go_enter Tryz.func18,Tryz.ntmps18
       go_wp2_with fail
       refine (hc.out _).mono ?_
       rintro e w1 ⟨rfl,hb1⟩
       have c0:=za5 hb1 0 rfl
       have c1:=za5 hb1 1 rfl
       go_wp2_with fail
       refine (hs.out _).mono ?_
       rintro e w2 ⟨rfl,hb2⟩
       go_wp2
       go_ret
       exact ⟨rfl,za3 (za4 hb1) hb2⟩
     · have h0:pw / 4 < n:=by omega
       go_enter Tryz.func18,Tryz.ntmps18
       go_wp2_with fail
       refine (hc.out _).mono ?_
       rintro e w1 ⟨rfl,hb1⟩
       have c0:=za5 hb1 0 rfl
       have c1:=za5 hb1 1 rfl
       go_wp2_with fail
       refine (hs.out _).mono ?_
       rintro e w2 ⟨rfl,hb2⟩
       have d0:=za0 hb2 c0
       have hw:=za3 (za4 hb1) hb2
       clear hb1 hb2 hc hs c0 c1
       go_wp2
       go_loop [5] (fun i=>∃ k:Nat,1<=k/\k<=5/\(k=1\/(k - 1:Int)*pw < n)/\i = .int .i64 k) (fun i=>5 - (intOf i).toNat)
       case atStart=>exact ⟨1,by omega,by omega,Or.inl rfl,rfl⟩
       case round =>
        obtain ⟨k,hk1,hk5,hl,rfl⟩:=hrel
        have Hl:=qq hl
        clear hl
        by_cases hk:k<=4
        · have hm1:(k:Int)*pw<=4*64:=Int.mul_le_mul (by omega) h5 (by omega) (by omega)
          have hm0:0<=(k:Int)*pw:=Int.mul_nonneg (by omega) (by omega)
          have es:((k+1:Nat) - 1:Int)*pw=(k:Int)*pw:=by congr 1;omega
          have Es:=qq es
          clear es
          by_cases hn:n<=(k:Int)*pw
          · have E:=qq (needP_at h0 hk1 hk Hl.out hn)
            go_wp2
            go_ret
            exact ⟨zj1 E.out.symm,hw⟩
          · go_wp2
            go_round
            case rel=>exact ⟨k+1,by omega,by omega,Or.inr (by rw [Es.out];omega),by go_num⟩
            case measure=>simp [intOf];omega
        · obtain rfl:k=5:=by omega
          have E:=qq (needP_none h4 h0 (by have:=Hl.out;omega))
          go_wp2
          go_ret
          exact ⟨zj1 E.out.symm,hw⟩
 · have hv:zb8 pw np=false:=by simpa using hv
   rw [zx3 (Or.inl hv)]
   have hc:=qq (fun w=>zg0 hv w)
   clear hv
   go_enter Tryz.func18,Tryz.ntmps18
   go_wp2_with fail
   refine (hc.out _).mono ?_
   rintro e w1 ⟨rfl,hb1⟩
   go_wp2
   go_ret
   exact ⟨rfl,za4 hb1⟩
theorem inPg_false {pw np p o:Int} (h:p < 0\/np<=p\/o < 0\/pw<=o):inPg pw np p o=false:=decide_eq_false (by omega)
theorem zx5 (pw np p o:Int) (w:World) :
 Calls Tryz.prog 112 #[.agg #[.int .i64 pw,.int .i64 np],.int .i64 p,.int .i64 o] w fun e w'=>e = .returned (.tuple #[.int .u64 (zd4 pw np p o),.int .i64 (addrE pw np p o)])/\Below w.heap.size w w':=by
 by_cases hv:zb8 pw np=true
 · have hc:=qq (fun w=>zg0 hv w)
   by_cases h:0<=p/\p < np/\0<=o/\o < pw
   · obtain ⟨e1,e2⟩:=addr_ok hv (decide_eq_true h)
     rw [e1,e2]
     obtain ⟨g1,g2⟩:=zj2 hv h.1 h.2.1
     obtain ⟨g3,g4⟩:=zd6 hv
     obtain ⟨-,k2,-,-,-⟩:=zb1 hv
     obtain ⟨h1,h2,h3,h4⟩:=h
     have g5:p*pw<=4096:=by omega
     have g6:o<=64:=by omega
     clear hv e1 e2 g2 g3 g4
     go_enter Tryz.func112,Tryz.ntmps112
     go_wp2_with fail
     refine (hc.out _).mono ?_
     rintro e w1 ⟨rfl,hb1⟩
     have c0:=za5 hb1 0 rfl
     have c1:=za5 hb1 1 rfl
     go_wp2
     go_ret2
     exact ⟨rfl,za4 hb1⟩
   · have hno:p < 0\/np<=p\/o < 0\/pw<=o:=by omega
     obtain ⟨e1,e2⟩:=yb2 hv (inPg_false hno)
     rw [e1,e2]
     clear hv e1 e2 h
     by_cases h1:p < 0
     · clear hno
       go_enter Tryz.func112,Tryz.ntmps112
       go_wp2_with fail
       refine (hc.out _).mono ?_
       rintro e w1 ⟨rfl,hb1⟩
       have c0:=za5 hb1 0 rfl
       have c1:=za5 hb1 1 rfl
       go_wp2
       go_ret2
       exact ⟨rfl,za4 hb1⟩
     · by_cases h2:np<=p
       · clear hno
         go_enter Tryz.func112,Tryz.ntmps112
         go_wp2_with fail
         refine (hc.out _).mono ?_
         rintro e w1 ⟨rfl,hb1⟩
         have c0:=za5 hb1 0 rfl
         have c1:=za5 hb1 1 rfl
         go_wp2
         go_ret2
         exact ⟨rfl,za4 hb1⟩
       · by_cases h3:o < 0
         · clear hno
           go_enter Tryz.func112,Tryz.ntmps112
           go_wp2_with fail
           refine (hc.out _).mono ?_
           rintro e w1 ⟨rfl,hb1⟩
           have c0:=za5 hb1 0 rfl
           have c1:=za5 hb1 1 rfl
           go_wp2
           go_ret2
           exact ⟨rfl,za4 hb1⟩
         · have h4:pw<=o:=by omega
           clear hno
           go_enter Tryz.func112,Tryz.ntmps112
           go_wp2_with fail
           refine (hc.out _).mono ?_
           rintro e w1 ⟨rfl,hb1⟩
           have c0:=za5 hb1 0 rfl
           have c1:=za5 hb1 1 rfl
           go_wp2
           go_ret2
           exact ⟨rfl,za4 hb1⟩
 · have hv:zb8 pw np=false:=by simpa using hv
   obtain ⟨e1,e2⟩:=addr_no (p:=p) (o:=o) hv
   rw [e1,e2]
   have hc:=qq (fun w=>zg0 hv w)
   clear hv e1 e2
   go_enter Tryz.func112,Tryz.ntmps112
   go_wp2_with fail
   refine (hc.out _).mono ?_
   rintro e w1 ⟨rfl,hb1⟩
   go_wp2
   go_ret2
   exact ⟨rfl,za4 hb1⟩
theorem zk6 (pw np a:Int) (w:World) (ha:0<=a) (ha2:a < 18446744073709551616) :
 Calls Tryz.prog 70 #[.agg #[.int .i64 pw,.int .i64 np],.int .u64 a] w fun e w'=>e = .returned (.tuple #[.int .i64 (ofI pw np a),.int .i64 (ofK pw np a),.int .i64 (ofE pw np a)])/\Below w.heap.size w w':=by
 by_cases hv:zb8 pw np=true
 · have hc:=qq (fun w=>zg0 hv w)
   obtain ⟨g3,g4⟩:=zd6 hv
   by_cases h:4096<=a/\a < 4096+np*pw
   · obtain ⟨e1,e2,e3⟩:=of_ok hv (decide_eq_true h)
     rw [e1,e2,e3]
     obtain ⟨k1,k2,-,-,-⟩:=zb1 hv
     obtain ⟨h1,h2⟩:=h
     clear hv e1 e2 e3
     go_enter Tryz.func70,Tryz.ntmps70
     go_wp2_with fail
     refine (hc.out _).mono ?_
     rintro e w1 ⟨rfl,hb1⟩
     have c0:=za5 hb1 0 (v:=.int .i64 pw) rfl
     have c1:=za5 hb1 1 (v:=.int .i64 np) rfl
     go_wp2
     go_quiet (fail)
     go_wp2
     go_ret3
     exact ⟨rfl,below_drewN (za4 hb1) _⟩
   · have hn:inAr pw np a=false:=decide_eq_false h
     obtain ⟨e1,e2,e3⟩:=of_out hv hn
     rw [e1,e2,e3]
     clear hv e1 e2 e3 hn
     by_cases h1:a < 4096
     · clear h
       go_enter Tryz.func70,Tryz.ntmps70
       go_wp2_with fail
       refine (hc.out _).mono ?_
       rintro e w1 ⟨rfl,hb1⟩
       have c0:=za5 hb1 0 (v:=.int .i64 pw) rfl
       have c1:=za5 hb1 1 (v:=.int .i64 np) rfl
       go_wp2
       go_ret3
       exact ⟨rfl,za4 hb1⟩
     · have h2:4096+np*pw<=a:=by omega
       clear h
       go_enter Tryz.func70,Tryz.ntmps70
       go_wp2_with fail
       refine (hc.out _).mono ?_
       rintro e w1 ⟨rfl,hb1⟩
       have c0:=za5 hb1 0 (v:=.int .i64 pw) rfl
       have c1:=za5 hb1 1 (v:=.int .i64 np) rfl
       go_wp2
       go_ret3
       exact ⟨rfl,za4 hb1⟩
 · have hv:zb8 pw np=false:=by simpa using hv
   obtain ⟨e1,e2,e3⟩:=of_no (a:=a) hv
   rw [e1,e2,e3]
   have hc:=qq (fun w=>zg0 hv w)
   clear hv e1 e2 e3
   go_enter Tryz.func70,Tryz.ntmps70
   go_wp2_with fail
   refine (hc.out _).mono ?_
   rintro e w1 ⟨rfl,hb1⟩
   go_wp2
   go_ret3
   exact ⟨rfl,za4 hb1⟩
end Go.Proofs.YtipjdbhocjpmdaaGreat
