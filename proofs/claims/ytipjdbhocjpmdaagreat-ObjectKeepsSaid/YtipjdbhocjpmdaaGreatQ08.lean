import Derived.Test.YtipjdbhocjpmdaaGreatQ01
import Derived.Test.YtipjdbhocjpmdaaGreatQ04
import Derived.Test.YtipjdbhocjpmdaaGreatQ05
import Derived.Test.YtipjdbhocjpmdaaGreatQ06
import Derived.Test.YtipjdbhocjpmdaaGreatQ07
import Derived.IntWalk
import Derived.BigQuiet
import Derived.Deep.MidRow
import Derived.Lib.Hide
set_option linter.unusedSimpArgs false
set_option linter.unusedVariables false
set_option maxRecDepth 100000
set_option maxHeartbeats 12800000
namespace Go.Proofs.YtipjdbhocjpmdaaGreat
open Go.RowKit
theorem yd2 {b:Bool} {n l h:Int} (hb:decide (l<=n/\n<=h)=b) (w:World) :
 Calls Tryz.prog 58 #[.int .i64 n,.int .i64 l,.int .i64 h] w fun e w'=>e = .returned (.bool b)/\w=w':=by
 by_cases h1:l<=n
 · by_cases h2:n<=h
   · obtain rfl:b=true:=by rw [<-hb];exact decide_eq_true ⟨h1,h2⟩
     clear hb
     go_enter Tryz.func58,Tryz.ntmps58
     go_wp2
     go_ret
     exact ⟨rfl,rfl⟩
   · obtain rfl:b=false:=by rw [<-hb];exact decide_eq_false fun h=>h2 h.2
     clear hb
     go_enter Tryz.func58,Tryz.ntmps58
     go_wp2
     go_ret
     exact ⟨rfl,rfl⟩
 · obtain rfl:b=false:=by rw [<-hb];exact decide_eq_false fun h=>h1 h.1
   clear hb
   go_enter Tryz.func58,Tryz.ntmps58
   go_wp2
   go_ret
   exact ⟨rfl,rfl⟩
theorem zk3 {n l h:Int} (h1:l<=n) (h2:n<=h) (w:World) :
 Calls Tryz.prog 58 #[.int .i64 n,.int .i64 l,.int .i64 h] w fun e w'=>e = .returned (.bool true)/\w=w':=yd2 (decide_eq_true ⟨h1,h2⟩) w
theorem zr4 {n l h:Int} (h1:n < l\/h < n) (w:World) :
 Calls Tryz.prog 58 #[.int .i64 n,.int .i64 l,.int .i64 h] w fun e w'=>e = .returned (.bool false)/\w=w':=yd2 (decide_eq_false (by omega)) w
theorem valid_any (pw np:Int) (w:World) :
 Calls Tryz.prog 50 #[.agg #[.int .i64 pw,.int .i64 np]] w fun e w'=>e = .returned (.bool (zb8 pw np))/\Below w.heap.size w w':=by
 by_cases h1:16<=pw/\pw<=64
 · have hw1:=qq (fun w=>zk3 h1.1 h1.2 w)
   by_cases h3:pw % 4=0
   · by_cases h4:8<=np/\np<=64
     · have E:=qq (conf_mk ⟨h1.1,h1.2,h3,h4.1,h4.2⟩)
       have hw2:=qq (fun w=>zk3 h4.1 h4.2 w)
       obtain ⟨h1,-⟩:=h1
       clear h4
       go_enter Tryz.func50,Tryz.ntmps50
       go_wp2_with fail
       refine (hw1.out _).mono ?_
       rintro e w1 ⟨rfl,rfl⟩
       go_wp2_with fail
       refine (hw2.out _).mono ?_
       rintro e w1 ⟨rfl,rfl⟩
       go_wp2
       go_ret
       exact ⟨za9 E.out.symm,za1⟩
     · have E:=qq (zw0 (pw:=pw) (np:=np) fun h=>h4 h.2.2.2)
       have hw2:=qq (fun w=>zr4 (n:=np) (l:=8) (h:=64) (by omega) w)
       obtain ⟨h1,-⟩:=h1
       clear h4
       go_enter Tryz.func50,Tryz.ntmps50
       go_wp2_with fail
       refine (hw1.out _).mono ?_
       rintro e w1 ⟨rfl,rfl⟩
       go_wp2_with fail
       refine (hw2.out _).mono ?_
       rintro e w1 ⟨rfl,rfl⟩
       go_wp2
       go_ret
       exact ⟨za9 E.out.symm,za1⟩
   · have E:=qq (zw0 (pw:=pw) (np:=np) fun h=>h3 h.2.2.1)
     have hd:(pw % 4 == 0)=false:=beq_eq_false_iff_ne.2 h3
     obtain ⟨h1,-⟩:=h1
     clear h3
     go_enter Tryz.func50,Tryz.ntmps50
     go_wp2_with fail
     refine (hw1.out _).mono ?_
     rintro e w1 ⟨rfl,rfl⟩
     go_wp2
     go_ret
     exact ⟨za9 E.out.symm,za1⟩
 · have E:=qq (zw0 (pw:=pw) (np:=np) fun h=>h1 ⟨h.1,h.2.1⟩)
   have hw1:=qq (fun w=>zr4 (n:=pw) (l:=16) (h:=64) (by omega) w)
   clear h1
   go_enter Tryz.func50,Tryz.ntmps50
   go_wp2_with fail
   refine (hw1.out _).mono ?_
   rintro e w1 ⟨rfl,rfl⟩
   go_wp2
   go_ret
   exact ⟨za9 E.out.symm,za1⟩
theorem zk4 {b:Bool} {pw np:Int} (h:zb8 pw np=b) (w:World) :
 Calls Tryz.prog 50 #[.agg #[.int .i64 pw,.int .i64 np]] w fun e w'=>e = .returned (.bool b)/\Below w.heap.size w w':=by
 subst h;exact valid_any pw np w
theorem small_any (pw np:Int) (w:World) :
 Calls Tryz.prog 59 #[.agg #[.int .i64 pw,.int .i64 np]] w fun e w'=>e = .returned (.int .i64 (zs9 pw np))/\Below w.heap.size w w':=by
 cases hv:zb8 pw np
 · rw [small_no hv]
   have hc:=qq (fun w=>zk4 hv w)
   clear hv
   go_enter Tryz.func59,Tryz.ntmps59
   go_wp2_with fail
   refine (hc.out _).mono ?_
   rintro e w1 ⟨rfl,hb1⟩
   go_wp2
   go_ret
   exact ⟨rfl,za4 hb1⟩
 · rw [small_ok hv]
   have hc:=qq (fun w=>zk4 hv w)
   obtain ⟨h4,h5,-,-,-⟩:=zb1 hv
   clear hv
   go_enter Tryz.func59,Tryz.ntmps59
   go_wp2_with fail
   refine (hc.out _).mono ?_
   rintro e w1 ⟨rfl,hb1⟩
   have c0:=za5 hb1 0 rfl
   go_wp2
   go_ret
   exact ⟨rfl,za4 hb1⟩
theorem needP_div {pw n:Int} (h1:16<=pw) (h2:pw<=64) (h3:pw / 4 < n) (h4:n<=4*pw):zl2 pw n=(n+pw - 1) / pw:=by
 have hd:∀ k:Int,(k - 1)*pw < n->n<=k*pw->(n+pw - 1) / pw=k:=by
  intro k a b
  have e1:(k - 1)*pw=k*pw - pw:=by rw [Int.sub_mul,Int.one_mul]
  have e2:(n+pw - 1)=(n+pw - 1 - k*pw)+k*pw:=by omega
  rw [e2,Int.add_mul_ediv_right _ _ (by omega),Int.ediv_eq_zero_of_lt (by omega) (by omega)];omega
 unfold zl2
 rw [if_neg (by omega)]
 split
 · rw [hd 1 (by omega) (by omega)]
 · split
   · rw [hd 2 (by omega) (by omega)]
   · split
     · rw [hd 3 (by omega) (by omega)]
     · rw [hd 4 (by omega) (by omega)]
theorem need_any (pw np n:Int) (w:World) :
 Calls Tryz.prog 16 #[.agg #[.int .i64 pw,.int .i64 np],.int .i64 n] w fun e w'=>e = .returned (.int .i64 (zb6 pw np n))/\Below w.heap.size w w':=by
 by_cases hv:zb8 pw np=true
 · have hc:=qq (fun w=>zk4 hv w)
   obtain ⟨h4,h5,-,-,-⟩:=zb1 hv
   by_cases h1:1<=n/\n<=4*pw
   · have hi:=qq (fun w=>zk3 h1.1 h1.2 w)
     rw [zx2 hv h1.1]
     have hs:=qq (fun w=>small_any pw np w)
     rw [small_ok hv] at hs
     by_cases h0:n<=pw / 4
     · rw [needP_small h0]
       clear hv
       obtain ⟨g1,g2⟩:=h1
       go_enter Tryz.func16,Tryz.ntmps16
       go_wp2_with fail
       refine (hc.out _).mono ?_
       rintro e w1 ⟨rfl,hb1⟩
       have c0:=za5 hb1 0 rfl
       have c1:=za5 hb1 1 rfl
       go_wp2_with fail
       refine (hi.out _).mono ?_
       rintro e w2 ⟨rfl,rfl⟩
       go_wp2_with fail
       refine (hs.out _).mono ?_
       rintro e w2 ⟨rfl,hb2⟩
       go_wp2
       go_ret
       exact ⟨rfl,za3 (za4 hb1) hb2⟩
     · have h0:pw / 4 < n:=by omega
       rw [needP_div h4 h5 h0 h1.2]
       clear hv
       obtain ⟨g1,g2⟩:=h1
       go_enter Tryz.func16,Tryz.ntmps16
       go_wp2_with fail
       refine (hc.out _).mono ?_
       rintro e w1 ⟨rfl,hb1⟩
       have c0:=za5 hb1 0 rfl
       have c1:=za5 hb1 1 rfl
       go_wp2_with fail
       refine (hi.out _).mono ?_
       rintro e w2 ⟨rfl,rfl⟩
       go_wp2_with fail
       refine (hs.out _).mono ?_
       rintro e w2 ⟨rfl,hb2⟩
       have d0:=za0 hb2 c0
       go_wp2
       go_ret
       exact ⟨rfl,za3 (za4 hb1) hb2⟩
   · have hi:=qq (fun w=>zr4 (n:=n) (l:=1) (h:=4*pw) (by omega) w)
     have e1:zb6 pw np n = -1:=by
      by_cases g:n < 1
      · exact zx3 (Or.inr g)
      · rw [zx2 hv (by omega),needP_none h4 (by omega) (by omega)]
     rw [e1]
     clear hv e1 h1
     go_enter Tryz.func16,Tryz.ntmps16
     go_wp2_with fail
     refine (hc.out _).mono ?_
     rintro e w1 ⟨rfl,hb1⟩
     have c0:=za5 hb1 0 rfl
     have c1:=za5 hb1 1 rfl
     go_wp2_with fail
     refine (hi.out _).mono ?_
     rintro e w2 ⟨rfl,rfl⟩
     go_wp2
     go_ret
     exact ⟨rfl,za4 hb1⟩
 · have hv:zb8 pw np=false:=by simpa using hv
   rw [zx3 (Or.inl hv)]
   have hc:=qq (fun w=>zk4 hv w)
   clear hv
   go_enter Tryz.func16,Tryz.ntmps16
   go_wp2_with fail
   refine (hc.out _).mono ?_
   rintro e w1 ⟨rfl,hb1⟩
   go_wp2
   go_ret
   exact ⟨rfl,za4 hb1⟩
def rvals (rs:List (Int × Int)):List Value:=rs.flatMap fun r=>[.int .i64 r.1,.int .i64 r.2]
theorem rvals_len (rs:List (Int × Int)):(rvals rs).length=rs.length*2:=flat_len _ 2 (fun _=>rfl) rs
theorem rvals_at (rs:List (Int × Int)) (k:Nat) (x:Int × Int) (h:rs[k]?=some x):(rvals rs)[k*2]?=some (.int .i64 x.1)/\(rvals rs)[k*2+1]?=some (.int .i64 x.2) :=
 ⟨zx4 _ 2 (fun _=>rfl) rs k x 0 (by omega) h,zx4 _ 2 (fun _=>rfl) rs k x 1 (by omega) h⟩
theorem zz7 (rs:List (Int × Int)) (x:Int × Int):rvals rs ++ [.int .i64 x.1,.int .i64 x.2]=rvals (rs ++ [x]):=by simp [rvals]
theorem rvals_bump (pre:List (Int × Int)) (r:Int × Int):(rvals (pre ++ [r])).set (pre.length*2+1) (.int .i64 (r.2+1))=rvals (pre ++ [(r.1,r.2+1)]):=by
 rw [<-zz7,<-zz7,List.set_append_right _ _ (by rw [rvals_len];omega),rvals_len,Nat.add_sub_cancel_left];rfl
def RRow (w:World) (p:Option Addr) (n cap:Nat) (rs:List (Int × Int)):Prop:=VRow w 2 p n cap (rvals rs)
theorem RRow.len {w:World} {p:Option Addr} {n cap:Nat} {rs:List (Int × Int)} (h:RRow w p n cap rs):rs.length=n:=by
 have:=VRow.len h;rw [rvals_len] at this;omega
theorem RRow.keep {w w':World} {p:Option Addr} {n cap:Nat} {rs:List (Int × Int)} (h:RRow w p n cap rs) (hb:Below w.heap.size w w'):RRow w' p n cap rs:=VRow.keep h hb
theorem RRow.i63 {w:World} {p:Option Addr} {n cap:Nat} {rs:List (Int × Int)} (h:RRow w p n cap rs):(cap:Int)<=9223372036854775807/\(n:Int)<=9223372036854775807:=VRow.i63 h
theorem RRow.at_ {w:World} {p:Option Addr} {n cap:Nat} {rs:List (Int × Int)} (h:RRow w p n cap rs) {k:Nat} (hk:k < n):∃ x b off,rs[k]?=some x/\p=some ⟨b,off,none⟩/\w.cell? ⟨b,off+k*2,none⟩=some (.int .i64 x.1)/\w.cell? ⟨b,off+k*2+1,none⟩=some (.int .i64 x.2):=by
 obtain ⟨b,off,hp,hc⟩:=VRow.at_ h hk (by omega)
 have hx:rs[k]?=some (rs[k]'(by rw [h.len];exact hk)):=List.getElem?_eq_getElem _
 obtain ⟨h0,h1⟩:=rvals_at rs k _ hx
 exact ⟨_,b,off,hx,hp,hc 0 _ h0,hc 1 _ h1⟩
def RetR (rs:List (Int × Int)) (e:Ending) (w':World):Prop:=∃ q m c,e = .returned (.slice q m c)/\RRow w' q m c rs
theorem zz8 {out:List (Int × Int)} {k:Int} {x:Pg} (h:¬x.kind=0):zs4 out k x=out:=by unfold zs4;rw [if_neg h]
theorem zy2 {k:Int} {x:Pg} (h:x.kind=0):zs4 [] k x=[(k,1)]:=by unfold zs4;rw [if_pos h];rfl
theorem zw5 {pre:List (Int × Int)} {r:Int × Int} {k:Int} {x:Pg} (h:x.kind=0) (he:r.1+r.2=k):zs4 (pre ++ [r]) k x=pre ++ [(r.1,r.2+1)]:=by
 unfold zs4;rw [if_pos h];simp [he]
theorem zy3 {pre:List (Int × Int)} {r:Int × Int} {k:Int} {x:Pg} (h:x.kind=0) (he:¬r.1+r.2=k):zs4 (pre ++ [r]) k x=pre ++ [r] ++ [(k,1)]:=by
 unfold zs4;rw [if_pos h];simp [he]
theorem zy4 {ps:List Pg} {k:Nat} {x:Pg} (h:ps[k]?=some x):zi3 ps (k+1)=zs4 (zi3 ps k) k x:=by
 rw [zi3,h]
theorem zz9 (out:List (Int × Int)):out=[]\/∃ pre r,out=pre ++ [r]:=by
 rcases List.eq_nil_or_concat out with h | ⟨pre,r,h⟩
 · exact Or.inl h
 · exact Or.inr ⟨pre,r,by rw [h,List.concat_eq_append]⟩
theorem runs_bd (ps:List Pg):∀ (k:Nat) (r:Int × Int),r∈zi3 ps k->0<=r.1/\1<=r.2/\r.1+r.2<=k
 | 0,r,h=>by simp [zi3] at h
 | k+1,r,h=>by
  have ih:=runs_bd ps k
  cases hx:ps[k]? with
  | none =>
   rw [zi3,hx] at h
   have:=ih r h;omega
  | some x =>
   rw [zy4 hx] at h
   by_cases h0:x.kind=0
   · rcases zz9 (zi3 ps k) with e | ⟨pre,q,e⟩
     · rw [e,zy2 h0] at h
       simp at h;subst h;simp
     · rw [e] at h ih
       have hq:=ih q (by simp)
       by_cases he:q.1+q.2=k
       · rw [zw5 h0 he] at h
         rcases List.mem_append.1 h with h | h
         · have:=ih r (List.mem_append_left _ h);omega
         · simp at h;subst h;simp;omega
       · rw [zy3 h0 he] at h
         rcases List.mem_append.1 h with h | h
         · have:=ih r h;omega
         · simp at h;subst h;simp
   · rw [zz8 h0] at h
     have:=ih r h;omega
theorem runs_len (ps:List Pg):∀ k:Nat,(zi3 ps k).length<=k
 | 0=>Nat.le_refl _
 | k+1=>by
  have ih:=runs_len ps k
  cases hx:ps[k]? with
  | none=>rw [zi3,hx];exact Nat.le_succ_of_le ih
  | some x =>
   rw [zy4 hx]
   by_cases h0:x.kind=0
   · rcases zz9 (zi3 ps k) with e | ⟨pre,q,e⟩
     · rw [e,zy2 h0];simp
     · rw [e] at ih ⊢
       by_cases he:q.1+q.2=k
       · rw [zw5 h0 he];simp at ih ⊢;omega
       · rw [zy3 h0 he];simp at ih ⊢;omega
   · rw [zz8 h0];omega
theorem yc2 {w:World} {base s n:Nat} {e:TypeId} {v:Value} {xs:List Value} (h:w.ownsRow base e s v n xs) (d:Nat):(w.drewN d).ownsRow base e s v n xs:=zb5 h (below_drewN (Below.refl _ _) _)
theorem infoRun:(Tryz.prog.info? 92).map (fun i=>(i.zero,i.size,i.bytes))=some (some (.agg #[.int .i64 0,.int .i64 0]),2,16):=by kernel_rfl
theorem refRuns_any (p:Option Addr) (n cap:Nat) (ps:List Pg) (w:World) (hr:PRow w p n cap ps) (hn:n<=100000) :
 Calls Tryz.prog 143 #[.slice p n cap] w fun e w'=>RetR (runsV ps) e w'/\Below w.heap.size w w':=by
 obtain ⟨i0,hi,hz0,hz1,hz2⟩:=info_parts infoRun
 have Hr:=qq hr
 have Hlen:=qq hr.len
 clear hr
 go_enter Tryz.func143,Tryz.ntmps143
 go_wp2
 go_loopw [3,4] (fun v i wr=>∃ k:Nat,k<=n/\wr.ownsRow w.heap.size 92 2 v (zi3 ps k).length (rvals (zi3 ps k))/\i = .int .i64 k/\Below w.heap.size w wr) (fun _ i _=>n - (intOf i).toNat)
 case atStart=>exact ⟨0,by omega,World.ownsRow_nil _ _ _ _,rfl,Below.refl _ _⟩
 case round =>
  obtain ⟨k,hk,hown,rfl,hb⟩:=hrel
  by_cases hlt:k < n
  · obtain ⟨x,b,off,hx,rfl,c0,-,-,-⟩:=(Hr.out.keep hb).at_ hlt
    have hlt2:(k:Int) < n:=by omega
    have hs:=zy4 hx
    have hbd:=qq (runs_bd ps k)
    have hln:=runs_len ps k
    by_cases h0:x.kind=0
    · rcases zz9 (zi3 ps k) with e | ⟨pre,r,e⟩
      · rw [e,zy2 h0] at hs
        rw [e] at hown
        have Hs:=qq hs
        rw [h0] at c0
        obtain ⟨q,c,rfl,-⟩:=VRow.of_own hown
        have Hown:=qq hown
        have hsz:=hb.size
        clear hs hx h0 e hown hbd hln
        go_wp2
        go_quiet (fail)
        obtain ⟨w2,hw2⟩:∃ w2,Hid (wr.drewN nq=w2):=⟨_,rfl⟩
        rw [hw2.out]
        have hown2:w2.ownsRow w.heap.size 92 2 (.slice q 0 c) 0 (rvals []):=by rw [<-hw2.out];exact yc2 Hown.out _
        have hb2:Below w.heap.size w w2:=by rw [<-hw2.out];exact below_drewN hb _
        have hsz2:=hb2.size
        clear Hown
        go_wp2_with (at_builtin;refine wpList_append_own _ rfl _ _ 89 rfl w.heap.size 92 i0 _ 2 16 Tryz.underlying89 hi hz0 hz1 hz2 rfl (by decide) _ _ _ rfl (hown2.alloc _) ⟨w2.heap.size,0,none⟩ 1 1 [.int .i64 k,.int .i64 1] rfl rfl ?c1 ?c2 ?c3 ?c4 ?c5 ?_)
        case c1=>exact World.news_of_block (cs:=#[.int .i64 k,.int .i64 1]) (t:=92) (fr:=(0,0)) (heap_alloc_new w2 _)
        case c2=>simp [Value.oneCell']
        case c3=>unfold maxLen;omega
        case c4=>omega
        case c5=>simp;omega
        intro v' w3 hown3 hgrow3 _
        have hb3:Below w.heap.size w w3:=(hb2.alloc hb2.size _).grown hgrow3 (by have:=hb2.size;simp;omega) (fun j hj=>(hown2.lt j hj).1)
        rw [zz7 [] ((k:Int),1)] at hown3
        have hown4:=qq hown3
        clear hown3 hgrow3 hown2 hb2
        go_wp2
        go_roundw
        case rel=>exact ⟨k+1,by omega,by rw [Hs.out];simpa using hown4.out,by go_num,hb3⟩
        case measure=>simp [intOf];omega
      · have hbd':=hbd.out r (by rw [e];simp)
        obtain ⟨r1,r2⟩:=r
        simp only at hbd'
        obtain ⟨q1,q2,q3⟩:=hbd'
        have hlen:(zi3 ps k).length=pre.length+1:=by rw [e];simp
        obtain ⟨L,hL⟩:∃ L,Hid (pre.length=L):=⟨_,rfl⟩
        rw [hlen] at hown hln
        rw [e] at hown hs
        rw [h0] at c0
        obtain ⟨j0,j1⟩:=rvals_at (pre ++ [(r1,r2)]) pre.length (r1,r2) (by simp)
        rw [hL.out] at hown hln j0 j1
        obtain ⟨g,c,rfl,hg,hgl⟩:=World.ownsRow.form hown (by omega)
        have k0:=hown.cellAt (L*2) (by omega)
        have k1:=hown.cellAt (L*2+1) (by omega)
        rw [j0] at k0
        rw [j1] at k1
        have f1:=hown.frozenAt (L*2+1)
        have hbump:=(hown.stored (L*2+1) (.int .i64 (r2+1))).1
        rw [<-hL.out,rvals_bump pre (r1,r2),hL.out] at hbump
        have hLk:(L:Int)<=100000:=by omega
        have hw1:IntKind.i64.wrap (L:Int)=L:=IntWalk.i64_in _ (by omega)
        have hlenOut:(pre ++ [((r1:Int),r2+1)]).length=L+1:=by simp;exact hL.out
        have hlenNew:(pre ++ [((r1:Int),r2)] ++ [((k:Int),(1:Int))]).length=L+1+1:=by simp;exact hL.out
        have Hl1:=qq hlenOut
        have Hl2:=qq hlenNew
        have Hb:=qq hbump
        have Hown:=qq hown
        clear hlenOut hlenNew hbump hown j0 j1 hln hx hbd e hlen
        by_cases he:r1+r2=k
        · rw [zw5 h0 he] at hs
          have Hs:=qq hs
          have hw2:IntKind.i64.wrap (r1+r2)=k:=by rw [he];exact IntWalk.i64_in _ (by omega)
          clear hs h0 he Hl2
          go_wp2
          go_quiet (fail)
          clear hw1 hw2
          obtain ⟨w2,hw2⟩:∃ w2,Hid (wr.drewN nq=w2):=⟨_,rfl⟩
          rw [hw2.out]
          have m1:w2.cell? ⟨g,L*2+1,none⟩=some (.int .i64 r2):=by rw [<-hw2.out];simpa using k1
          have f2:w2.frozen? ⟨g,L*2+1,none⟩=false:=by rw [<-hw2.out];simpa using f1
          have hb2:Below w.heap.size w w2:=by rw [<-hw2.out];exact below_drewN hb _
          have hst:=qq (((yc2 Hown.out nq).stored (L*2+1) (.int .i64 (r2+1))).1)
          rw [<-hL.out,rvals_bump pre (r1,r2),hL.out,hw2.out] at hst
          clear k0 k1 f1 Hown Hb c0
          go_wp2
          go_roundw
          case rel=>exact ⟨k+1,by omega,by rw [Hs.out,Hl1.out];exact hst.out,by go_num,hb2.setCell hg _⟩
          case measure=>simp [intOf];omega
        · rw [zy3 h0 he] at hs
          have Hs:=qq hs
          have hw2:IntKind.i64.wrap (r1+r2)=r1+r2:=IntWalk.i64_in _ (by omega)
          have hw3:(r1+r2 == (k:Int))=false:=beq_eq_false_iff_ne.2 he
          clear hs h0 he Hl1 Hb
          go_wp2
          go_quiet (fail)
          clear hw1 hw2 hw3
          obtain ⟨w2,hw2⟩:∃ w2,Hid (wr.drewN nq=w2):=⟨_,rfl⟩
          rw [hw2.out]
          have hown2:w2.ownsRow w.heap.size 92 2 (.slice (some ⟨g,0,none⟩) (L+1) c) (L+1) (rvals (pre ++ [(r1,r2)])):=by rw [<-hw2.out];exact yc2 Hown.out _
          have hb2:Below w.heap.size w w2:=by rw [<-hw2.out];exact below_drewN hb _
          have hsz2:=hb2.size
          clear Hown k0 k1 f1 c0
          go_wp2_with (at_builtin;refine wpList_append_own _ rfl _ _ 89 rfl w.heap.size 92 i0 _ 2 16 Tryz.underlying89 hi hz0 hz1 hz2 rfl (by decide) _ _ _ rfl (hown2.alloc _) ⟨w2.heap.size,0,none⟩ 1 1 [.int .i64 k,.int .i64 1] rfl rfl ?c1 ?c2 ?c3 ?c4 ?c5 ?_)
          case c1=>exact World.news_of_block (cs:=#[.int .i64 k,.int .i64 1]) (t:=92) (fr:=(0,0)) (heap_alloc_new w2 _)
          case c2=>simp [Value.oneCell']
          case c3=>unfold maxLen;omega
          case c4=>omega
          case c5=>simp;omega
          intro v' w3 hown3 hgrow3 _
          have hb3:Below w.heap.size w w3:=(hb2.alloc hb2.size _).grown hgrow3 (by have:=hb2.size;simp;omega) (fun j hj=>(hown2.lt j hj).1)
          rw [zz7 (pre ++ [(r1,r2)]) ((k:Int),1)] at hown3
          have hown4:=qq hown3
          clear hown3 hgrow3 hown2 hb2
          go_wp2
          go_roundw
          case rel=>exact ⟨k+1,by omega,by rw [Hs.out];rw [Hl2.out];exact hown4.out,by go_num,hb3⟩
          case measure=>simp [intOf];omega
    · rw [zz8 h0] at hs
      have Hs:=qq hs
      have hne:(x.kind != 0)=true:=bne_iff_ne.2 h0
      have Hown:=qq hown
      clear hs hx h0 hown hbd hln
      go_wp2
      go_roundw
      case rel=>exact ⟨k+1,by omega,by rw [Hs.out];exact Hown.out,by go_num,hb⟩
      case measure=>simp [intOf];omega
  · obtain rfl:n=k:=by omega
    obtain ⟨q,c,rfl,hrow⟩:=VRow.of_own hown
    have Hrow:=qq hrow
    have E:Hid (runsV ps=zi3 ps n):=by unfold runsV;rw [Hlen.out];rfl
    clear hown hrow
    go_wp2
    go_ret
    exact ⟨⟨q,_,c,rfl,by rw [E.out];exact Hrow.out⟩,hb⟩
theorem and_dK (x:Nat) (hx:x < 18446744073709551616):bits .and .u64 ((x:Int) / 4) 3=((dK x:Nat):Int):=by
 have h:=u64_and_nat (x / 4) 3 (by omega) (by omega)
 rw [show ((x / 4:Nat):Int)=(x:Int) / 4 from by omega,show ((3:Nat):Int)=3 from rfl] at h
 rw [h,show (3:Nat)=2 ^ 2 - 1 from rfl,Nat.and_two_pow_sub_one_eq_mod];rfl
theorem and_dN (x:Nat) (hx:x < 18446744073709551616):bits .and .u64 ((x:Int) / 16) 4095=((dN x:Nat):Int):=by
 have h:=u64_and_nat (x / 16) 4095 (by omega) (by omega)
 rw [show ((x / 16:Nat):Int)=(x:Int) / 16 from by omega,show ((4095:Nat):Int)=4095 from rfl] at h
 rw [h,show (4095:Nat)=2 ^ 12 - 1 from rfl,Nat.and_two_pow_sub_one_eq_mod];rfl
theorem mod_dM (x:Nat):(x:Int) / 65536 % 4294967296=((dM x:Nat):Int):=by unfold dM;omega
theorem refDecode_yes (X K N M:Int) (w:World) (hk:bits .and .u64 (X / 4) 3=K) (hn:bits .and .u64 (X / 16) 4095=N) (hm:X / 65536 % 4294967296=M)
 (hK0:0<=K) (hK:K<=3) (hN0:0<=N) (hN:N<=4095) (hM0:0<=M) (hM:M < 4294967296) (he:Hid (encE K N M=0)) (hv:Hid (encV K N M=X)) :
 Calls Tryz.prog 72 #[.int .u64 X] w fun e w'=>e = .returned (.tuple #[.agg #[.int .i64 K,.int .i64 N,.int .u32 M],.bool true])/\Below w.heap.size w w':=by
 have Ho:=qq (Own3.new w (.int .i64 0) (.int .i64 0) (.int .u32 0) 54)
 go_enter Tryz.func72,Tryz.ntmps72
 go_wp2_with fail
 refine (zr9 K N M _ hM0 hM).mono ?_
 rw [he.out,hv.out]
 rintro e w1 ⟨rfl,hb1⟩
 have hb01:=za4 hb1
 obtain ⟨c0,c1,c2,f0,f1,f2⟩:=Ho.out.keep hb01
 obtain ⟨k0,k1,k2,-,-,-⟩:=(Own3.new (w.alloc (.cells #[.int .i64 0,.int .i64 0,.int .u32 0] 54)) (.int .i64 K) (.int .i64 N) (.int .u32 M) 54).keep hb1
 have hbw:=za4 hb01
 simp only [World.size_alloc] at k0 k1 k2
 clear Ho hb1 hb01
 go_wp2
 exact bodyPost_ret (v:=.tuple #[.agg #[.int .i64 K,.int .i64 N,.int .u32 M],.bool true]) (by simp [results,Tryz.results72,go_sem,c0,c1,c2]) rfl ⟨rfl,zb9 hbw (Nat.le_refl _)⟩
theorem refDecode_arg (X K N M:Int) (w:World) (hk:bits .and .u64 (X / 4) 3=K) (hn:bits .and .u64 (X / 16) 4095=N) (hm:X / 65536 % 4294967296=M)
 (hK0:0<=K) (hK:K<=3) (hN0:0<=N) (hN:N<=4095) (hM0:0<=M) (hM:M < 4294967296) (he:Hid (encE K N M=1)) :
 Calls Tryz.prog 72 #[.int .u64 X] w fun e w'=>e = .returned (.tuple #[.agg #[.int .i64 0,.int .i64 0,.int .u32 0],.bool false])/\Below w.heap.size w w':=by
 have Ho:=qq (Own3.new w (.int .i64 0) (.int .i64 0) (.int .u32 0) 54)
 go_enter Tryz.func72,Tryz.ntmps72
 go_wp2_with fail
 refine (zr9 K N M _ hM0 hM).mono ?_
 rw [he.out]
 rintro e w1 ⟨rfl,hb1⟩
 have hb01:=za4 hb1
 obtain ⟨c0,c1,c2,f0,f1,f2⟩:=Ho.out.keep hb01
 obtain ⟨k0,k1,k2,-,-,-⟩:=(Own3.new (w.alloc (.cells #[.int .i64 0,.int .i64 0,.int .u32 0] 54)) (.int .i64 K) (.int .i64 N) (.int .u32 M) 54).keep hb1
 have hbw:=za4 hb01
 simp only [World.size_alloc] at k0 k1 k2
 clear Ho hb1 hb01
 go_wp2
 exact bodyPost_ret (v:=.tuple #[.agg #[.int .i64 0,.int .i64 0,.int .u32 0],.bool false]) (by simp [results,Tryz.results72,go_sem,c0,c1,c2]) rfl ⟨rfl,zb9 hbw (Nat.le_refl _)⟩
theorem refDecode_word (X K N M:Int) (w:World) (hk:bits .and .u64 (X / 4) 3=K) (hn:bits .and .u64 (X / 16) 4095=N) (hm:X / 65536 % 4294967296=M)
 (hK0:0<=K) (hK:K<=3) (hN0:0<=N) (hN:N<=4095) (hM0:0<=M) (hM:M < 4294967296) (V:Int) (he:Hid (encE K N M=0)) (hv:Hid (encV K N M=V)) (hne:(V != X)=true) :
 Calls Tryz.prog 72 #[.int .u64 X] w fun e w'=>e = .returned (.tuple #[.agg #[.int .i64 0,.int .i64 0,.int .u32 0],.bool false])/\Below w.heap.size w w':=by
 have Ho:=qq (Own3.new w (.int .i64 0) (.int .i64 0) (.int .u32 0) 54)
 go_enter Tryz.func72,Tryz.ntmps72
 go_wp2_with fail
 refine (zr9 K N M _ hM0 hM).mono ?_
 rw [he.out,hv.out]
 rintro e w1 ⟨rfl,hb1⟩
 have hb01:=za4 hb1
 obtain ⟨c0,c1,c2,f0,f1,f2⟩:=Ho.out.keep hb01
 obtain ⟨k0,k1,k2,-,-,-⟩:=(Own3.new (w.alloc (.cells #[.int .i64 0,.int .i64 0,.int .u32 0] 54)) (.int .i64 K) (.int .i64 N) (.int .u32 M) 54).keep hb1
 have hbw:=za4 hb01
 simp only [World.size_alloc] at k0 k1 k2
 clear Ho hb1 hb01
 go_wp2
 exact bodyPost_ret (v:=.tuple #[.agg #[.int .i64 0,.int .i64 0,.int .u32 0],.bool false]) (by simp [results,Tryz.results72,go_sem,c0,c1,c2]) rfl ⟨rfl,zb9 hbw (Nat.le_refl _)⟩
theorem zs0 (x:Nat) (w:World) (hx:x < 18446744073709551616) :
 Calls Tryz.prog 72 #[.int .u64 x] w fun e w'=>e = .returned (.tuple #[.agg #[.int .i64 (decK x),.int .i64 (decN x),.int .u32 (decM x)],.bool (okD x)])/\Below w.heap.size w w':=by
 have h1:=and_dK x hx
 have h2:=and_dN x hx
 have h3:=mod_dM x
 have b1:(dK x:Int)<=3:=by unfold dK;omega
 have b2:(dN x:Int)<=4095:=by unfold dN;omega
 have b3:(dM x:Int) < 4294967296:=by unfold dM;omega
 by_cases ho:okD x=true
 · obtain ⟨e1,e2,e3⟩:=dec_ok ho
   obtain ⟨g1,g2⟩:=word_iff.1 ho
   obtain ⟨E,V⟩:=enc_ok g1
   rw [e1,e2,e3,ho]
   exact refDecode_yes x (dK x) (dN x) (dM x) w h1 h2 h3 (by omega) b1 (by omega) b2 (by omega) b3 V (E.trans g2)
 · have hn:okD x=false:=by simpa using ho
   obtain ⟨e1,e2,e3⟩:=dec_no hn
   rw [e1,e2,e3,hn]
   by_cases hv:zb3 (dK x) (dN x) (dM x)=true
   · obtain ⟨E,V⟩:=enc_ok hv
     have hne:zg9 (dK x) (dN x) (dM x)≠x:=fun c=>ho (word_iff.2 ⟨hv,c⟩)
     exact refDecode_word x (dK x) (dN x) (dM x) w h1 h2 h3 (by omega) b1 (by omega) b2 (by omega) b3 _ V E (bne_iff_ne.2 hne)
   · have hv:zb3 (dK x) (dN x) (dM x)=false:=by simpa using hv
     exact refDecode_arg x (dK x) (dN x) (dM x) w h1 h2 h3 (by omega) b1 (by omega) b2 (by omega) b3 (enc_no hv).2
theorem refForward_any (a:Int) (w:World) (ha:0<=a) :
 Calls Tryz.prog 149 #[.int .u64 a] w fun e w'=>e = .returned (.tuple #[.int .u64 (fwdV a),.int .i64 (fwdE a)])/\w=w':=by
 by_cases h:a < 4294967296
 · obtain ⟨e1,e2⟩:=fwd_ok h
   rw [e1,e2]
   clear e1 e2
   go_enter Tryz.func149,Tryz.ntmps149
   go_wp2
   go_ret2
   exact ⟨rfl,rfl⟩
 · obtain ⟨e1,e2⟩:=fwd_no h
   rw [e1,e2]
   clear e1 e2
   go_enter Tryz.func149,Tryz.ntmps149
   go_wp2
   go_ret2
   exact ⟨rfl,rfl⟩
theorem refTarget_i (X R D:Int) (v:Bool) (w:World) (hX0:0<=X) (hX:X < 18446744073709551616) (h4:X % 4=R) (hD:X / 4=D) (hv:Hid (v=(decide (R=2) && decide (D < 4294967296)))) :
 Calls Tryz.prog 140 #[.int .u64 X] w fun e w'=>e = .returned (.tuple #[.int .u64 (if v then D else 0),.bool v])/\w=w':=by
 by_cases h:R=2
 · subst h
   by_cases h2:D < 4294967296
   · have hv:=hv.out
     simp [h2] at hv
     subst hv
     go_enter Tryz.func140,Tryz.ntmps140
     go_wp2
     go_ret2
     exact ⟨rfl,rfl⟩
   · have hv:=hv.out
     simp [h2] at hv
     subst hv
     go_enter Tryz.func140,Tryz.ntmps140
     go_wp2
     go_ret2
     exact ⟨rfl,rfl⟩
 · have hv:=hv.out
   simp [h] at hv
   subst hv
   have hne:(R != 2)=true:=bne_iff_ne.2 h
   clear h
   go_enter Tryz.func140,Tryz.ntmps140
   go_wp2
   go_ret2
   exact ⟨rfl,rfl⟩
theorem zk8 (x:Nat) (w:World) (hx:x < 18446744073709551616) :
 Calls Tryz.prog 140 #[.int .u64 x] w fun e w'=>e = .returned (.tuple #[.int .u64 (tgtV x),.bool (okT x)])/\w=w':=by
 have h:=refTarget_i x ((x % 4:Nat):Int) ((x / 4:Nat):Int) (okT x) w (by omega) (by omega) (by omega) (by omega) (by
  unfold okT
  show _=_
  rw [Bool.eq_iff_iff];simp only [Bool.and_eq_true,decide_eq_true_eq];omega)
 have e:tgtV x=if okT x=true then ((x / 4:Nat):Int) else 0:=rfl
 rw [e]
 exact h
theorem zn3 (k n m:Int) (w:World) (hm0:0<=m) (hm:m < 4294967296) :
 Calls Tryz.prog 73 #[.agg #[.int .i64 k,.int .i64 n,.int .u32 m]] w fun e w'=>e = .returned (.int .i64 (zd8 k n m))/\Below w.heap.size w w':=by
 have hc:=qq (zj9 k n m (w.alloc (.cells #[.int .i64 k,.int .i64 n,.int .u32 m] 54)) hm0 hm)
 by_cases hv:zb3 k n m=true
 · rw [zu2 hv]
   obtain ⟨-,-,h3,h4,-,-⟩:=ze3 hv
   rw [hv] at hc
   clear hv
   go_enter Tryz.func73,Tryz.ntmps73
   go_wp2_with fail
   refine hc.out.mono ?_
   rintro e w1 ⟨rfl,hb1⟩
   obtain ⟨c0,c1,c2⟩:=box3 (by simpa using hb1)
   clear hc
   go_wp2
   go_ret
   exact ⟨rfl,za4 hb1⟩
 · have hv:zb3 k n m=false:=by simpa using hv
   rw [size_no hv]
   rw [hv] at hc
   clear hv
   go_enter Tryz.func73,Tryz.ntmps73
   go_wp2_with fail
   refine hc.out.mono ?_
   rintro e w1 ⟨rfl,hb1⟩
   clear hc
   go_wp2
   go_ret
   exact ⟨rfl,za4 hb1⟩
theorem refPointer_in (k n m:Int) (i:Nat) (w:World) (hm0:0<=m) (hm:m < 4294967296) (hv:zb3 k n m=true) (hi:(i:Int) < n) :
 Calls Tryz.prog 107 #[.agg #[.int .i64 k,.int .i64 n,.int .u32 m],.int .i64 i] w fun e w'=>e = .returned (.bool (decide (k=2) || (decide (k=1) && m.toNat.testBit i)))/\Below w.heap.size w w':=by
 have hc:=qq (zj9 k n m (w.alloc (.cells #[.int .i64 k,.int .i64 n,.int .u32 m] 54)) hm0 hm)
 rw [hv] at hc
 obtain ⟨h1,h2,h3,h4,-,-⟩:=ze3 hv
 obtain ⟨m,rfl⟩:=Int.eq_ofNat_of_zero_le hm0
 have hbit:=qq (bit_test m i (by omega))
 rw [Int.toNat_natCast]
 clear hv hm0 hm
 obtain ⟨b,hb⟩:∃ b,Hid (m.testBit i=b):=⟨_,rfl⟩
 rw [hb.out]
 rw [hb.out] at hbit
 rcases (show k=0\/k=1\/k=2\/k=3 by omega) with rfl | rfl | rfl | rfl
 all_goals
  go_enter Tryz.func107,Tryz.ntmps107
  go_wp2_with fail
  refine hc.out.mono ?_
  rintro e w1 ⟨rfl,hb1⟩
  obtain ⟨c0,c1,c2⟩:=box3 (by simpa using hb1)
  clear hc
  go_wp2
  go_ret
  first
   | exact ⟨rfl,za4 hb1⟩
   | exact ⟨za9 (by rw [<-hbit.out];simp),za4 hb1⟩
theorem refPointer_out (k n m i:Int) (w:World) (hm0:0<=m) (hm:m < 4294967296) (h:zb3 k n m=false\/i < 0\/n<=i) :
 Calls Tryz.prog 107 #[.agg #[.int .i64 k,.int .i64 n,.int .u32 m],.int .i64 i] w fun e w'=>e = .returned (.bool false)/\Below w.heap.size w w':=by
 have hc:=qq (zj9 k n m (w.alloc (.cells #[.int .i64 k,.int .i64 n,.int .u32 m] 54)) hm0 hm)
 by_cases hv:zb3 k n m=true
 · have hin:i < 0\/n<=i:=by
    rcases h with h | h
    · rw [hv] at h;cases h
    · exact h
   rw [hv] at hc
   clear hv h hm0 hm
   by_cases hi:i < 0
   · clear hin
     go_enter Tryz.func107,Tryz.ntmps107
     go_wp2_with fail
     refine hc.out.mono ?_
     rintro e w1 ⟨rfl,hb1⟩
     clear hc
     go_wp2
     go_ret
     exact ⟨rfl,za4 hb1⟩
   · have hi:n<=i:=by omega
     clear hin
     go_enter Tryz.func107,Tryz.ntmps107
     go_wp2_with fail
     refine hc.out.mono ?_
     rintro e w1 ⟨rfl,hb1⟩
     obtain ⟨c0,c1,c2⟩:=box3 (by simpa using hb1)
     clear hc
     go_wp2
     go_ret
     exact ⟨rfl,za4 hb1⟩
 · have hv:zb3 k n m=false:=by simpa using hv
   rw [hv] at hc
   clear hv h hm0 hm
   go_enter Tryz.func107,Tryz.ntmps107
   go_wp2_with fail
   refine hc.out.mono ?_
   rintro e w1 ⟨rfl,hb1⟩
   clear hc
   go_wp2
   go_ret
   exact ⟨rfl,za4 hb1⟩
theorem zn4 (k n m i:Int) (w:World) (hm0:0<=m) (hm:m < 4294967296) :
 Calls Tryz.prog 107 #[.agg #[.int .i64 k,.int .i64 n,.int .u32 m],.int .i64 i] w fun e w'=>e = .returned (.bool (ptrB k n m i))/\Below w.heap.size w w':=by
 by_cases h:zb3 k n m=true/\0<=i/\i < n
 · obtain ⟨h1,h2,h3⟩:=h
   rw [ptr_ok h1 h2 h3]
   obtain ⟨i,rfl⟩:=Int.eq_ofNat_of_zero_le h2
   exact refPointer_in k n m i w hm0 hm h1 h3
 · have h:zb3 k n m=false\/i < 0\/n<=i:=by
    by_cases hv:zb3 k n m=true
    · right;by_cases h1:i < 0
      · exact Or.inl h1
      · right;by_cases h2:n<=i
        · exact h2
        · exact absurd ⟨hv,by omega,by omega⟩ h
    · left;simpa using hv
   rw [ptr_no h]
   exact refPointer_out k n m i w hm0 hm h
theorem ye0 (k n m:Int) (w:World) (hm0:0<=m) (hm:m < 4294967296) (hv:zb3 k n m=false) :
 Calls Tryz.prog 150 #[.agg #[.int .i64 k,.int .i64 n,.int .u32 m]] w fun e w'=>RetI [] e w'/\Below w.heap.size w w':=by
 have Hv:=qq (fun w=>zj9 k n m w hm0 hm)
 rw [hv] at Hv
 clear hv hm0 hm
 go_enter Tryz.func150,Tryz.ntmps150
 go_wp2
 go_loopw [3,4] (fun v i wr=>v = .slice none 0 0/\i = .int .i64 0/\wr=w.alloc (.cells #[.int .i64 k,.int .i64 n,.int .u32 m] 54)) (fun _ _ _=>0)
 case atStart=>exact ⟨rfl,rfl,rfl⟩
 case round =>
  obtain ⟨rfl,rfl,rfl⟩:=hrel
  by_cases h:0 < n
  · go_wp2_with fail
    refine (Hv.out _).mono ?_
    rintro e w1 ⟨rfl,hb1⟩
    clear Hv
    go_wp2
    go_ret
    exact ⟨RetI.nil _,za4 hb1⟩
  · go_wp2
    go_ret
    exact ⟨RetI.nil _,za1⟩
structure But (tb:Nat) (w w':World):Prop where
 os:w'.os=w.os
 tape:w'.tape=w.tape
 output:w'.output=w.output
 size:w.heap.size<=w'.heap.size
 block:∀ k,k < w.heap.size->k≠tb->w'.heap[k]?=w.heap[k]?
theorem But.refl (tb:Nat) (w:World):But tb w w:=⟨rfl,rfl,rfl,Nat.le_refl _,fun _ _ _=>rfl⟩
theorem But.trans {tb:Nat} {a b c:World} (h:But tb a b) (k:But tb b c):But tb a c :=
 ⟨k.os.trans h.os,k.tape.trans h.tape,k.output.trans h.output,Nat.le_trans h.size k.size,fun i hi hn=>(k.block i (Nat.lt_of_lt_of_le hi h.size) hn).trans (h.block i hi hn)⟩
theorem But.of (tb:Nat) {w w':World} (h:Below w.heap.size w w'):But tb w w':=⟨h.os,h.tape,h.output,h.size,fun k hk _=>h.block k hk⟩
theorem But.then {tb:Nat} {a b c:World} (h:But tb a b) (k:Below b.heap.size b c):But tb a c:=h.trans (But.of tb k)
theorem But.set {tb:Nat} {a w:World} (h:But tb a w) (i:Nat) (u:Value):But tb a (w.setCell ⟨tb,i,none⟩ u) :=
 h.trans ⟨rfl,rfl,rfl,by simp [World.setCell],fun k _ hk=>Below.heap_setCell _ _ _ _ hk⟩
theorem But.cell {tb:Nat} {w w':World} {a:Addr} {v:Value} (h:But tb w w') (hc:w.cell? a=some v) (hne:a.block≠tb):w'.cell? a=some v:=by
 rw [World.cell?_of_block (w:=w) (h.block a.block (zb4 hc) hne)];exact hc
theorem But.frozen {tb:Nat} {w w':World} {a:Addr} (h:But tb w w') (hlt:a.block < w.heap.size) (hne:a.block≠tb):w'.frozen? a=w.frozen? a :=
 World.frozen?_of_block (w:=w) (h.block a.block hlt hne)
theorem OwnL.but {tb:Nat} {w w':World} {b:Nat} {vs:List Value} (h:OwnL w b vs) (hb:But tb w w') (hlt:b < w.heap.size) (hne:b≠tb):OwnL w' b vs :=
 ⟨fun i v hv=>hb.cell (h.cell i v hv) hne,fun i=>by rw [hb.frozen (a:=⟨b,i,none⟩) hlt hne];exact h.free i⟩
structure Tp (w:World) (tb:Nat) (lp:Option Addr) (ln lc:Nat) (xs:List Int) (j:Nat):Prop where
 own:OwnL w tb [.slice lp ln lc,.int .i64 j]
 blk:∃ T f,w.heap[tb]?=some (.cells #[.slice lp ln lc,.int .i64 j] T f)
 row:SRow w .i64 lp ln lc xs
 ap:xs≠[]->∀ ad,lp=some ad->ad.block < tb
theorem Tp.lt {w:World} {tb:Nat} {lp:Option Addr} {ln lc:Nat} {xs:List Int} {j:Nat} (h:Tp w tb lp ln lc xs j):tb < w.heap.size:=h.own.lt rfl
theorem Tp.keep {w w':World} {tb:Nat} {lp:Option Addr} {ln lc:Nat} {xs:List Int} {j:Nat} (h:Tp w tb lp ln lc xs j) (hb:Below w.heap.size w w'):Tp w' tb lp ln lc xs j :=
 ⟨h.own.keep hb h.lt,by obtain ⟨T,f,e⟩:=h.blk;exact ⟨T,f,by rw [hb.block tb h.lt];exact e⟩,h.row.keep hb,h.ap⟩
theorem Tp.next {w:World} {tb:Nat} {lp:Option Addr} {ln lc:Nat} {xs:List Int} {j:Nat} (h:Tp w tb lp ln lc xs j) (i:Nat):Tp (w.setCell ⟨tb,1,none⟩ (.int .i64 i)) tb lp ln lc xs i:=by
 obtain ⟨T,f,e⟩:=h.blk
 refine ⟨h.own.set 1 _ (by simp),⟨T,f,?_⟩,⟨h.row.len,h.row.le,h.row.max,fun k x hx=>?_⟩,h.ap⟩
 · simp only [World.setCell,Array.getElem?_modify,if_true,e]
   rfl
 · obtain ⟨b,off,hp,hc⟩:=h.row.row k x hx
   exact ⟨b,off,hp,by rw [World.cell?_setCell_other _ _ _ _ (fun e=>by have:=h.ap (fun e=>by rw [e] at hx;simp at hx) _ hp;simp only [Addr.mk.injEq] at e;simp only at this;omega)];exact hc⟩
theorem Tp.only {w:World} {tb:Nat} {lp:Option Addr} {ln lc:Nat} {xs:List Int} {j:Nat} (h:Tp w tb lp ln lc xs j) {i:Nat} {v:Value} (hc:w.cell? ⟨tb,i,none⟩=some v):(i=0/\v = .slice lp ln lc)\/(i=1/\v = .int .i64 j):=by
 obtain ⟨T,f,e⟩:=h.blk
 unfold World.cell? at hc
 rw [e] at hc
 rcases i with _ | _ | i
 · left;simpa using hc.symm
 · right;simpa using hc.symm
 · simp at hc
theorem SRow.but {w w':World} {tb:Nat} {lp p:Option Addr} {ln lc n c:Nat} {xs l:List Int} {j:Nat} (h:SRow w .u64 p n c l) (ht:Tp w tb lp ln lc xs j) (hb:But tb w w'):SRow w' .u64 p n c l:=by
 refine ⟨h.len,h.le,h.max,fun k x hx=>?_⟩
 obtain ⟨b,off,hp,hc⟩:=h.row k x hx
 refine ⟨b,off,hp,hb.cell hc (fun e=>?_)⟩
 simp only at e
 subst e
 rcases ht.only hc with ⟨-,e⟩ | ⟨-,e⟩ <;> cases e
theorem yc7 {v n:Int} (hn:1<=n):0<=(v.tmod n+n).tmod n/\(v.tmod n+n).tmod n < n/\-n < v.tmod n/\v.tmod n < n:=by
 have h1:=Int.tmod_lt_of_pos v (show 0 < n by omega)
 have h2:=Int.lt_tmod_of_pos v (show 0 < n by omega)
 have h3:=Int.tmod_nonneg n (show 0<=v.tmod n+n by omega)
 exact ⟨h3,Int.tmod_lt_of_pos _ (by omega),h2,h1⟩
theorem done_any (tb:Nat) (lp:Option Addr) (ln lc:Nat) (xs:List Int) (j:Nat) (w:World) (h:Tp w tb lp ln lc xs j) :
 Calls Tryz.prog 43 #[.pointer (some ⟨tb,0,none⟩)] w fun e w'=>e = .returned (.bool (decide (ln<=j)))/\Below w.heap.size w w':=by
 have c0:=h.own.cell 0 _ rfl
 have c1:=h.own.cell 1 _ rfl
 have hl:=h.row.i63.2
 clear h
 go_enter Tryz.func43,Tryz.ntmps43
 go_wp2
 go_quiet (fail)
 go_wp2
 go_ret
 exact ⟨rfl,below_drewN (Below.refl _ _) _⟩
def NextP (tb:Nat) (lp:Option Addr) (ln lc:Nat) (xs:List Int) (j:Nat) (nn:Int) (w:World) (e:Ending) (w':World):Prop :=
 ∃ v,e = .returned (.int .i64 v)/\0<=v/\(nn < 1->v=0)/\(1<=nn->v < nn)/\(∃ j',j<=j'/\j'<=j+1/\(1<=nn->j'=j+1)/\Tp w' tb lp ln lc xs j')/\But tb w w'
theorem ze2 (tb:Nat) (lp:Option Addr) (ln lc:Nat) (xs:List Int) (j:Nat) (nn:Int) (w:World) (h:Tp w tb lp ln lc xs j) (hj:j<=100000) (hnn:nn<=1000000) :
 Calls Tryz.prog 45 #[.pointer (some ⟨tb,0,none⟩),.int .i64 nn] w fun e w'=>NextP tb lp ln lc xs j nn w e w':=by
 have c0:=h.own.cell 0 _ rfl
 have c1:=h.own.cell 1 _ rfl
 have f1:=h.own.free 1
 have hl:=h.row.i63.2
 have H:=qq h
 by_cases h0:nn < 1
 · clear h
   go_enter Tryz.func45,Tryz.ntmps45
   go_wp2
   go_ret
   exact ⟨0,rfl,Int.le_refl _,fun _=>rfl,fun h=>by omega,⟨j,Nat.le_refl _,by omega,fun h=>by omega,H.out⟩,But.refl _ _⟩
 · have h1:1<=nn:=by omega
   have hne:nn≠0:=by omega
   have e1:IntKind.i64.wrap ((j:Int)*7)=(j:Int)*7:=IntWalk.i64_in _ (by omega)
   have e2:IntKind.i64.wrap ((j:Int)*7+3)=(j:Int)*7+3:=IntWalk.i64_in _ (by omega)
   have e3:IntKind.i64.wrap ((j:Int)+1)=((j+1:Nat):Int):=by rw [IntWalk.i64_in _ (by omega)];rfl
   by_cases hlt:j < ln
   · obtain ⟨V,b,off,hx,rfl,d0⟩:=h.row.at_ hlt
     obtain ⟨t1,t2,t3,t4⟩:=yc7 (v:=V) h1
     obtain ⟨r,hr⟩:∃ r,V.tmod nn=r:=⟨_,rfl⟩
     rw [hr] at t1 t2 t3 t4
     obtain ⟨z,hz⟩:∃ z,(r+nn).tmod nn=z:=⟨_,rfl⟩
     rw [hz] at t1 t2
     have e4:IntKind.i64.wrap (r+nn)=r+nn:=IntWalk.i64_in _ (by omega)
     clear h hx
     have hlt2:(j:Int) < ln:=by omega
     go_enter Tryz.func45,Tryz.ntmps45
     go_wp2
     go_quiet (fail)
     go_wp2
     go_quiet (fail)
     go_wp2
     go_ret
     refine ⟨z,rfl,t1,fun h=>by omega,fun _=>t2,⟨j+1,by omega,Nat.le_refl _,fun _=>rfl,?_⟩,?_⟩
     · exact Tp.next (H.out.keep (below_drewN (Below.refl _ _) _)) (j+1)
     · exact But.set (But.of _ (below_drewN (Below.refl _ _) _)) 1 _
   · obtain ⟨V,hV⟩:∃ V:Int,(j:Int)*7+3=V:=⟨_,rfl⟩
     rw [hV] at e2
     obtain ⟨t1,t2,t3,t4⟩:=yc7 (v:=V) h1
     obtain ⟨r,hr⟩:∃ r,V.tmod nn=r:=⟨_,rfl⟩
     rw [hr] at t1 t2 t3 t4
     obtain ⟨z,hz⟩:∃ z,(r+nn).tmod nn=z:=⟨_,rfl⟩
     rw [hz] at t1 t2
     have e4:IntKind.i64.wrap (r+nn)=r+nn:=IntWalk.i64_in _ (by omega)
     clear h
     have hlt2:¬(j:Int) < ln:=by omega
     go_enter Tryz.func45,Tryz.ntmps45
     go_wp2
     go_quiet (fail)
     go_wp2
     go_ret
     refine ⟨z,rfl,t1,fun h=>by omega,fun _=>t2,⟨j+1,by omega,Nat.le_refl _,fun _=>rfl,?_⟩,?_⟩
     · exact Tp.next (H.out.keep (below_drewN (Below.refl _ _) _)) (j+1)
     · exact But.set (But.of _ (below_drewN (Below.refl _ _) _)) 1 _
theorem But.setCells {b:Nat} {w:World}:∀ (vs:List Value) (o:Nat),But b w (w.setCells b o vs)
 | vs,o=>by
  have h:∀ (vs:List Value) (o:Nat) (w1:World),But b w w1->But b w (w1.setCells b o vs):=by
   intro vs
   induction vs with
   | nil=>intro o w1 h;exact h
   | cons v r ih=>intro o w1 h;exact ih (o+1) _ (h.set o v)
  exact h vs o w (But.refl b w)
theorem But.low {b B:Nat} {w w':World} (h:But b w w') (hB:B<=b) (hs:B<=w.heap.size):Below B w w' :=
 ⟨h.os,h.tape,h.output,h.size,fun k hk=>h.block k (by omega) (by omega)⟩
theorem OwnL.range {w:World} {b:Nat} {vs:List Value} (h:OwnL w b vs):w.rangeAt b 0 vs:=fun j v hv=>by rw [Nat.zero_add];exact h.cell j v hv
theorem OwnL.isThere {w:World} {b:Nat} {ys:List Value} (h:OwnL w b ys) {n:Nat} (hn:n<=ys.length):w.there b 0 n:=fun j hj=>by
 rw [Nat.zero_add]
 exact ⟨by rw [h.cell j _ (List.getElem?_eq_getElem (by omega))];rfl,h.free j⟩
theorem OwnL.setCells {w:World} {b:Nat} {ys vs:List Value} (h:OwnL w b ys) (hl:ys.length=vs.length):OwnL (w.setCells b 0 vs) b vs :=
 ⟨fun i v hv=>by have:=World.rangeAt_setCells_same w b 0 vs (h.isThere (by omega)) i v hv;rwa [Nat.zero_add] at this,fun i=>by rw [World.frozen?_setCells];exact h.free i⟩
theorem zq7 {w w':World} {b B e s g n c m:Nat} {xs:List Value} (h:w.ownsRow B e s (.slice (some ⟨g,0,none⟩) n c) m xs) (hb:But b w w') (hne:g≠b):w'.ownsRow B e s (.slice (some ⟨g,0,none⟩) n c) m xs:=by
 have hlt:=(h.lt g rfl).2
 refine ⟨h.1,?_⟩
 rcases h.2 with hn | ⟨g',cap,cur,hv,hg,hh,rest⟩
 · exact .inl hn
 · simp only [Value.slice.injEq,Option.some.injEq,Addr.mk.injEq,and_true,true_and] at hv
   obtain ⟨rfl,rfl,rfl⟩:=hv
   exact .inr ⟨g,c,cur,rfl,hg,by rw [hb.block g hlt hne];exact hh,rest⟩
theorem SRow.butNe {w w':World} {kd:IntKind} {b:Nat} {p:Option Addr} {n c:Nat} {xs:List Int} (h:SRow w kd p n c xs) (hb:But b w w') (hf:xs≠[]->∀ ad,p=some ad->ad.block≠b):SRow w' kd p n c xs :=
 ⟨h.len,h.le,h.max,fun k x hx=>by
  obtain ⟨b',off,hp,hc⟩:=h.row k x hx
  exact ⟨b',off,hp,hb.cell hc (hf (fun e=>by rw [e] at hx;simp at hx) ⟨b',off,none⟩ hp)⟩⟩
theorem VRow.butNe {w w':World} {s b:Nat} {p:Option Addr} {n c:Nat} {xs:List Value} (h:VRow w s p n c xs) (hb:But b w w') (hf:xs≠[]->∀ ad,p=some ad->ad.block≠b):VRow w' s p n c xs :=
 ⟨h.len,h.le,h.max,fun k x hx=>by
  obtain ⟨b',off,hp,hc⟩:=h.row k x hx
  exact ⟨b',off,hp,hb.cell hc (hf (fun e=>by rw [e] at hx;simp at hx) ⟨b',off,none⟩ hp)⟩⟩
theorem SRow.butU {w w':World} {b:Nat} {p:Option Addr} {n c:Nat} {xs:List Int} (h:SRow w .u64 p n c xs) (hb:But b w w') (hu:∀ i x,w.cell? ⟨b,i,none⟩≠some (.int .u64 x)):SRow w' .u64 p n c xs :=
 ⟨h.len,h.le,h.max,fun k x hx=>by
  obtain ⟨b',off,hp,hc⟩:=h.row k x hx
  exact ⟨b',off,hp,hb.cell hc (fun e=>hu (off+k) x (by simp only at e;rw [<-e];exact hc))⟩⟩
section
variable {P:Program} {ops:Array Oper} {Q:Exit->Act->World->Prop} {a:Act} {w:World} {rest:List Oper} {op:Oper}
def IsS (P:Program) (T:TypeId) (n:Nat):Prop:=(P.underlying T).map (·.isRow)=some true/\(P.info? T).map (·.size)=some n
theorem za7 (hgd:op.guard=none) (T:TypeId) (x:Operand) (ho:op.op = .load T x) (b:Nat) (hx:a.eval x = .pointer (some ⟨b,0,none⟩)) (vs:List Value) (h:OwnL w b vs) (hT:IsS P T vs.length)
 (hK:wpList P ops Q rest (a.put op.dst (.agg vs.toArray)) w):wpList P ops Q (op :: rest) a w:=by
 obtain ⟨hd0,hi⟩:=hT
 obtain ⟨d,hd,hr⟩:=Option.map_eq_some_iff.1 hd0
 exact wpList_load_mid hgd T x ho b 0 hx vs d h.range hd hr hi hK
theorem za6 (hgd:op.guard=none) (T:TypeId) (x y:Operand) (ho:op.op = .store T x y) (b:Nat) (hx:a.eval x = .pointer (some ⟨b,0,none⟩)) (vs ys:List Value) (hy:a.eval y = .agg vs.toArray) (h:OwnL w b ys) (hl:ys.length=vs.length) (h1:vs.all (·.oneCell')=true) (hT:IsS P T vs.length)
 (hK:∀ w',OwnL w' b vs->But b w w'->Hid (w'=w.setCells b 0 vs)->wpList P ops Q rest (a.put op.dst undef) w'):wpList P ops Q (op :: rest) a w :=
 wpList_store_mid hgd T x y ho b 0 vs.toArray hx hy (h.isThere (by simp;omega)) (by simpa using hT.2) (by simpa using h1) (hK _ (h.setCells hl) (But.setCells vs 0) (qq rfl))
theorem zc9 {fn:Func} {tmps:Array Value} {t:Nat} {T:TypeId} {b:Nat} {vs:List Value} (hr:fn.results=#[.cell t T]) (ht:tmps.getD t undef = .pointer (some ⟨b,0,none⟩)) (h:OwnL w b vs) (hT:IsS P T vs.length) :
 (results fn tmps).run P w = .ok (.agg vs.toArray) w:=by
 obtain ⟨hd0,hi⟩:=hT
 obtain ⟨d,hd,hr'⟩:=Option.map_eq_some_iff.1 hd0
 have ht':tmps[t]?.getD undef = .pointer (some ⟨b,0,none⟩):=by simpa using ht
 simp [results,hr,ht',asAddr,run_loadVar_mid w b 0 T vs d h.range hd hr' hi]
theorem yb9 {fn:Func} {tmps:Array Value} {t s1:Nat} {T:TypeId} {b:Nat} {vs:List Value} (hr:fn.results=#[.cell t T,.tmp s1]) (ht:tmps.getD t undef = .pointer (some ⟨b,0,none⟩)) (h:OwnL w b vs) (hT:IsS P T vs.length) :
 (results fn tmps).run P w = .ok (.tuple #[.agg vs.toArray,tmps.getD s1 undef]) w:=by
 obtain ⟨hd0,hi⟩:=hT
 obtain ⟨d,hd,hr'⟩:=Option.map_eq_some_iff.1 hd0
 have ht':tmps[t]?.getD undef = .pointer (some ⟨b,0,none⟩):=by simpa using ht
 simp [results,hr,ht',asAddr,run_loadVar_mid w b 0 T vs d h.range hd hr' hi]
theorem ze5 {fn:Func} {tmps:Array Value} {t s1 s2:Nat} {T:TypeId} {b:Nat} {vs:List Value} (hr:fn.results=#[.cell t T,.tmp s1,.tmp s2]) (ht:tmps.getD t undef = .pointer (some ⟨b,0,none⟩)) (h:OwnL w b vs) (hT:IsS P T vs.length) :
 (results fn tmps).run P w = .ok (.tuple #[.agg vs.toArray,tmps.getD s1 undef,tmps.getD s2 undef]) w:=by
 obtain ⟨hd0,hi⟩:=hT
 obtain ⟨d,hd,hr'⟩:=Option.map_eq_some_iff.1 hd0
 have ht':tmps[t]?.getD undef = .pointer (some ⟨b,0,none⟩):=by simpa using ht
 simp [results,hr,ht',asAddr,run_loadVar_mid w b 0 T vs d h.range hd hr' hi]
end
theorem za8:IsS Tryz.prog 146 16:=⟨by kernel_rfl,by kernel_rfl⟩
def RetIF (B:Nat) (xs:List Int) (e:Ending) (w':World):Prop:=∃ q m c,e = .returned (.slice q m c)/\SRow w' .i64 q m c xs/\(xs≠[]->∀ ad,q=some ad->B<=ad.block)
theorem refPointersF_ok (k m:Int) (n:Nat) (w:World) (hm0:0<=m) (hm:m < 4294967296) (hv:zb3 k n m=true) :
 Calls Tryz.prog 150 #[.agg #[.int .i64 k,.int .i64 n,.int .u32 m]] w fun e w'=>RetIF w.heap.size (zj8 k n m n) e w'/\Below w.heap.size w w':=by
 obtain ⟨i0,hi,hz0,hz1,hz2⟩:=info_parts infoInt
 obtain ⟨-,-,h3,h4,-,-⟩:=ze3 hv
 have Hm:=qq (And.intro hm0 hm)
 have Hv:=qq (fun w=>zj9 k n m w hm0 hm)
 rw [hv] at Hv
 clear hv hm0 hm
 go_enter Tryz.func150,Tryz.ntmps150
 go_wp2
 go_loopw [3,4] (fun v i wr=>∃ j:Nat,j<=n/\wr.ownsRow (w.heap.size+1) 3 1 v (zj8 k n m j).length (zb2 .i64 (zj8 k n m j))/\i = .int .i64 j/\Below (w.heap.size+1) (w.alloc (.cells #[.int .i64 k,.int .i64 n,.int .u32 m] 54)) wr) (fun _ i _=>n - (intOf i).toNat)
 case atStart=>exact ⟨0,by omega,World.ownsRow_nil _ _ _ _,rfl,Below.refl _ _⟩
 case round =>
  obtain ⟨j,hj,hown,rfl,hb⟩:=hrel
  have Hown:=qq hown
  clear hown
  by_cases hlt:j < n
  · obtain ⟨c0,c1,c2⟩:=box3 hb
    have hlen:=ptrsTo_len k n m j
    have hs:=ptrsTo_succ k n m j
    obtain ⟨xs,hxs⟩:∃ xs,Hid (zj8 k n m j=xs):=⟨_,rfl⟩
    rw [hxs.out] at Hown hlen hs
    by_cases hp:ptrB k n m j=true
    · rw [if_pos hp] at hs
      have Hs:=qq hs
      have hq:=qq (fun w=>zn4 k n m j w Hm.out.1 Hm.out.2)
      rw [hp] at hq
      clear hs hp
      go_wp2_with fail
      refine (Hv.out _).mono ?_
      rintro e w1 ⟨rfl,hb1⟩
      have hb01:=hb.trans (hb1.mono (by have:=hb.size;simpa using this))
      have Hown1:=qq (zb5 Hown.out hb1)
      obtain ⟨d0,d1,d2⟩:=box3 hb01
      clear hb hb1 c0 c1 c2 Hown
      go_wp2_with fail
      refine (hq.out _).mono ?_
      rintro e w2 ⟨rfl,hb2⟩
      have hb02:=hb01.trans (hb2.mono (by have:=hb01.size;simpa using this))
      have hown:=zb5 Hown1.out hb2
      have hsz:=hb02.size
      simp at hsz
      clear hq d0 d1 d2
      go_wp2_with (at_builtin;refine wpList_append_own _ rfl _ _ 28 rfl (w.heap.size+1) 3 i0 (.int .i64 0) 1 8 Tryz.underlying28 hi hz0 hz1 hz2 rfl (by decide) _ _ _ rfl (hown.alloc _) ⟨w2.heap.size,0,none⟩ 1 1 [.int .i64 j] rfl rfl ?c1 ?c2 ?c3 ?c4 ?c5 ?_)
      case c1=>exact cell_one_new _ _ _
      case c2=>simp [Value.oneCell']
      case c3=>unfold maxLen;omega
      case c4=>omega
      case c5=>simp;omega
      intro v' w3 hown1 hgrow1 _
      have hb3:Below (w.heap.size+1) (w.alloc (.cells #[.int .i64 k,.int .i64 n,.int .u32 m] 54)) w3:=(hb02.alloc hsz _).grown hgrow1 (by simp;omega) (fun j hj=>(hown.lt j hj).1)
      rw [zz6] at hown1
      have hown2:=qq hown1
      clear hown1 hgrow1 hown hb01 hb2 hb02
      go_wp2
      go_roundw
      case rel=>exact ⟨j+1,by omega,by rw [Hs.out,List.length_append];exact hown2.out,by go_num,hb3⟩
      case measure=>simp [intOf];omega
    · have hp:ptrB k n m j=false:=by simpa using hp
      rw [hp,if_neg (by simp)] at hs
      have Hs:=qq hs
      have hq:=qq (fun w=>zn4 k n m j w Hm.out.1 Hm.out.2)
      rw [hp] at hq
      clear hs hp
      go_wp2_with fail
      refine (Hv.out _).mono ?_
      rintro e w1 ⟨rfl,hb1⟩
      have hb01:=hb.trans (hb1.mono (by have:=hb.size;simpa using this))
      have Hown1:=qq (zb5 Hown.out hb1)
      obtain ⟨d0,d1,d2⟩:=box3 hb01
      clear hb hb1 c0 c1 c2 Hown
      go_wp2_with fail
      refine (hq.out _).mono ?_
      rintro e w2 ⟨rfl,hb2⟩
      have hb02:=hb01.trans (hb2.mono (by have:=hb01.size;simpa using this))
      have hown:=qq (zb5 Hown1.out hb2)
      clear hq d0 d1 d2 hb01 hb2
      go_wp2
      go_roundw
      case rel=>exact ⟨j+1,by omega,by rw [Hs.out];exact hown.out,by go_num,hb02⟩
      case measure=>simp [intOf];omega
  · obtain rfl:n=j:=by omega
    obtain ⟨c0,c1,c2⟩:=box3 hb
    obtain ⟨q,c,rfl,hrow⟩:=SRow.of_own Hown.out
    have Hrow:=qq hrow
    have HF:=qq (fun (_:zj8 k n m n≠[]) (ad:Addr) (e:q=some ad)=>show w.heap.size<=ad.block from by subst e;exact Nat.le_of_succ_le (Hown.out.lt ad.block rfl).1)
    clear Hown hrow
    go_wp2
    go_ret
    exact ⟨⟨q,_,c,rfl,Hrow.out,HF.out⟩,zh1 hb⟩
theorem refPointersF_any (k n m:Int) (w:World) (hm0:0<=m) (hm:m < 4294967296) :
 Calls Tryz.prog 150 #[.agg #[.int .i64 k,.int .i64 n,.int .u32 m]] w fun e w'=>RetIF w.heap.size (ptrsV k n m) e w'/\Below w.heap.size w w':=by
 by_cases hv:zb3 k n m=true
 · rw [ptrs_ok hv]
   obtain ⟨-,-,h3,-,-,-⟩:=ze3 hv
   obtain ⟨n,rfl⟩:=Int.eq_ofNat_of_zero_le h3
   exact refPointersF_ok k m n w hm0 hm hv
 · have hv:zb3 k n m=false:=by simpa using hv
   rw [ptrs_no hv]
   refine (ye0 k n m w hm0 hm hv).mono ?_
   rintro e w' ⟨⟨q,m',c,he,hr⟩,hb⟩
   exact ⟨⟨q,m',c,he,hr,fun h=>absurd rfl h⟩,hb⟩
end Go.Proofs.YtipjdbhocjpmdaaGreat
