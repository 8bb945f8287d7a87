import Derived.Test.YtipjdbhocjpmdaaGreatQ01
import Derived.Test.YtipjdbhocjpmdaaGreatQ13
import Derived.Test.YtipjdbhocjpmdaaGreatQ14
import Derived.Maps.RangeWalk
set_option linter.unusedSimpArgs false
set_option linter.unusedVariables false
set_option maxRecDepth 100000
set_option maxHeartbeats 12800000
namespace Go.Proofs.YtipjdbhocjpmdaaGreat
open Go.RowKit
theorem keepH {w0 w w':World} {b:Nat} {v0 v1 v2 v3 v4 v5:Value} (h:w.cell? ⟨b,0,none⟩=some v0/\w.cell? ⟨b,1,none⟩=some v1/\w.cell? ⟨b,2,none⟩=some v2/\w.cell? ⟨b,3,none⟩=some v3/\w.cell? ⟨b,4,none⟩=some v4/\w.cell? ⟨b,5,none⟩=some v5/\Below w0.heap.size w0 w) (hb:Below w.heap.size w w') :
 w'.cell? ⟨b,0,none⟩=some v0/\w'.cell? ⟨b,1,none⟩=some v1/\w'.cell? ⟨b,2,none⟩=some v2/\w'.cell? ⟨b,3,none⟩=some v3/\w'.cell? ⟨b,4,none⟩=some v4/\w'.cell? ⟨b,5,none⟩=some v5/\Below w0.heap.size w0 w' :=
 ⟨za0 hb h.1,za0 hb h.2.1,za0 hb h.2.2.1,za0 hb h.2.2.2.1,za0 hb h.2.2.2.2.1,za0 hb h.2.2.2.2.2.1,za3 h.2.2.2.2.2.2 hb⟩
theorem boxHP (w:World) (v0 v1 v2 v3 v4 v5:Value) (T:TypeId):(w.alloc (.cells #[v0,v1,v2,v3,v4,v5] T)).cell? ⟨w.heap.size,0,none⟩=some v0/\(w.alloc (.cells #[v0,v1,v2,v3,v4,v5] T)).cell? ⟨w.heap.size,1,none⟩=some v1/\(w.alloc (.cells #[v0,v1,v2,v3,v4,v5] T)).cell? ⟨w.heap.size,2,none⟩=some v2/\(w.alloc (.cells #[v0,v1,v2,v3,v4,v5] T)).cell? ⟨w.heap.size,3,none⟩=some v3/\(w.alloc (.cells #[v0,v1,v2,v3,v4,v5] T)).cell? ⟨w.heap.size,4,none⟩=some v4/\(w.alloc (.cells #[v0,v1,v2,v3,v4,v5] T)).cell? ⟨w.heap.size,5,none⟩=some v5/\Below w.heap.size w (w.alloc (.cells #[v0,v1,v2,v3,v4,v5] T)):=by
 refine ⟨?_,?_,?_,?_,?_,?_,za1⟩ <;> simp
def zj4 (pw np:Int) (nw:Nat) (ps:List Pg) (sp b:Int):Bool :=
 zb8 pw np && decide ((nw:Int)=np*pw) && decide ((ps.length:Int)=np) && zk2 sp && zm7 ps b && zi7 pw np ps
theorem pproper_any (pw np:Int) (p q:Option Addr) (n c m d:Nat) (sp bp:Int) (xs:List Int) (ps:List Pg) (w:World) (hs:SRow w .u64 p n c xs) (hr:PRow w q m d ps) :
 Calls Tryz.prog 14 #[.agg #[.int .i64 pw,.int .i64 np,.slice p n c,.slice q m d,.int .i64 sp,.int .i64 bp]] w fun e w'=>e = .returned (.bool (zj4 pw np xs.length ps sp bp))/\Below w.heap.size w w':=by
 have hn:=hs.i63.2
 have hm:=hr.i63.2
 have e0:=hs.len
 have e1:=hr.len
 obtain ⟨c0,c1,c2,c3,c4,c5,hbx⟩:=boxHP w (.int .i64 pw) (.int .i64 np) (.slice p n c) (.slice q m d) (.int .i64 sp) (.int .i64 bp) 27
 by_cases hv:zb8 pw np=true
 · obtain ⟨g1,g2⟩:=zd6 hv
   have hc:=qq (fun w=>zk4 hv w)
   have hz:=qq (fun w=>size_any pw np w (by omega) g2)
   obtain ⟨k1,k2,-,k4,k5⟩:=zb1 hv
   by_cases h1:(n:Int)=np*pw
   · by_cases h2:(m:Int)=np
     · have E:=qq (show zj4 pw np xs.length ps sp bp=(zk2 sp && zm7 ps bp && zi7 pw np ps) from by unfold zj4;rw [hv,e0,e1,decide_eq_true h1,decide_eq_true h2];simp)
       rw [E.out]
       have b1:((n:Int) != np*pw)=false:=by rw [h1];simp
       have b2:((m:Int) != np)=false:=by rw [h2];simp
       have hm64:m<=100000:=by omega
       have hsp:=qq (fun w=>ya9 (n:=sp) rfl w)
       obtain ⟨A,hA⟩:∃ A,Hid (zk2 sp=A):=⟨_,rfl⟩
       rw [hA.out] at hsp
       rw [hA.out]
       have Hr:=qq (fun w' (h:Below w.heap.size w w')=>hr.keep h)
       have htb:=qq (fun w' (h:Below w.heap.size w w')=>tproper_any pw np q m d ps w' (hr.keep h) hm64)
       obtain ⟨T,hT⟩:∃ T,Hid (zi7 pw np ps=T):=⟨_,rfl⟩
       rw [hT.out] at htb
       rw [hT.out]
       obtain ⟨BB,hBB⟩:∃ BB,Hid (zm7 ps bp=BB):=⟨_,rfl⟩
       rw [hBB.out]
       obtain ⟨X,hX⟩:∃ X,np*pw=X:=⟨_,rfl⟩
       rw [hX] at hz g1 g2 b1
       clear hv E h1 h2 hs hr e0 hX
       go_enter Tryz.func14,Tryz.ntmps14
       go_wp2_with fail
       refine wp_region_held_drew (S:=fun w'=>w'.cell? ⟨w.heap.size,0,none⟩=some (.int .i64 pw)/\w'.cell? ⟨w.heap.size,1,none⟩=some (.int .i64 np)/\w'.cell? ⟨w.heap.size,2,none⟩=some (.slice p n c)/\w'.cell? ⟨w.heap.size,3,none⟩=some (.slice q m d)/\w'.cell? ⟨w.heap.size,4,none⟩=some (.int .i64 sp)/\w'.cell? ⟨w.heap.size,5,none⟩=some (.int .i64 bp)/\Below w.heap.size w w') (by kernel_rfl) ⟨c0,c1,c2,c3,c4,c5,hbx.drew⟩ (fun hHeld=>?_)
       refine draw_t 0 3 hHeld ?_
       refine draw_t 1 4 hHeld ?_
       refine rdy1 2 (fun K hK=>?_)
       go_simp
       (go_at_call 50;refine (hc.out _).mono ?_;rintro e w1 ⟨rfl,hbq⟩)
       go_wp2_with fail
       refine hK.out _ _ (keepH hHeld hbq) (fun hHeld=>?_)
       clear hK K
       try go_frame
       refine draw_t 3 6 hHeld ?_
       refine draw_t 4 7 hHeld ?_
       refine draw_t 5 8 hHeld ?_
       refine draw_t 6 9 hHeld ?_
       refine draw_t 7 10 hHeld ?_
       refine draw_t 8 11 hHeld ?_
       refine draw_t 9 12 hHeld ?_
       refine rdy1 10 (fun K hK=>?_)
       go_simp
       (go_at_call 51;refine (hz.out _).mono ?_;rintro e w2 ⟨rfl,hbq2⟩)
       go_wp2_with fail
       refine hK.out _ _ (keepH hHeld hbq2) (fun hHeld=>?_)
       clear hK K
       try go_frame
       refine draw_t 11 14 hHeld ?_
       refine draw_t 12 15 hHeld ?_
       refine draw_t 13 16 hHeld ?_
       refine draw_t 14 17 hHeld ?_
       refine draw_t 15 18 hHeld ?_
       refine draw_t 16 19 hHeld ?_
       refine draw_t 17 20 hHeld ?_
       refine draw_t 18 21 hHeld ?_
       refine draw_t 19 22 hHeld ?_
       refine draw_t 20 23 hHeld ?_
       refine draw_t 21 24 hHeld ?_
       refine wpAnyH_done (by kernel_rfl) ?_ _
       have hB:=hHeld.2.2.2.2.2.2
       obtain ⟨r0,r1,r2,r3,r4,r5,-⟩:=hHeld
       have Hr2:=qq (Hr.out _ hB)
       clear hbq hbq2 c0 c1 c2 c3 c4 c5 hbx
       go_wp2_with fail
       refine (hsp.out _).mono ?_
       rintro e w3 ⟨rfl,rfl⟩
       cases A
       · go_wp2
         go_ret
         exact ⟨rfl,hB⟩
       · by_cases hb:bp = -1
         · subst hb
           have E:=qq (show BB=true from by rw [<-hBB.out];exact decide_eq_true (Or.inl rfl))
           go_wp2_with fail
           refine (htb.out _ hB).mono ?_
           rintro e w4 ⟨rfl,hb4⟩
           go_wp2
           go_ret
           exact ⟨za9 (by rw [E.out];rfl),za3 hB hb4⟩
         · have b5:(bp != -1)=true:=bne_iff_ne.2 hb
           have hbm:=qq (fun w' (h:PRow w' q m d ps)=>isSmall_is (i:=bp) q m d ps w' h rfl)
           obtain ⟨C,hC⟩:∃ C,Hid (decide (0<=bp/\bp < ps.length/\(ps.getD bp.toNat Pg.zero).kind=1)=C):=⟨_,rfl⟩
           have E:=qq (show BB=C from by rw [<-hBB.out,<-hC.out];unfold zm7;exact decide_eq_decide.2 ⟨fun h=>h.resolve_left hb,Or.inr⟩)
           rw [hC.out] at hbm
           clear hb hC
           go_wp2_with fail
           refine (hbm.out _ Hr2.out).mono ?_
           rintro e w4 ⟨rfl,rfl⟩
           cases C
           · go_wp2
             go_ret
             exact ⟨za9 (by rw [E.out];rfl),hB⟩
           · go_wp2_with fail
             refine (htb.out _ hB).mono ?_
             rintro e w5 ⟨rfl,hb5⟩
             go_wp2
             go_ret
             exact ⟨za9 (by rw [E.out];rfl),za3 hB hb5⟩
     · have E:=qq (show zj4 pw np xs.length ps sp bp=false from by unfold zj4;rw [e1,decide_eq_false h2];simp)
       rw [E.out]
       have b1:((n:Int) != np*pw)=false:=by rw [h1];simp
       have b2:((m:Int) != np)=true:=bne_iff_ne.2 h2
       obtain ⟨X,hX⟩:∃ X,np*pw=X:=⟨_,rfl⟩
       rw [hX] at hz g1 g2 b1
       clear hv E h1 h2 hs hr e0 e1 hX
       go_enter Tryz.func14,Tryz.ntmps14
       go_wp2_with fail
       refine wp_region_held_drew (S:=fun w'=>w'.cell? ⟨w.heap.size,0,none⟩=some (.int .i64 pw)/\w'.cell? ⟨w.heap.size,1,none⟩=some (.int .i64 np)/\w'.cell? ⟨w.heap.size,2,none⟩=some (.slice p n c)/\w'.cell? ⟨w.heap.size,3,none⟩=some (.slice q m d)/\w'.cell? ⟨w.heap.size,4,none⟩=some (.int .i64 sp)/\w'.cell? ⟨w.heap.size,5,none⟩=some (.int .i64 bp)/\Below w.heap.size w w') (by kernel_rfl) ⟨c0,c1,c2,c3,c4,c5,hbx.drew⟩ (fun hHeld=>?_)
       refine draw_t 0 3 hHeld ?_
       refine draw_t 1 4 hHeld ?_
       refine rdy1 2 (fun K hK=>?_)
       go_simp
       (go_at_call 50;refine (hc.out _).mono ?_;rintro e w1 ⟨rfl,hbq⟩)
       go_wp2_with fail
       refine hK.out _ _ (keepH hHeld hbq) (fun hHeld=>?_)
       clear hK K
       try go_frame
       refine draw_t 3 6 hHeld ?_
       refine draw_t 4 7 hHeld ?_
       refine draw_t 5 8 hHeld ?_
       refine draw_t 6 9 hHeld ?_
       refine draw_t 7 10 hHeld ?_
       refine draw_t 8 11 hHeld ?_
       refine draw_t 9 12 hHeld ?_
       refine rdy1 10 (fun K hK=>?_)
       go_simp
       (go_at_call 51;refine (hz.out _).mono ?_;rintro e w2 ⟨rfl,hbq2⟩)
       go_wp2_with fail
       refine hK.out _ _ (keepH hHeld hbq2) (fun hHeld=>?_)
       clear hK K
       try go_frame
       refine draw_t 11 14 hHeld ?_
       refine draw_t 12 15 hHeld ?_
       refine draw_t 13 16 hHeld ?_
       refine draw_t 14 17 hHeld ?_
       refine draw_t 15 18 hHeld ?_
       refine draw_t 16 19 hHeld ?_
       refine draw_t 17 20 hHeld ?_
       refine draw_t 18 21 hHeld ?_
       refine draw_t 19 22 hHeld ?_
       refine draw_t 20 23 hHeld ?_
       refine draw_t 21 24 hHeld ?_
       refine wpAnyH_done (by kernel_rfl) ?_ _
       have hB:=hHeld.2.2.2.2.2.2
       clear hHeld hbq hbq2
       go_wp2
       go_ret
       exact ⟨rfl,hB⟩
   · have E:=qq (show zj4 pw np xs.length ps sp bp=false from by unfold zj4;rw [e0,decide_eq_false h1];simp)
     rw [E.out]
     have b1:((n:Int) != np*pw)=true:=bne_iff_ne.2 h1
     obtain ⟨X,hX⟩:∃ X,np*pw=X:=⟨_,rfl⟩
     rw [hX] at hz g1 g2 b1
     clear hv E h1 hs hr e0 e1 hX
     go_enter Tryz.func14,Tryz.ntmps14
     go_wp2_with fail
     refine wp_region_held_drew (S:=fun w'=>w'.cell? ⟨w.heap.size,0,none⟩=some (.int .i64 pw)/\w'.cell? ⟨w.heap.size,1,none⟩=some (.int .i64 np)/\w'.cell? ⟨w.heap.size,2,none⟩=some (.slice p n c)/\w'.cell? ⟨w.heap.size,3,none⟩=some (.slice q m d)/\w'.cell? ⟨w.heap.size,4,none⟩=some (.int .i64 sp)/\w'.cell? ⟨w.heap.size,5,none⟩=some (.int .i64 bp)/\Below w.heap.size w w') (by kernel_rfl) ⟨c0,c1,c2,c3,c4,c5,hbx.drew⟩ (fun hHeld=>?_)
     refine draw_t 0 3 hHeld ?_
     refine draw_t 1 4 hHeld ?_
     refine rdy1 2 (fun K hK=>?_)
     go_simp
     (go_at_call 50;refine (hc.out _).mono ?_;rintro e w1 ⟨rfl,hbq⟩)
     go_wp2_with fail
     refine hK.out _ _ (keepH hHeld hbq) (fun hHeld=>?_)
     clear hK K
     try go_frame
     refine draw_t 3 6 hHeld ?_
     refine draw_t 4 7 hHeld ?_
     refine draw_t 5 8 hHeld ?_
     refine draw_t 6 9 hHeld ?_
     refine draw_t 7 10 hHeld ?_
     refine draw_t 8 11 hHeld ?_
     refine draw_t 9 12 hHeld ?_
     refine rdy1 10 (fun K hK=>?_)
     go_simp
     (go_at_call 51;refine (hz.out _).mono ?_;rintro e w2 ⟨rfl,hbq2⟩)
     go_wp2_with fail
     refine hK.out _ _ (keepH hHeld hbq2) (fun hHeld=>?_)
     clear hK K
     try go_frame
     refine draw_t 11 14 hHeld ?_
     refine draw_t 12 15 hHeld ?_
     refine draw_t 13 16 hHeld ?_
     refine draw_s 14 17 hHeld ?_
     refine draw_s 15 18 hHeld ?_
     refine draw_s 16 19 hHeld ?_
     refine draw_s 17 20 hHeld ?_
     refine draw_s 18 21 hHeld ?_
     refine draw_s 19 22 hHeld ?_
     refine draw_s 20 23 hHeld ?_
     refine draw_t 21 24 hHeld ?_
     refine wpAnyH_done (by kernel_rfl) ?_ _
     have hB:=hHeld.2.2.2.2.2.2
     clear hHeld hbq hbq2
     go_wp2
     go_ret
     exact ⟨rfl,hB⟩
 · have hv:zb8 pw np=false:=by simpa using hv
   have E:=qq (show zj4 pw np xs.length ps sp bp=false from by unfold zj4;rw [hv];rfl)
   have hc:=qq (fun w=>zk4 hv w)
   rw [E.out]
   clear hv E hs hr
   go_enter Tryz.func14,Tryz.ntmps14
   go_wp2_with fail
   refine wp_region_held_drew (S:=fun w'=>w'.cell? ⟨w.heap.size,0,none⟩=some (.int .i64 pw)/\w'.cell? ⟨w.heap.size,1,none⟩=some (.int .i64 np)/\w'.cell? ⟨w.heap.size,2,none⟩=some (.slice p n c)/\w'.cell? ⟨w.heap.size,3,none⟩=some (.slice q m d)/\w'.cell? ⟨w.heap.size,4,none⟩=some (.int .i64 sp)/\w'.cell? ⟨w.heap.size,5,none⟩=some (.int .i64 bp)/\Below w.heap.size w w') (by kernel_rfl) ⟨c0,c1,c2,c3,c4,c5,hbx.drew⟩ (fun hHeld=>?_)
   refine draw_t 0 3 hHeld ?_
   refine draw_t 1 4 hHeld ?_
   refine rdy1 2 (fun K hK=>?_)
   go_simp
   (go_at_call 50;refine (hc.out _).mono ?_;rintro e w' ⟨rfl,hbq⟩)
   go_wp2_with fail
   refine hK.out _ _ (keepH hHeld hbq) (fun hHeld=>?_)
   clear hK K
   try go_frame
   refine draw_t 3 6 hHeld ?_
   refine draw_t 4 7 hHeld ?_
   refine draw_s 5 8 hHeld ?_
   refine draw_s 6 9 hHeld ?_
   refine draw_s 7 10 hHeld ?_
   refine draw_s 8 11 hHeld ?_
   refine draw_s 9 12 hHeld ?_
   refine draw_s 10 13 hHeld ?_
   refine draw_s 11 14 hHeld ?_
   refine draw_t 12 15 hHeld ?_
   refine draw_t 13 16 hHeld ?_
   refine draw_s 14 17 hHeld ?_
   refine draw_s 15 18 hHeld ?_
   refine draw_s 16 19 hHeld ?_
   refine draw_s 17 20 hHeld ?_
   refine draw_s 18 21 hHeld ?_
   refine draw_s 19 22 hHeld ?_
   refine draw_s 20 23 hHeld ?_
   refine draw_t 21 24 hHeld ?_
   refine wpAnyH_done (by kernel_rfl) ?_ _
   have hB:=hHeld.2.2.2.2.2.2
   clear hHeld hbq
   go_wp2
   go_ret
   exact ⟨rfl,hB⟩
end Go.Proofs.YtipjdbhocjpmdaaGreat
