import Derived.Test.YtipjdbhocjpmdaaGreatQ01
import Derived.Test.YtipjdbhocjpmdaaGreatQ05
import Derived.Test.YtipjdbhocjpmdaaGreatQ10
import Derived.Test.YtipjdbhocjpmdaaGreatQ13
import Derived.Test.YtipjdbhocjpmdaaGreatQ15
import Derived.Test.YtipjdbhocjpmdaaGreatQ24
import Derived.Test.YtipjdbhocjpmdaaGreatQ28
import Derived.Test.YtipjdbhocjpmdaaGreatQ31
import Derived.Deep.DeepCutAuto
set_option linter.unusedSimpArgs false
set_option linter.unusedVariables false
set_option maxRecDepth 100000
set_option maxHeartbeats 12800000
namespace Go.Proofs.YtipjdbhocjpmdaaGreat
open Go.RowKit
theorem irow4 (w:World) (T:TypeId) (kd:IntKind) (a b c d:Int):IRow (w.alloc (.cells #[.int kd a,.int kd b,.int kd c,.int kd d] T)) kd (some ⟨w.heap.size,0,none⟩) [a,b,c,d]:=by
 intro i x hx
 refine ⟨w.heap.size,0,rfl,?_⟩
 match i with
 | 0=>simp at hx;subst hx;simp
 | 1=>simp at hx;subst hx;simp
 | 2=>simp at hx;subst hx;simp
 | 3=>simp at hx;subst hx;simp
 | n+4=>simp at hx
theorem shr_zero {x k:Nat}:x >>> k=0↔x < 2 ^ k:=by
 rw [Nat.shiftRight_eq_div_pow,Nat.div_eq_zero_iff]
 have:=zn8 k
 omega
theorem unp_head {x:Nat} (h:x < 281474976710656):unpE x [2,2,12,32]=0/\unpV x [2,2,12,32]=[((x % 4:Nat):Int),((dK x:Nat):Int),((dN x:Nat):Int),((dM x:Nat):Int)]:=by
 obtain ⟨E,V⟩:=unp_ok (x:=x) (ws:=[2,2,12,32]) (by decide) (shr_zero.2 (by simpa [sumW] using h))
 refine ⟨E,V.out.trans ?_⟩
 simp only [zr8,and_ones,dK,dN,dM,Nat.shiftRight_eq_div_pow,Nat.div_div_eq_div_mul]
 simp
theorem unp_head_no {x:Nat} (h:¬x < 281474976710656):unpE x [2,2,12,32]=2/\unpV x [2,2,12,32]=[]:=by
 obtain ⟨E,V⟩:=unp_bad (x:=x) (ws:=[2,2,12,32]) (by decide) (fun c=>h (by simpa [sumW] using shr_zero.1 c))
 exact ⟨E,V⟩
theorem Own6.ofL {w:World} {b:Nat} {x0 x1 x2 x3 x4 x5:Value} (h:OwnL w b [x0,x1,x2,x3,x4,x5]):Own6 w b x0 x1 x2 x3 x4 x5 :=
 ⟨h.cell 0 _ rfl,h.cell 1 _ rfl,h.cell 2 _ rfl,h.cell 3 _ rfl,h.cell 4 _ rfl,h.cell 5 _ rfl,h.free 0,h.free 1,h.free 2,h.free 3,h.free 4,h.free 5⟩
theorem own_set6 {w:World} {B e s g n c:Nat} {xs:List Value} (h:w.ownsRow B e s (.slice (some ⟨g,0,none⟩) n c) n xs) (b:Nat) (hne:g≠b) (x0 x1 x2 x3 x4 x5:Value) :
 ((((((w.setCell ⟨b,0,none⟩ x0).setCell ⟨b,1,none⟩ x1).setCell ⟨b,2,none⟩ x2).setCell ⟨b,3,none⟩ x3).setCell ⟨b,4,none⟩ x4).setCell ⟨b,5,none⟩ x5).ownsRow B e s (.slice (some ⟨g,0,none⟩) n c) n xs :=
 zd0 (zd0 (zd0 (zd0 (zd0 (zd0 h _ x0 hne) _ x1 hne) _ x2 hne) _ x3 hne) _ x4 hne) _ x5 hne
def RetWr (B:Nat) (pw np sp bp:Int) (ws:List Int) (ps:List Pg) (E:Int) (e:Ending) (w':World):Prop :=
 (E=0/\∃ p n c q m d,e = .returned (.tuple #[.agg #[.int .i64 pw,.int .i64 np,.slice p n c,.slice q m d,.int .i64 sp,.int .i64 bp],.int .i64 0])/\SRow w' .u64 p n c ws/\w'.ownsRow B 77 4 (.slice q m d) m (zc4 ps)) \/
 (¬E=0/\e = .returned (.tuple #[.agg #[.int .i64 0,.int .i64 0,.slice none 0 0,.slice none 0 0,.int .i64 0,.int .i64 0],.int .i64 E]))
theorem write_run (pw np sp bp a:Int) (p q lp:Option Addr) (n c m d ln lc:Nat) (ws l:List Int) (ps:List Pg) (w:World) (hs:SRow w .u64 p n c ws) (hr:PRow w q m d ps) (hl:SRow w .u64 lp ln lc l) (hn:n<=100000) (hm:1<=m/\m<=100000) (ha:0<=a) (ha2:a < 18446744073709551616) :
 Calls Tryz.prog 77 #[.agg #[.int .i64 pw,.int .i64 np,.slice p n c,.slice q m d,.int .i64 sp,.int .i64 bp],.int .u64 a,.slice lp ln lc] w
  fun e w'=>RetWr w.heap.size pw np sp bp (zc8 ws a l) ps (zh4 ws a l) e w'/\Below w.heap.size w w':=by
 obtain ⟨_,b2,off,_,rfl,_⟩:=hr.at_ (k:=0) (by omega)
 have hb0:Below w.heap.size w ((w.alloc (.cells #[.int .i64 pw,.int .i64 np,.slice p n c,.slice (some ⟨b2,off,none⟩) m d,.int .i64 sp,.int .i64 bp] 27)).alloc (.cells #[.int .i64 0,.int .i64 0,.slice none 0 0,.slice none 0 0,.int .i64 0,.int .i64 0] 27)):=za3 za1 za1
 have hwr:=qq (fun w' (hb:Below w.heap.size w w')=>write_any p lp n c ln lc ws l a w' (hs.keep hb) (hl.keep hb) hn ha ha2)
 have hcl:=qq (fun w' (hb:Below w.heap.size w w')=>clone_any b2 off m d ps w' (hr.keep hb) hm.2 hm.1)
 have Hx:=qq ((OwnL.new w [.int .i64 pw,.int .i64 np,.slice p n c,.slice (some ⟨b2,off,none⟩) m d,.int .i64 sp,.int .i64 bp] 27).keep (za1 (o:=.cells #[.int .i64 0,.int .i64 0,.slice none 0 0,.slice none 0 0,.int .i64 0,.int .i64 0] 27)) (by simp))
 have Ho:=qq (OwnL.new (w.alloc (.cells #[.int .i64 pw,.int .i64 np,.slice p n c,.slice (some ⟨b2,off,none⟩) m d,.int .i64 sp,.int .i64 bp] 27)) [.int .i64 0,.int .i64 0,.slice none 0 0,.slice none 0 0,.int .i64 0,.int .i64 0] 27)
 have HB:=qq hb0
 obtain ⟨E,hE⟩:∃ E,Hid (zh4 ws a l=E):=⟨_,rfl⟩
 obtain ⟨V,hV⟩:∃ V,Hid (zc8 ws a l=V):=⟨_,rfl⟩
 rw [hE.out,hV.out] at hwr ⊢
 have y1:=za0 (w':=((w.alloc (.cells #[.int .i64 pw,.int .i64 np,.slice p n c,.slice (some ⟨b2,off,none⟩) m d,.int .i64 sp,.int .i64 bp] 27)).alloc (.cells #[.int .i64 0,.int .i64 0,.slice none 0 0,.slice none 0 0,.int .i64 0,.int .i64 0] 27))) (Below.refl _ _) (Hx.out.cell 2 _ rfl)
 clear hs hr hl hb0
 go_enter Tryz.func77,Tryz.ntmps77
 go_wp2_with fail
 refine (hwr.out _ HB.out).mono ?_
 rintro e w1 ⟨⟨p',n',c',rfl,hrow⟩,hb1⟩
 have hw1:=qq (za3 HB.out hb1)
 have Ho1:=qq (Ho.out.keep hb1 (by simp))
 have Hx1:=qq (Hx.out.keep hb1 (by simp;omega))
 have hsz:w.heap.size+1+1<=w1.heap.size:=by have:=hb1.size;simpa using this
 have Hrow:=qq hrow
 simp only [World.size_alloc] at Ho1
 clear hwr Ho Hx HB hb1 y1 hrow
 by_cases h0:E=0
 · subst h0
   have x0:=Hx1.out.cell 0 _ rfl
   have x3:=Hx1.out.cell 3 _ rfl
   go_wp2_with fail
   refine (hcl.out _ hw1.out).mono ?_
   rintro e w2 ⟨⟨g,cc,rfl,hg,hown⟩,hb2⟩
   have hw2:=qq (za3 hw1.out hb2)
   have Ho2:=qq (Ho1.out.keep hb2 (by omega))
   have Hx2:=Hx1.out.keep hb2 (by omega)
   have Hrow2:=qq (Hrow.out.keep hb2)
   have Hown:=qq hown
   have hg2:w.heap.size+1+1<=g:=by omega
   have x0:=Hx2.cell 0 _ rfl
   have x1:=Hx2.cell 1 _ rfl
   have x2:=Hx2.cell 2 _ rfl
   have x3:=Hx2.cell 3 _ rfl
   have x4:=Hx2.cell 4 _ rfl
   have x5:=Hx2.cell 5 _ rfl
   have f2:=Hx2.free 2
   have f3:=Hx2.free 3
   have x3':=(Hx2.set 2 (.slice p' n' c') (by simp)).cell 3 _ rfl
   have hown3:=qq (zg6 (own_set6 (zd0 (zd0 Hown.out ⟨w.heap.size,2,none⟩ (.slice p' n' c') (by simp only;omega)) ⟨w.heap.size,3,none⟩ (.slice (some ⟨g,0,none⟩) m cc) (by simp only;omega)) (w.heap.size+1) (by omega) (.int .i64 pw) (.int .i64 np) (.slice p' n' c') (.slice (some ⟨g,0,none⟩) m cc) (.int .i64 sp) (.int .i64 bp)) hw1.out.size)
   have key:=qq (SRow.set6o ((Hrow2.out.setOther ⟨w.heap.size,2,none⟩ _ (.slice p' n' c') x2 (fun x e=>by cases e)).setOther ⟨w.heap.size,3,none⟩ _ (.slice (some ⟨g,0,none⟩) m cc) x3' (fun x e=>by cases e)) (Own6.ofL ((Ho2.out.other ⟨w.heap.size,2,none⟩ (.slice p' n' c') (by simp only;omega)).other ⟨w.heap.size,3,none⟩ (.slice (some ⟨g,0,none⟩) m cc) (by simp only;omega))) (fun x e=>by cases e) (fun x e=>by cases e) (fun x e=>by cases e) (fun x e=>by cases e) (fun x e=>by cases e) (fun x e=>by cases e) (.int .i64 pw) (.int .i64 np) (.slice p' n' c') (.slice (some ⟨g,0,none⟩) m cc) (.int .i64 sp) (.int .i64 bp))
   obtain ⟨d0,d1,d2,d3,d4,d5,e0,e1,e2,e3,e4,e5⟩:=Own6.ofL Ho2.out
   clear hcl hb2 hown hw1 Ho1 Hx1 Hrow Hx2 hg x3'
   go_wp2
   exact bodyPost_ret (v:=.tuple #[.agg #[.int .i64 pw,.int .i64 np,.slice p' n' c',.slice (some ⟨g,0,none⟩) m cc,.int .i64 sp,.int .i64 bp],.int .i64 0]) (by simp [results,Tryz.results77,go_sem,d0,d1,d2,d3,d4,d5]) rfl ⟨Or.inl ⟨rfl,p',n',c',_,m,cc,rfl,key.out,hown3.out⟩,zd2 ((hw2.out.setCell (Nat.le_refl _) _).setCell (Nat.le_refl _) _) (by omega)⟩
 · have hne2:(E != 0)=true:=bne_iff_ne.2 h0
   have HNE:=qq h0
   obtain ⟨d0,d1,d2,d3,d4,d5,e0,e1,e2,e3,e4,e5⟩:=Own6.ofL Ho1.out
   clear h0 hcl
   go_wp2
   exact bodyPost_ret (v:=.tuple #[.agg #[.int .i64 0,.int .i64 0,.slice none 0 0,.slice none 0 0,.int .i64 0,.int .i64 0],.int .i64 E]) (by simp [results,Tryz.results77,go_sem,d0,d1,d2,d3,d4,d5]) rfl ⟨Or.inr ⟨HNE.out,rfl⟩,zd2 hw1.out (by omega)⟩
theorem crowdN_lek (ps:List Pg) (k:Nat):zg1 (ps.take k)<=k:=by
 have h1:=crowdN_le (ps.take k)
 have h2:(ps.take k).length<=k:=by rw [List.length_take];omega
 omega
theorem crowd_any (h:Hp) (p q:Option Addr) (n c m d:Nat) (w:World) (hr:PRow w q m d h.pages) :
 Calls Tryz.prog 108 #[.agg #[.int .i64 h.pw,.int .i64 h.np,.slice p n c,.slice q m d,.int .i64 h.space,.int .i64 h.bump]] w fun e w'=>e = .returned (.int .i64 (zg1 h.pages:Nat))/\Below w.heap.size w w':=by
 obtain ⟨w1,hw1⟩:∃ w1,Hid (w.alloc (.cells #[.int .i64 h.pw,.int .i64 h.np,.slice p n c,.slice q m d,.int .i64 h.space,.int .i64 h.bump] 27)=w1):=⟨_,rfl⟩
 have Ha:=qq (show OwnL w1 w.heap.size [.int .i64 h.pw,.int .i64 h.np,.slice p n c,.slice q m d,.int .i64 h.space,.int .i64 h.bump] from by rw [<-hw1.out];exact OwnL.new w _ 27)
 have HB:=qq (show Below w.heap.size w w1 from by rw [<-hw1.out];exact za1)
 have HR:=qq (hr.keep HB.out)
 have hml:=hr.i63.2
 have hpl:h.pages.length=m:=PRow.len hr
 clear hr
 go_enter Tryz.func108,Tryz.ntmps108
 go_upto_region 1 with fail
 rw [hw1.out]
 clear hw1
 have c3:=Ha.out.cell 3 _ rfl
 go_wp2_with fail
 go_loopw [3,4] (fun u i wr=>∃ k:Nat,k<=m/\u = .int .i64 (zg1 (h.pages.take k):Nat)/\i = .int .i64 k/\wr=w1) (fun _ i _=>m - (intOf i).toNat)
 case atStart=>exact ⟨0,Nat.zero_le _,rfl,rfl,rfl⟩
 case round =>
  obtain ⟨k,hk,rfl,rfl,rfl⟩:=hrel
  have hcl:=crowdN_lek h.pages k
  by_cases hlt:k < m
  · obtain ⟨x,b,off,hx,rfl,y0,y1,y2,y3⟩:=HR.out.at_ hlt
    have hs:=crowdN_take hx
    obtain ⟨C,hC⟩:∃ C,zg1 (h.pages.take k)=C:=⟨_,rfl⟩
    rw [hC] at hs hcl ⊢
    have hlt2:(k:Int) < m:=by omega
    have e1:IntKind.i64.wrap ((k:Int)+1)=((k+1:Nat):Int):=by rw [IntWalk.i64_in _ (by omega)];rfl
    have e2:IntKind.i64.wrap ((C:Int)+1)=((C+1:Nat):Int):=by rw [IntWalk.i64_in _ (by omega)];rfl
    clear hC hx
    by_cases h1:x.kind=1
    · by_cases h2:0 < x.pins
      · have hs2:=qq (show zg1 (h.pages.take (k+1))=C+1 from by rw [hs,if_pos ⟨h1,h2⟩])
        clear hs
        have h1b:(x.kind == 1)=true:=beq_iff_eq.2 h1
        clear h1
        go_wp2
        go_roundw
        case rel=>exact ⟨k+1,by omega,by rw [hs2.out];first | rfl | go_num,by first | rfl | go_num,by first | trivial | rfl⟩
        case measure=>simp [intOf];omega
      · have hs2:=qq (show zg1 (h.pages.take (k+1))=C from by rw [hs,if_neg (fun h=>h2 h.2)];rfl)
        clear hs
        have h1b:(x.kind == 1)=true:=beq_iff_eq.2 h1
        clear h1
        go_wp2
        go_roundw
        case rel=>exact ⟨k+1,by omega,by rw [hs2.out],by first | rfl | go_num,by first | trivial | rfl⟩
        case measure=>simp [intOf];omega
    · have hs2:=qq (show zg1 (h.pages.take (k+1))=C from by rw [hs,if_neg (fun h=>h1 h.1)];rfl)
      clear hs
      have h1b:(x.kind == 1)=false:=beq_eq_false_iff_ne.2 h1
      clear h1
      go_wp2
      go_roundw
      case rel=>exact ⟨k+1,by omega,by rw [hs2.out],by first | rfl | go_num,by first | trivial | rfl⟩
      case measure=>simp [intOf];omega
  · obtain rfl:k=m:=by omega
    have ht:h.pages.take k=h.pages:=List.take_of_length_le (by omega)
    rw [ht]
    go_wp2
    go_ret
    exact ⟨rfl,HB.out⟩
theorem PRow.but {w w':World} {tb:Nat} {lp q:Option Addr} {ln lc m d:Nat} {xs:List Int} {ps:List Pg} {j:Nat} (h:PRow w q m d ps) (ht:Tp w tb lp ln lc xs j) (hb:But tb w w'):PRow w' q m d ps:=by
 refine ⟨VRow.len h,VRow.le h,VRow.max h,fun i y hy=>?_⟩
 obtain ⟨b,off,hq,hc⟩:=VRow.row h i y hy
 refine ⟨b,off,hq,hb.cell hc (fun e=>?_)⟩
 simp only at e
 subst e
 have hl:i < ps.length*4:=by rw [<-zr0];exact (List.getElem?_eq_some_iff.1 hy).1
 have hk:i / 4 < ps.length:=by omega
 obtain ⟨g,hg⟩:∃ g,ps[i / 4]?=some g:=⟨_,List.getElem?_eq_getElem hk⟩
 obtain ⟨p0,p1,-,-⟩:=zp4 _ _ _ hg
 obtain ⟨b0,o0,e0,c0⟩:=VRow.row h _ _ p0
 obtain ⟨b1,o1,e1,c1⟩:=VRow.row h _ _ p1
 rw [hq] at e0 e1
 injection e0 with e0
 injection e1 with e1
 injection e0 with f0 f1
 injection e1 with f2 f3
 subst f0 f1 f2 f3
 rcases ht.only c0 with ⟨h0,hv⟩ | ⟨h0,hv⟩
 · cases hv
 · rcases ht.only c1 with ⟨h1,hv1⟩ | ⟨h1,hv1⟩ <;> omega
theorem HV.but {w w':World} {tb:Nat} {lp:Option Addr} {ln lc:Nat} {xs:List Int} {j:Nat} {v:Value} {h:Hp} (hv:HV w v h) (ht:Tp w tb lp ln lc xs j) (hb:But tb w w'):HV w' v h:=by
 obtain ⟨p,n,c,q,m,d,e,h1,h2,h3⟩:=hv
 exact ⟨p,n,c,q,m,d,e,h1.but ht hb,h2.but ht hb,h3⟩
structure Wd where
 h:Hp
 st:List Int
 wk:List Int
def WdV (w:World) (v:Value) (x:Wd):Prop:=∃ p n c q m d ps ns cs pk nk ck,v=(.agg #[.int .i64 x.h.pw,.int .i64 x.h.np,.slice p n c,.slice q m d,.int .i64 x.h.space,.int .i64 x.h.bump,.slice ps ns cs,.slice pk nk ck])/\SRow w .u64 p n c x.h.words/\PRow w q m d x.h.pages/\WB x.h.words/\SRow w .u64 ps ns cs x.st/\SRow w .u64 pk nk ck x.wk
theorem WdV.keep {w w':World} {v:Value} {x:Wd} (h:WdV w v x) (hb:Below w.heap.size w w'):WdV w' v x:=by
 obtain ⟨p,n,c,q,m,d,ps,ns,cs,pk,nk,ck,e,h1,h2,h3,h4,h5⟩:=h
 exact ⟨p,n,c,q,m,d,ps,ns,cs,pk,nk,ck,e,h1.keep hb,h2.keep hb,h3,h4.keep hb,h5.keep hb⟩
theorem WdV.but {w w':World} {tb:Nat} {lp:Option Addr} {ln lc:Nat} {xs:List Int} {j:Nat} {v:Value} {x:Wd} (h:WdV w v x) (ht:Tp w tb lp ln lc xs j) (hb:But tb w w'):WdV w' v x:=by
 obtain ⟨p,n,c,q,m,d,ps,ns,cs,pk,nk,ck,e,h1,h2,h3,h4,h5⟩:=h
 exact ⟨p,n,c,q,m,d,ps,ns,cs,pk,nk,ck,e,h1.but ht hb,h2.but ht hb,h3,h4.but ht hb,h5.but ht hb⟩
theorem zc1:IsS Tryz.prog 31 8:=⟨by kernel_rfl,by kernel_rfl⟩
theorem zd3:IsS Tryz.prog 27 6:=⟨by kernel_rfl,by kernel_rfl⟩
theorem tp_low {w w':World} {B tb:Nat} {lp:Option Addr} {ln lc:Nat} {xs:List Int} {j:Nat} (h:Tp w tb lp ln lc xs j) (hb:Below B w w') (hB:tb < B):Tp w' tb lp ln lc xs j:=by
 obtain ⟨T,f,e⟩:=h.blk
 refine ⟨⟨fun i v hv=>by rw [hb.cell (p:=⟨tb,i,none⟩) hB];exact h.own.cell i v hv,fun i=>by rw [hb.frozen (p:=⟨tb,i,none⟩) hB];exact h.own.free i⟩,⟨T,f,by rw [hb.block tb hB];exact e⟩,⟨h.row.len,h.row.le,h.row.max,fun k x hx=>?_⟩,h.ap⟩
 obtain ⟨b,off,hp,hc⟩:=h.row.row k x hx
 have:=h.ap (fun e=>by rw [e] at hx;simp at hx) _ hp
 exact ⟨b,off,hp,by rw [hb.cell (p:=⟨b,off+k,none⟩) (by simp only at this ⊢;omega)];exact hc⟩
theorem but_low {w w1 w':World} {tb:Nat} (h:But tb w w1) (hb:Below w.heap.size w1 w'):But tb w w' :=
 ⟨hb.os.trans h.os,hb.tape.trans h.tape,hb.output.trans h.output,Nat.le_trans h.size hb.size,fun k hk hn=>(hb.block k hk).trans (h.block k hk hn)⟩
theorem heap_new (w:World) (o:Obj):(w.alloc o).heap[w.heap.size]?=some o:=by
 show (w.heap.push o)[w.heap.size]?=some o
 rw [Array.getElem?_push,if_pos rfl]
theorem box8 {w:World} {b:Nat} {T:TypeId} {f:Nat × Nat} {i:Nat} {v:Value} (h:w.heap[b]?=some (.cells ([.int .i64 0,.int .i64 0,.slice none 0 0,.slice none 0 0,.int .i64 0,.int .i64 0,.slice none 0 0,.slice none 0 0]:List Value).toArray T f)) (hc:w.cell? ⟨b,i,none⟩=some v):(v = .int .i64 0/\(i=0\/i=1\/i=4\/i=5))\/(v = .slice none 0 0)\/False:=by
 unfold World.cell? at hc
 rw [h] at hc
 have hc2:([.int .i64 0,.int .i64 0,.slice none 0 0,.slice none 0 0,.int .i64 0,.int .i64 0,.slice none 0 0,.slice none 0 0]:List Value)[i]?=some v:=by simpa using hc
 have hi:i < 8:=(List.getElem?_eq_some_iff.1 hc2).1
 have h8:i=0\/i=1\/i=2\/i=3\/i=4\/i=5\/i=6\/i=7:=by omega
 rcases h8 with rfl | rfl | rfl | rfl | rfl | rfl | rfl | rfl <;> (simp at hc2;subst hc2;simp)
theorem prow8 {w:World} {b:Nat} {T:TypeId} {f:Nat × Nat} {q:Option Addr} {m d:Nat} {ps:List Pg} (h:w.heap[b]?=some (.cells ([.int .i64 0,.int .i64 0,.slice none 0 0,.slice none 0 0,.int .i64 0,.int .i64 0,.slice none 0 0,.slice none 0 0]:List Value).toArray T f)) (hr:PRow w q m d ps) (ad:Addr) (e:q=some ad):ps≠[]->ad.block≠b:=by
 intro hne eb
 have hk:0 < ps.length:=List.length_pos_iff.2 hne
 obtain ⟨g,b1,off,hx,e1,y0,y1,y2,y3⟩:=hr.at_ (k:=0) (by have:=PRow.len hr;omega)
 rw [e] at e1
 injection e1 with e1
 subst e1
 simp only at eb
 subst eb
 rcases box8 h y0 with ⟨-,h0⟩ | h0 | h0
 · rcases box8 h y1 with ⟨-,h1⟩ | h1 | h1
   · rcases box8 h y2 with ⟨-,h2⟩ | h2 | h2
     · omega
     · cases h2
     · exact h2
   · cases h1
   · exact h1
 · cases h0
 · exact h0
theorem empty_any (tb:Nat) (lp:Option Addr) (ln lc:Nat) (xs:List Int) (j:Nat) (w:World) (h:Tp w tb lp ln lc xs j) (hj:j<=90000) :
 Calls Tryz.prog 42 #[.pointer (some ⟨tb,0,none⟩)] w fun e w'=>∃ v pw np,e = .returned v/\(pw=16\/pw=20\/pw=32)/\(np=8\/np=12\/np=16\/np=20\/np=24)/\WdV w' v ⟨zi1 pw np,[],[]⟩/\Tp w' tb lp ln lc xs (j+2)/\But tb w w':=by
 have htb:=h.lt
 obtain ⟨w1,hw1⟩:∃ w1,Hid (w.alloc (.cells #[.int .i64 0,.int .i64 0,.slice none 0 0,.slice none 0 0,.int .i64 0,.int .i64 0,.slice none 0 0,.slice none 0 0] 31)=w1):=⟨_,rfl⟩
 have Ha:=qq (show OwnL w1 w.heap.size [.int .i64 0,.int .i64 0,.slice none 0 0,.slice none 0 0,.int .i64 0,.int .i64 0,.slice none 0 0,.slice none 0 0] from by rw [<-hw1.out];exact OwnL.new w [.int .i64 0,.int .i64 0,.slice none 0 0,.slice none 0 0,.int .i64 0,.int .i64 0,.slice none 0 0,.slice none 0 0] 31)
 have hb0:Below w.heap.size w w1:=by rw [<-hw1.out];exact za1
 have HK:=qq (show w1.heap[w.heap.size]?=some (.cells ([.int .i64 0,.int .i64 0,.slice none 0 0,.slice none 0 0,.int .i64 0,.int .i64 0,.slice none 0 0,.slice none 0 0]:List Value).toArray 31 (0,0)) from by rw [<-hw1.out];exact heap_new w _)
 have HT:=qq (h.keep hb0)
 have HB:=qq (But.of tb hb0)
 clear h hb0
 go_enter Tryz.func42,Tryz.ntmps42
 go_upto_region 1 with fail
 rw [hw1.out]
 clear hw1
 go_wp2_with fail
 refine (conf_any tb lp ln lc xs j w1 HT.out hj).mono ?_
 rintro e w2 ⟨pw,np,rfl,hpw,hnp,hT,hbt⟩
 replace HK:=qq ((hbt.block _ (Ha.out.lt rfl) (by omega)).trans HK.out)
 replace Ha:=qq (Ha.out.but hbt (Ha.out.lt rfl) (by omega))
 clear HT
 have HT:=qq hT
 replace HB:=qq (HB.out.trans hbt)
 clear hT hbt
 obtain ⟨NE,hNE⟩:∃ NE,newHE pw np=NE:=⟨_,rfl⟩
 have hNw:=refNew_any pw np w2
 rw [hNE] at hNw
 clear hNE
 go_wp2_with fail
 refine hNw.mono ?_
 rintro e w3 ⟨⟨v,rfl,p,n,c,q,m,d,rfl,h1,h2,h3⟩,hb3⟩
 have H1:=qq h1
 have H2:=qq h2
 have H3:=qq h3
 clear h1 h2 h3 hNw
 replace HK:=qq ((hb3.block _ (Ha.out.lt rfl)).trans HK.out)
 replace Ha:=qq (Ha.out.keep hb3 (Ha.out.lt rfl))
 replace HT:=qq (HT.out.keep hb3)
 replace HB:=qq (HB.out.then hb3)
 clear hb3
 have HPW:=qq hpw
 have HNP:=qq hnp
 clear hpw hnp
 have h3a:w.heap.size < w3.heap.size:=Ha.out.lt rfl
 have HN:=qq (OwnL.new w3 [.int .i64 0,.int .i64 0,.slice none 0 0,.slice none 0 0,.int .i64 0,.int .i64 0] 27)
 go_wp2_with ((with_reducible show wpList _ _ _ _ _ _);refine za6 (op:=⟨none,.store 27 (.tmp 3) _,_,_,_,_⟩) rfl _ _ _ rfl _ ?hx1 [.int .i64 (zi1 pw np).pw,.int .i64 (zi1 pw np).np,.slice p n c,.slice q m d,.int .i64 (zi1 pw np).space,.int .i64 (zi1 pw np).bump] _ ?hy1 HN.out rfl rfl zd3 ?_)
 (try (case hx1=>rfl))
 (try (case hy1=>rfl))
 intro w4 ho hbt hst
 have hb4:Below w3.heap.size w3 w4:=za1.trans (hbt.low (Nat.le_refl _) (by simp))
 have HC:=qq ho
 clear ho hbt hst HN
 replace HK:=qq ((hb4.block _ h3a).trans HK.out)
 replace Ha:=qq (Ha.out.keep hb4 h3a)
 replace HT:=qq (HT.out.keep hb4)
 replace HB:=qq (HB.out.then hb4)
 replace H1:=qq (H1.out.keep hb4)
 replace H2:=qq (PRow.keep H2.out hb4)
 clear hb4
 have h4a:w.heap.size < w4.heap.size:=Ha.out.lt rfl
 go_wp2_with (first | ((with_reducible show wpList _ _ _ _ _ _);refine za7 (op:=⟨some 11,.load 27 _,_,_,_,_⟩) rfl _ _ rfl _ rfl _ HC.out zd3 ?_) | ((with_reducible show wpList _ _ _ _ _ _);refine za6 (op:=⟨none,.store 31 _ _,_,_,_,_⟩) rfl _ _ _ rfl _ ?hx2 [.int .i64 (zi1 pw np).pw,.int .i64 (zi1 pw np).np,.slice p n c,.slice q m d,.int .i64 (zi1 pw np).space,.int .i64 (zi1 pw np).bump,.slice none 0 0,.slice none 0 0] _ ?hy2 Ha.out rfl rfl zc1 ?_))
 (try (case hx2=>rfl))
 (try (case hy2=>rfl))
 intro w5 ho hbt hst
 have HZ:=qq ho
 have hb5:Below w.heap.size w4 w5:=hbt.low (Nat.le_refl _) (by omega)
 have HT5:=qq (show Tp w5 tb lp ln lc xs (j+2) from tp_low HT.out hb5 htb)
 have HB5:=qq (show But tb w w5 from but_low HB.out hb5)
 have HS1:=qq (H1.out.butU hbt (fun i x e=>by rcases box8 HK.out e with ⟨h,-⟩ | h | h <;> cases h))
 have HS2:=qq (show PRow w5 q m d (zi1 pw np).pages from VRow.butNe H2.out hbt (fun hne ad e=>prow8 HK.out H2.out ad e (fun e0=>hne (by rw [e0];rfl))))
 clear hbt hst ho
 go_wp2
 refine bodyPost_ret (zc9 rfl rfl HZ.out zc1) rfl ?_
 exact ⟨_,pw,np,rfl,HPW.out,HNP.out,⟨p,n,c,q,m,d,none,0,0,none,0,0,rfl,HS1.out,HS2.out,H3.out,SRow.nil _ _ _,SRow.nil _ _ _⟩,HT5.out,HB5.out⟩
def afterV (x:Wk) (a:Int):Int:=if a∈x.queue then a else tgtV (evWd x a).toNat
theorem after_in (S:Nat->Prop) (x:Wk) (p q po pt pq:Option Addr) (n c m d no co nt ct nq cq:Nat) (a:Int) (w:World) (hr:WR w S x p q po pt pq n c m d no co nt ct nq cq) (hn:n<=100000) (hp0:0<=a) (hp1:a < 18446744073709551616) (hq:a∈x.queue) :
 Calls Tryz.prog 127 #[(.agg #[.int .i64 x.h.pw,.int .i64 x.h.np,.slice p n c,.slice q m d,.int .i64 x.h.space,.int .i64 x.h.bump,.slice po no co,.slice pt nt ct,.slice pq nq cq,.int .i64 x.sc,.int .i64 x.r0,.int .i64 x.r1,.int .i64 x.r2,.int .i64 x.r3,.int .i64 x.r4,.int .i64 x.r5]),.int .u64 a] w fun e w'=>e = .returned (.int .u64 a)/\Below w.heap.size w w':=by
 obtain ⟨w1,hw1⟩:∃ w1,Hid (w.alloc (.cells #[.int .i64 x.h.pw,.int .i64 x.h.np,.slice p n c,.slice q m d,.int .i64 x.h.space,.int .i64 x.h.bump,.slice po no co,.slice pt nt ct,.slice pq nq cq,.int .i64 x.sc,.int .i64 x.r0,.int .i64 x.r1,.int .i64 x.r2,.int .i64 x.r3,.int .i64 x.r4,.int .i64 x.r5] 146)=w1):=⟨_,rfl⟩
 have Ha:=qq (show OwnL w1 w.heap.size [.int .i64 x.h.pw,.int .i64 x.h.np,.slice p n c,.slice q m d,.int .i64 x.h.space,.int .i64 x.h.bump,.slice po no co,.slice pt nt ct,.slice pq nq cq,.int .i64 x.sc,.int .i64 x.r0,.int .i64 x.r1,.int .i64 x.r2,.int .i64 x.r3,.int .i64 x.r4,.int .i64 x.r5] from by rw [<-hw1.out];exact OwnL.new w [.int .i64 x.h.pw,.int .i64 x.h.np,.slice p n c,.slice q m d,.int .i64 x.h.space,.int .i64 x.h.bump,.slice po no co,.slice pt nt ct,.slice pq nq cq,.int .i64 x.sc,.int .i64 x.r0,.int .i64 x.r1,.int .i64 x.r2,.int .i64 x.r3,.int .i64 x.r4,.int .i64 x.r5] 146)
 have HB:=qq (show Below w.heap.size w w1 from by rw [<-hw1.out];exact za1)
 have HR:=qq (hr.keep HB.out)
 have hwa:w.heap.size < w1.heap.size:=Ha.out.lt rfl
 have HP1:=qq hp1
 clear hr hp1
 have c8:=Ha.out.cell 8 _ rfl
 have hH:=zf1 (b:=true) (decide_eq_true hq) w1 HR.out.queue
 go_enter Tryz.func127,Tryz.ntmps127
 go_upto_region 1 with fail
 rw [hw1.out]
 clear hw1
 go_wp2_with fail
 refine hH.mono ?_
 rintro e w2 ⟨rfl,hb2⟩
 replace Ha:=qq (Ha.out.keep hb2 hwa)
 replace HB:=qq (za3 HB.out hb2)
 replace HR:=qq (HR.out.keep hb2)
 clear hb2 hH c8 hwa
 go_wp2
 go_ret
 exact ⟨rfl,HB.out⟩
theorem after_out (S:Nat->Prop) (x:Wk) (p q po pt pq:Option Addr) (n c m d no co nt ct nq cq:Nat) (a:Int) (w:World) (hr:WR w S x p q po pt pq n c m d no co nt ct nq cq) (hn:n<=100000) (hp0:0<=a) (hp1:a < 18446744073709551616) (hq:¬a∈x.queue) :
 Calls Tryz.prog 127 #[(.agg #[.int .i64 x.h.pw,.int .i64 x.h.np,.slice p n c,.slice q m d,.int .i64 x.h.space,.int .i64 x.h.bump,.slice po no co,.slice pt nt ct,.slice pq nq cq,.int .i64 x.sc,.int .i64 x.r0,.int .i64 x.r1,.int .i64 x.r2,.int .i64 x.r3,.int .i64 x.r4,.int .i64 x.r5]),.int .u64 a] w fun e w'=>e = .returned (.int .u64 (tgtV (evWd x a).toNat))/\Below w.heap.size w w':=by
 obtain ⟨w1,hw1⟩:∃ w1,Hid (w.alloc (.cells #[.int .i64 x.h.pw,.int .i64 x.h.np,.slice p n c,.slice q m d,.int .i64 x.h.space,.int .i64 x.h.bump,.slice po no co,.slice pt nt ct,.slice pq nq cq,.int .i64 x.sc,.int .i64 x.r0,.int .i64 x.r1,.int .i64 x.r2,.int .i64 x.r3,.int .i64 x.r4,.int .i64 x.r5] 146)=w1):=⟨_,rfl⟩
 have Ha:=qq (show OwnL w1 w.heap.size [.int .i64 x.h.pw,.int .i64 x.h.np,.slice p n c,.slice q m d,.int .i64 x.h.space,.int .i64 x.h.bump,.slice po no co,.slice pt nt ct,.slice pq nq cq,.int .i64 x.sc,.int .i64 x.r0,.int .i64 x.r1,.int .i64 x.r2,.int .i64 x.r3,.int .i64 x.r4,.int .i64 x.r5] from by rw [<-hw1.out];exact OwnL.new w [.int .i64 x.h.pw,.int .i64 x.h.np,.slice p n c,.slice q m d,.int .i64 x.h.space,.int .i64 x.h.bump,.slice po no co,.slice pt nt ct,.slice pq nq cq,.int .i64 x.sc,.int .i64 x.r0,.int .i64 x.r1,.int .i64 x.r2,.int .i64 x.r3,.int .i64 x.r4,.int .i64 x.r5] 146)
 have HB:=qq (show Below w.heap.size w w1 from by rw [<-hw1.out];exact za1)
 have HR:=qq (hr.keep HB.out)
 have hwa:w.heap.size < w1.heap.size:=Ha.out.lt rfl
 have HP1:=qq hp1
 clear hr hp1
 have c8:=Ha.out.cell 8 _ rfl
 have hH:=zf1 (b:=false) (decide_eq_false hq) w1 HR.out.queue
 go_enter Tryz.func127,Tryz.ntmps127
 go_upto_region 1 with fail
 rw [hw1.out]
 clear hw1
 go_wp2_with fail
 refine hH.mono ?_
 rintro e w2 ⟨rfl,hb2⟩
 replace Ha:=qq (Ha.out.keep hb2 hwa)
 replace HB:=qq (za3 HB.out hb2)
 replace HR:=qq (HR.out.keep hb2)
 clear hb2 hH c8 hwa
 have c2c:=Ha.out.cell 2 _ rfl
 obtain ⟨W0,hW,hWl⟩:=zl5 HR.out.wb a
 have HW:=qq hW
 have HWl:=qq hWl
 clear hW hWl
 go_wp2_with fail
 refine (zd9 p n c x.h.words a w2 HR.out.words (by omega) hp0 HP1.out).mono ?_
 rintro e w4 ⟨rfl,rfl⟩
 rw [HW.out]
 clear c2c
 have hT:=zk8 W0 w2 HWl.out
 have hTG:=qq (show tgtV (evWd x a).toNat=tgtV W0 from by unfold evWd;rw [HW.out];rfl)
 obtain ⟨tg,htg⟩:∃ tg,tgtV W0=tg:=⟨_,rfl⟩
 obtain ⟨ok,hok⟩:∃ ok,okT W0=ok:=⟨_,rfl⟩
 rw [htg] at hTG
 rw [htg,hok] at hT
 clear htg hok
 go_wp2_with fail
 refine hT.mono ?_
 rintro e w4 ⟨rfl,rfl⟩
 clear hT
 go_wp2
 go_ret
 rw [hTG.out]
 exact ⟨rfl,HB.out⟩
theorem refafter_any (S:Nat->Prop) (x:Wk) (p q po pt pq:Option Addr) (n c m d no co nt ct nq cq:Nat) (a:Int) (w:World) (hr:WR w S x p q po pt pq n c m d no co nt ct nq cq) (hn:n<=100000) (hp0:0<=a) (hp1:a < 18446744073709551616) :
 Calls Tryz.prog 127 #[(.agg #[.int .i64 x.h.pw,.int .i64 x.h.np,.slice p n c,.slice q m d,.int .i64 x.h.space,.int .i64 x.h.bump,.slice po no co,.slice pt nt ct,.slice pq nq cq,.int .i64 x.sc,.int .i64 x.r0,.int .i64 x.r1,.int .i64 x.r2,.int .i64 x.r3,.int .i64 x.r4,.int .i64 x.r5]),.int .u64 a] w fun e w'=>e = .returned (.int .u64 (afterV x a))/\Below w.heap.size w w':=by
 unfold afterV
 by_cases hq:a∈x.queue
 · rw [if_pos hq];exact after_in S x p q po pt pq n c m d no co nt ct nq cq a w hr hn hp0 hp1 hq
 · rw [if_neg hq];exact after_out S x p q po pt pq n c m d no co nt ct nq cq a w hr hn hp0 hp1 hq
end Go.Proofs.YtipjdbhocjpmdaaGreat
