import Derived.Test.YtipjdbhocjpmdaaGreatQ01
import Derived.Test.YtipjdbhocjpmdaaGreatQ05
import Derived.Test.YtipjdbhocjpmdaaGreatQ12
import Derived.Test.YtipjdbhocjpmdaaGreatQ13
import Derived.Test.YtipjdbhocjpmdaaGreatQ14
import Derived.Test.YtipjdbhocjpmdaaGreatQ23
set_option linter.unusedSimpArgs false
set_option linter.unusedVariables false
set_option maxRecDepth 100000
set_option maxHeartbeats 12800000
namespace Go.Proofs.YtipjdbhocjpmdaaGreat
open Go.RowKit
def zo9 (h:Hp):Nat->Nat->Fd
 | _,0=>Fd.none
 | i,n+1=>if ¬(pageF h i).fault=0 then pageF h i else zo9 h (i+1) n
def zg1:List Pg->Nat
 | []=>0
 | x :: r=>(if x.kind=1/\0 < x.pins then 1 else 0)+zg1 r
theorem ye4:∀ a b:List Pg,zg1 (a ++ b)=zg1 a+zg1 b
 | [],b=>by simp [zg1]
 | x :: r,b=>by rw [List.cons_append,zg1,zg1,ye4 r b];omega
theorem crowdN_take {ps:List Pg} {k:Nat} {x:Pg} (h:ps[k]?=some x):zg1 (ps.take (k+1))=zg1 (ps.take k)+if x.kind=1/\0 < x.pins then 1 else 0:=by
 rw [zi9 h,ye4];simp [zg1]
theorem crowdN_le:∀ ps:List Pg,zg1 ps<=ps.length
 | []=>Nat.le_refl _
 | x :: r=>by have:=crowdN_le r;unfold zg1;rw [List.length_cons];split <;> omega
def zp0 (h:Hp):Fd :=
 if okH h then
  (if ¬(zo9 h 0 h.pages.length).fault=0 then zo9 h 0 h.pages.length
   else if ¬(zt2 h).fault=0 then zt2 h
   else if h.np / 4 < zg1 h.pages then ⟨7,0,0⟩ else Fd.none)
 else ⟨1,0,0⟩
def goodB (h:Hp):Bool:=decide ((zp0 h).fault=0)
theorem check_none {h:Hp} (e:(zp0 h).fault=0):zp0 h=Fd.none:=by
 unfold zp0 at e ⊢
 split at e
 · rename_i h1
   rw [if_pos h1]
   split at e
   · contradiction
   · rename_i h2
     rw [if_neg h2]
     split at e
     · contradiction
     · rename_i h3
       rw [if_neg h3]
       split at e
       · cases e
       · rename_i h4;rw [if_neg h4]
 · cases e
theorem check_bad (h:Hp) (p q:Option Addr) (n c m d:Nat) (w:World) (hs:SRow w .u64 p n c h.words) (hr:PRow w q m d h.pages) (h1:okH h=false) :
 Calls Tryz.prog 145 #[.agg #[.int .i64 h.pw,.int .i64 h.np,.slice p n c,.slice q m d,.int .i64 h.space,.int .i64 h.bump]] w fun e w'=>e = .returned (zp0 h).val/\Below w.heap.size w w':=by
 have E:=qq (show zp0 h=⟨1,0,0⟩ from by unfold zp0;rw [if_neg (by simp [h1])])
 have Ho:=Own3.new (w.alloc (.cells #[.int .i64 h.pw,.int .i64 h.np,.slice p n c,.slice q m d,.int .i64 h.space,.int .i64 h.bump] 27)) (.int .i64 0) (.int .i64 0) (.int .u64 0) 166
 simp only [World.size_alloc] at Ho
 have hbx2:=za3 (za1 (w:=w) (o:=.cells #[.int .i64 h.pw,.int .i64 h.np,.slice p n c,.slice q m d,.int .i64 h.space,.int .i64 h.bump] 27)) (za1 (o:=(.cells #[.int .i64 0,.int .i64 0,.int .u64 0] 166)))
 have hp:=qq (zf7 (show ze8 h.pw h.np h.words.length h.pages h.space h.bump=false from h1) _ (hs.keep hbx2) (hr.keep hbx2))
 have HB0:=qq hbx2
 have HO:=qq Ho
 clear hs hr h1 hbx2 Ho
 go_enter Tryz.func145,Tryz.ntmps145
 go_wp2_with fail
 refine hp.out.mono ?_
 rintro e w1 ⟨rfl,hb1⟩
 obtain ⟨d0,d1,d2,f0,f1,f2⟩:=HO.out.keep hb1
 have HB:=qq (za3 HB0.out hb1)
 clear hb1 hp HB0 HO
 go_wp2
 exact bodyPost_ret (v:=.agg #[.int .i64 1,.int .i64 0,.int .u64 0]) (by simp [results,Tryz.results145,go_sem,d0,d1,d2]) rfl ⟨by rw [E.out];rfl,zb9 HB.out (by omega)⟩
theorem check_run (h:Hp) (p q:Option Addr) (n c m d:Nat) (w:World) (hs:SRow w .u64 p n c h.words) (hr:PRow w q m d h.pages) (hwb:WB h.words) (h1:okH h=true) :
 Calls Tryz.prog 145 #[.agg #[.int .i64 h.pw,.int .i64 h.np,.slice p n c,.slice q m d,.int .i64 h.space,.int .i64 h.bump]] w fun e w'=>e = .returned (zp0 h).val/\Below w.heap.size w w':=by
 obtain ⟨x0,x1,x2,x3,x4,x5,hbx⟩:=boxH w (.int .i64 h.pw) (.int .i64 h.np) (.slice p n c) (.slice q m d) (.int .i64 h.space) (.int .i64 h.bump) 27
 have Ho:=Own3.new (w.alloc (.cells #[.int .i64 h.pw,.int .i64 h.np,.slice p n c,.slice q m d,.int .i64 h.space,.int .i64 h.bump] 27)) (.int .i64 0) (.int .i64 0) (.int .u64 0) 166
 simp only [World.size_alloc] at Ho
 have hbx2:=za3 hbx (za1 (o:=(.cells #[.int .i64 0,.int .i64 0,.int .u64 0] 166)))
 have x0:=za0 (za1 (o:=(.cells #[.int .i64 0,.int .i64 0,.int .u64 0] 166))) x0
 have x1:=za0 (za1 (o:=(.cells #[.int .i64 0,.int .i64 0,.int .u64 0] 166))) x1
 have x2:=za0 (za1 (o:=(.cells #[.int .i64 0,.int .i64 0,.int .u64 0] 166))) x2
 have x3:=za0 (za1 (o:=(.cells #[.int .i64 0,.int .i64 0,.int .u64 0] 166))) x3
 have x4:=za0 (za1 (o:=(.cells #[.int .i64 0,.int .i64 0,.int .u64 0] 166))) x4
 have x5:=za0 (za1 (o:=(.cells #[.int .i64 0,.int .i64 0,.int .u64 0] 166))) x5
 have hp:=qq (zf7 (show ze8 h.pw h.np h.words.length h.pages h.space h.bump=true from h1) _ (hs.keep hbx2) (hr.keep hbx2))
 have hHV:=qq (fun w' (hb:Below w.heap.size w w')=>(⟨p,n,c,q,m,d,rfl,hs.keep hb,hr.keep hb,hwb⟩:HV w' (.agg #[.int .i64 h.pw,.int .i64 h.np,.slice p n c,.slice q m d,.int .i64 h.space,.int .i64 h.bump]) h))
 have hpg:=qq (fun (i:Nat) (hi:i < m) w' (hb:Below w.heap.size w w')=>refPage9_val i w' (hHV.out w' hb) h1 (by rw [hr.len];exact hi))
 have hpt:=qq (fun w' (hb:Below w.heap.size w w')=>refPointers9_val w' (hHV.out w' hb) h1)
 have Hpr:=qq (fun w' (hb:Below w.heap.size w w')=>hr.keep hb)
 have hC:zp0 h=(if ¬(zo9 h 0 h.pages.length).fault=0 then zo9 h 0 h.pages.length
  else if ¬(zt2 h).fault=0 then zt2 h
  else if h.np / 4 < zg1 h.pages then ⟨7,0,0⟩ else Fd.none):=by unfold zp0;rw [if_pos h1]
 rw [hr.len] at hC
 obtain ⟨g1,-,g3,-⟩:=zc2 h1
 obtain ⟨-,-,-,k4,k5⟩:=zb1 g1
 have hm64:m<=64:=by have:=hr.len;omega
 have HM:=qq hr.len
 have hcl:=crowdN_le h.pages
 rw [hr.len] at hcl
 have hnp0:0<=h.np:=by omega
 obtain ⟨PF,hPF⟩:∃ PF,Hid (zo9 h 0 m=PF):=⟨_,rfl⟩
 rw [hPF.out] at hC
 generalize zt2 h=QF at hpt hC
 obtain ⟨CN,hCN⟩:∃ CN,Hid (zg1 h.pages=CN):=⟨_,rfl⟩
 rw [hCN.out] at hC hcl
 generalize zp0 h=CF at hC
 have HC:=qq (show (¬PF.fault=0/\CF=PF)\/(PF.fault=0/\¬QF.fault=0/\CF=QF)\/(PF.fault=0/\QF.fault=0/\h.np / 4 < CN/\CF=⟨7,0,0⟩)\/(PF.fault=0/\QF.fault=0/\(CN:Int)<=h.np / 4/\CF=Fd.none) from by
  by_cases a1:PF.fault=0
  · rw [if_neg (fun h=>h a1)] at hC
    by_cases a2:QF.fault=0
    · rw [if_neg (fun h=>h a2)] at hC
      by_cases a3:h.np / 4 < CN
      · rw [if_pos a3] at hC;exact Or.inr (Or.inr (Or.inl ⟨a1,a2,a3,hC⟩))
      · rw [if_neg a3] at hC;exact Or.inr (Or.inr (Or.inr ⟨a1,a2,by omega,hC⟩))
    · rw [if_pos a2] at hC;exact Or.inr (Or.inl ⟨a1,a2,hC⟩)
  · rw [if_pos a1] at hC;exact Or.inl ⟨a1,hC⟩)
 have HB0:=qq hbx2
 have HO:=qq Ho
 clear hs hr hHV hC hbx hbx2 Ho hwb h1 g1 g3
 go_enter Tryz.func145,Tryz.ntmps145
 go_wp2_with fail
 refine hp.out.mono ?_
 rintro e w1 ⟨rfl,hb1⟩
 have x0:=za0 hb1 x0
 have x1:=za0 hb1 x1
 have x2:=za0 hb1 x2
 have x3:=za0 hb1 x3
 have x4:=za0 hb1 x4
 have x5:=za0 hb1 x5
 have HO:=qq (HO.out.keep hb1)
 have HB:=qq (za3 HB0.out hb1)
 clear hb1 hp HB0
 go_wp2
 go_loopw [3] (fun j wr=>∃ k:Nat,k<=m/\zo9 h k (m - k)=PF/\j = .int .i64 k/\Below w1.heap.size w1 wr) (fun j _=>m - (intOf j).toNat)
 case atStart=>exact ⟨0,by omega,hPF.out,rfl,Below.refl _ _⟩
 case round =>
  obtain ⟨k,hk,hf,rfl,hb⟩:=hrel
  have x0:=za0 hb x0
  have x1:=za0 hb x1
  have x2:=za0 hb x2
  have x3:=za0 hb x3
  have x4:=za0 hb x4
  have x5:=za0 hb x5
  have HOr:=qq (HO.out.keep hb)
  have Hwr:=qq (za3 HB.out hb)
  have Hb:=qq hb
  have Hf:=qq hf
  clear hf hb
  by_cases hlt:k < m
  · have hlt2:(k:Int) < m:=by omega
    have hst:=Hf.out
    rw [show m - k=(m - (k+1))+1 from by omega,zo9] at hst
    have hp2:=qq (hpg.out k hlt wr Hwr.out)
    generalize pageF h k=F at hst hp2
    obtain ⟨FF,FP,FA⟩:=F
    simp only [Fd.val] at hp2 hst
    by_cases hF0:FF=0
    · rw [if_neg (fun h=>h hF0)] at hst
      have E:=qq hst
      subst hF0
      clear hst
      go_wp2_with fail
      refine hp2.out.mono ?_
      rintro e w5 ⟨rfl,hb5⟩
      have Hb5:=qq (za3 Hb.out (za3 hb5 (za1 (o:=.cells #[.int .i64 0,.int .i64 FP,.int .u64 FA] 166))))
      clear hb5 hp2
      go_wp2
      go_roundw
      case rel=>exact ⟨k+1,by omega,E.out,by go_num,Hb5.out⟩
      case measure=>simp [intOf];omega
    · rw [if_pos hF0] at hst
      have E:=qq (show CF=⟨FF,FP,FA⟩ from by
       rcases HC.out with ⟨-,e⟩ | ⟨a,-⟩ | ⟨a,-⟩ | ⟨a,-⟩
       · rw [e,<-hst]
       · exact absurd (by rw [<-hst] at a;exact a) hF0
       · exact absurd (by rw [<-hst] at a;exact a) hF0
       · exact absurd (by rw [<-hst] at a;exact a) hF0)
      have b9:(FF != 0)=true:=bne_iff_ne.2 hF0
      clear hst hF0
      go_wp2_with fail
      refine hp2.out.mono ?_
      rintro e w5 ⟨rfl,hb5⟩
      have hb6:=za3 hb5 (za1 (o:=.cells #[.int .i64 FF,.int .i64 FP,.int .u64 FA] 166))
      obtain ⟨d0,d1,d2,f0,f1,f2⟩:=HOr.out.keep hb6
      have HB7:=qq (za3 Hwr.out hb5)
      obtain ⟨e0,e1,e2,g0,g1,g2⟩:=HOr.out.keep hb5
      have hlt5:w.heap.size+1 < w5.heap.size:=zb4 e0
      have hne:w5.heap.size≠w.heap.size+1:=by omega
      clear hb5 hb6 hp2 x0 x1 x2 x3 x4 x5
      go_wp2
      exact bodyPost_ret (v:=.agg #[.int .i64 FF,.int .i64 FP,.int .u64 FA]) (by simp [results,Tryz.results145,go_sem,d0,d1,d2,e0,e1,e2,hne,World.cell?_alloc_lt,hlt5]) rfl ⟨by rw [E.out];rfl,(zb9 HB7.out (by omega)).alloc (by simp;omega) _⟩
  · have hge:(m:Int)<=k:=by omega
    have hPF0:PF.fault=0:=by have:=Hf.out;rw [show m - k=0 from by omega,zo9] at this;rw [<-this];rfl
    have hpt2:=qq (hpt.out wr Hwr.out)
    obtain ⟨FF,FP,FA⟩:=QF
    simp only [Fd.val] at hpt2
    have HC2:=qq (show (¬FF=0/\CF=⟨FF,FP,FA⟩)\/(FF=0/\h.np / 4 < CN/\CF=⟨7,0,0⟩)\/(FF=0/\(CN:Int)<=h.np / 4/\CF=Fd.none) from by
     rcases HC.out with ⟨a,-⟩ | ⟨-,b,e⟩ | ⟨-,b,c,e⟩ | ⟨-,b,c,e⟩
     · exact absurd hPF0 a
     · exact Or.inl ⟨b,e⟩
     · exact Or.inr (Or.inl ⟨b,c,e⟩)
     · exact Or.inr (Or.inr ⟨b,c,e⟩))
    clear hPF0 HC hpg
    by_cases hF0:FF=0
    · subst hF0
      go_wp2_with fail
      refine hpt2.out.mono ?_
      rintro e w5 ⟨rfl,hb5⟩
      have hb6:=za3 hb5 (za1 (o:=.cells #[.int .i64 0,.int .i64 FP,.int .u64 FA] 166))
      have HO6:=qq (HOr.out.keep hb6)
      have HB6:=qq (za3 Hwr.out hb6)
      have x0:=za0 hb6 x0
      have x1:=za0 hb6 x1
      have x3:=za0 hb6 x3
      clear hb5 hb6 hpt2 x2 x4 x5
      go_wp2
      go_loopw [6,7] (fun v j wy=>∃ t s:Nat,t<=m/\s<=t/\s=zg1 (h.pages.take t)/\v = .int .i64 s/\j = .int .i64 t/\Below (w5.alloc (.cells #[.int .i64 0,.int .i64 FP,.int .u64 FA] 166)).heap.size (w5.alloc (.cells #[.int .i64 0,.int .i64 FP,.int .u64 FA] 166)) wy) (fun _ j _=>m - (intOf j).toNat)
      case atStart=>exact ⟨0,0,by omega,by omega,by simp [zg1],rfl,rfl,Below.refl _ _⟩
      case round =>
       obtain ⟨t,s,ht,hst,hs,rfl,rfl,hby⟩:=hrel
       have Hs:=qq hs
       have x0:=za0 hby x0
       have x1:=za0 hby x1
       have x3:=za0 hby x3
       have Hby:=qq hby
       have HBy:=qq (za3 HB6.out hby)
       have HOy:=qq (HO6.out.keep hby)
       clear hs hby
       by_cases htl:t < m
       · have htl2:(t:Int) < m:=by omega
         obtain ⟨x,b,off,hx,rfl,c0,-,-,c3⟩:=(Hpr.out _ HBy.out).at_ htl
         have hcs:=crowdN_take hx
         clear hx
         by_cases hk1:x.kind=1
         · rw [hk1] at c0
           by_cases hp0:0 < x.pins
           · rw [if_pos ⟨hk1,hp0⟩] at hcs
             have Hcs:=qq hcs
             clear hcs hk1
             go_wp2
             go_roundw
             case rel=>exact ⟨t+1,s+1,by omega,by omega,by rw [Hcs.out,Hs.out],by go_num,by go_num,Hby.out⟩
             case measure=>simp [intOf];omega
           · rw [if_neg (fun h=>hp0 h.2)] at hcs
             have Hcs:=qq hcs
             clear hcs hk1
             go_wp2
             go_roundw
             case rel=>exact ⟨t+1,s,by omega,by omega,by rw [Hcs.out,Hs.out];omega,rfl,by go_num,Hby.out⟩
             case measure=>simp [intOf];omega
         · rw [if_neg (fun h=>hk1 h.1)] at hcs
           have Hcs:=qq hcs
           have b2:(x.kind == 1)=false:=beq_eq_false_iff_ne.2 hk1
           clear hcs hk1
           go_wp2
           go_roundw
           case rel=>exact ⟨t+1,s,by omega,by omega,by rw [Hcs.out,Hs.out];omega,rfl,by go_num,Hby.out⟩
           case measure=>simp [intOf];omega
       · have hsC:s=CN:=by rw [Hs.out,List.take_of_length_le (by rw [HM.out];omega),hCN.out]
         subst hsC
         obtain ⟨d0,d1,d2,f0,f1,f2⟩:=HOy.out
         by_cases hcr:h.np / 4 < s
         · have E:=qq (show CF=⟨7,0,0⟩ from by
            rcases HC2.out with ⟨a,-⟩ | ⟨-,-,e⟩ | ⟨-,a,-⟩
            · exact absurd trivial a
            · exact e
            · omega)
           clear HC2
           go_wp2
           exact bodyPost_ret (v:=.agg #[.int .i64 7,.int .i64 0,.int .u64 0]) (by simp [results,Tryz.results145,go_sem,d0,d1,d2]) rfl ⟨by rw [E.out];rfl,zb9 HBy.out (by omega)⟩
         · have E:=qq (show CF=Fd.none from by
            rcases HC2.out with ⟨a,-⟩ | ⟨-,a,-⟩ | ⟨-,-,e⟩
            · exact absurd trivial a
            · omega
            · exact e)
           have hcr2:(s:Int)<=h.np / 4:=by omega
           clear HC2 hcr
           go_wp2
           exact bodyPost_ret (v:=.agg #[.int .i64 0,.int .i64 0,.int .u64 0]) (by simp [results,Tryz.results145,go_sem,d0,d1,d2]) rfl ⟨by rw [E.out];rfl,zb9 HBy.out (by omega)⟩
    · have E:=qq (show CF=⟨FF,FP,FA⟩ from by
       rcases HC2.out with ⟨-,e⟩ | ⟨a,-⟩ | ⟨a,-⟩
       · exact e
       · exact absurd a hF0
       · exact absurd a hF0)
      have b9:(FF != 0)=true:=bne_iff_ne.2 hF0
      clear hF0 HC2
      go_wp2_with fail
      refine hpt2.out.mono ?_
      rintro e w5 ⟨rfl,hb5⟩
      have hb6:=za3 hb5 (za1 (o:=.cells #[.int .i64 FF,.int .i64 FP,.int .u64 FA] 166))
      obtain ⟨d0,d1,d2,f0,f1,f2⟩:=HOr.out.keep hb6
      have HB7:=qq (za3 Hwr.out hb5)
      obtain ⟨e0,e1,e2,g0,g1,g2⟩:=HOr.out.keep hb5
      have hlt5:w.heap.size+1 < w5.heap.size:=zb4 e0
      have hne:w5.heap.size≠w.heap.size+1:=by omega
      clear hb5 hb6 hpt2 x0 x1 x2 x3 x4 x5
      go_wp2
      exact bodyPost_ret (v:=.agg #[.int .i64 FF,.int .i64 FP,.int .u64 FA]) (by simp [results,Tryz.results145,go_sem,d0,d1,d2,e0,e1,e2,hne,World.cell?_alloc_lt,hlt5]) rfl ⟨by rw [E.out];rfl,(zb9 HB7.out (by omega)).alloc (by simp;omega) _⟩
theorem refCheck_val {u:Value} {h:Hp} (w:World) (hu:HV w u h) :
 Calls Tryz.prog 145 #[u] w fun e w'=>e = .returned (zp0 h).val/\Below w.heap.size w w':=by
 obtain ⟨p,n,c,q,m,d,rfl,hs,hr,hwb⟩:=hu
 cases h1:okH h
 · exact check_bad h p q n c m d w hs hr h1
 · exact check_run h p q n c m d w hs hr hwb h1
theorem refGood9_val {u:Value} {h:Hp} (w:World) (hu:HV w u h) :
 Calls Tryz.prog 135 #[u] w fun e w'=>e = .returned (.bool (goodB h))/\Below w.heap.size w w':=by
 obtain ⟨p,n,c,q,m,d,rfl,hs,hr,hwb⟩:=hu
 have hb0:Below w.heap.size w (w.alloc (.cells #[.int .i64 h.pw,.int .i64 h.np,.slice p n c,.slice q m d,.int .i64 h.space,.int .i64 h.bump] 27)):=za1
 have hc:=qq (refCheck_val (h:=h) (w.alloc (.cells #[.int .i64 h.pw,.int .i64 h.np,.slice p n c,.slice q m d,.int .i64 h.space,.int .i64 h.bump] 27)) ⟨p,n,c,q,m,d,rfl,hs.keep hb0,hr.keep hb0,hwb⟩)
 have HB:=qq hb0
 have hz:=qq (fun e=>check_none (h:=h) e)
 obtain ⟨C,hC⟩:∃ C,Hid (zp0 h=C):=⟨_,rfl⟩
 rw [hC.out] at hc hz
 obtain ⟨G,hG⟩:∃ G,Hid (goodB h=G):=⟨_,rfl⟩
 have hG2:=qq (show decide (C.fault=0)=G from by rw [<-hC.out];exact hG.out)
 rw [hG.out]
 obtain ⟨CF,CP,CA⟩:=C
 simp only [Fd.val] at hc
 clear hs hr hb0 hwb hG hC
 by_cases h0:CF=0
 · have hN:=hz.out h0
   unfold Fd.none at hN
   injection hN with n1 n2 n3
   subst n1 n2 n3
   have E:=qq (show true=G from by rw [<-hG2.out];rfl)
   clear hG2 hz h0
   go_enter Tryz.func135,Tryz.ntmps135
   go_wp2_with fail
   refine hc.out.mono ?_
   rintro e w1 ⟨rfl,hb1⟩
   go_wp2
   go_ret
   exact ⟨za9 E.out,za3 HB.out hb1⟩
 · have E:=qq (show false=G from by rw [<-hG2.out];exact (decide_eq_false h0).symm)
   have b9:(CF == 0)=false:=beq_eq_false_iff_ne.2 h0
   clear hG2 hz h0
   go_enter Tryz.func135,Tryz.ntmps135
   go_wp2_with fail
   refine hc.out.mono ?_
   rintro e w1 ⟨rfl,hb1⟩
   go_wp2
   go_ret
   exact ⟨za9 E.out,za3 HB.out hb1⟩
def zw2 (h:Hp) (l:List Int):Bool:=goodB h && l.all fun x=>decide (x=0\/x∈zc0 h)
theorem all_at {P:Int->Bool} {l:List Int} {k:Nat} {x:Int} (hx:l[k]?=some x):(l.drop k).all P=(P x && (l.drop (k+1)).all P):=by
 obtain ⟨hk,rfl⟩:=List.getElem?_eq_some_iff.1 hx
 rw [List.drop_eq_getElem_cons hk,List.all_cons]
theorem zz3 {u:Value} {h:Hp} (lp:Option Addr) (N lc:Nat) (ls:List Int) (w:World) (hu:HV w u h) (hl:SRow w .u64 lp N lc ls) :
 Calls Tryz.prog 123 #[u,.slice lp N lc] w fun e w'=>e = .returned (.bool (zw2 h ls))/\Below w.heap.size w w':=by
 obtain ⟨p,n,c,q,m,d,rfl,hs,hr,hwb⟩:=hu
 obtain ⟨x0,x1,x2,x3,x4,x5,hbx⟩:=boxH w (.int .i64 h.pw) (.int .i64 h.np) (.slice p n c) (.slice q m d) (.int .i64 h.space) (.int .i64 h.bump) 27
 have hHV:=qq (fun w' (hb:Below w.heap.size w w')=>(⟨p,n,c,q,m,d,rfl,hs.keep hb,hr.keep hb,hwb⟩:HV w' (.agg #[.int .i64 h.pw,.int .i64 h.np,.slice p n c,.slice q m d,.int .i64 h.space,.int .i64 h.bump]) h))
 have hgd:=qq (fun w' (hb:Below w.heap.size w w')=>refGood9_val w' (hHV.out w' hb))
 have hob:=qq (fun w' (hb:Below w.heap.size w w')=>zx8 w' (hHV.out w' hb))
 have Hlr:=qq (fun w' (hb:Below w.heap.size w w')=>hl.keep hb)
 have hN9:=hl.i63.2
 have HNl:=qq hl.len
 have hR:zw2 h ls=(goodB h && ls.all fun x=>decide (x=0\/x∈zc0 h)):=rfl
 obtain ⟨G,hG⟩:∃ G,Hid (goodB h=G):=⟨_,rfl⟩
 rw [hG.out] at hgd hR
 generalize zc0 h=all at hob hR
 generalize zl8 h=SE at hob
 obtain ⟨R,hR2⟩:∃ R,Hid (zw2 h ls=R):=⟨_,rfl⟩
 rw [hR2.out] at hR ⊢
 have HB0:=qq hbx
 clear hs hr hHV hl hwb hbx hG hR2
 cases G
 · have E:=qq (show false=R from by rw [hR];rfl)
   clear hR
   go_enter Tryz.func123,Tryz.ntmps123
   go_wp2_with fail
   refine (hgd.out _ HB0.out).mono ?_
   rintro e w1 ⟨rfl,hb1⟩
   go_wp2
   go_ret
   exact ⟨za9 E.out,za3 HB0.out hb1⟩
 · rw [Bool.true_and] at hR
   have HR:=qq hR
   clear hR
   go_enter Tryz.func123,Tryz.ntmps123
   go_wp2_with fail
   refine (hgd.out _ HB0.out).mono ?_
   rintro e w1 ⟨rfl,hb1⟩
   have x0:=za0 hb1 x0
   have x1:=za0 hb1 x1
   have x2:=za0 hb1 x2
   have x3:=za0 hb1 x3
   have x4:=za0 hb1 x4
   have x5:=za0 hb1 x5
   have HB1:=qq (za3 HB0.out hb1)
   clear hb1 hgd
   go_wp2_with fail
   refine (hob.out _ HB1.out).mono ?_
   rintro e w2 ⟨⟨op,ON,oc,rfl,horow⟩,hb2⟩
   have HB2:=qq (za3 HB1.out hb2)
   have Hor:=qq (fun w' (hb:Below w2.heap.size w2 w')=>horow.keep hb)
   clear hb2 hob horow HB1 x0 x1 x2 x3 x4 x5
   go_wp2
   go_loopw [7] (fun j wr=>∃ k:Nat,k<=N/\(ls.drop k).all (fun x=>decide (x=0\/x∈all))=R/\j = .int .i64 k/\Below w2.heap.size w2 wr) (fun j _=>N - (intOf j).toNat)
   case atStart=>exact ⟨0,by omega,by rw [List.drop_zero];exact HR.out.symm,rfl,Below.refl _ _⟩
   case round =>
    obtain ⟨k,hk,hf,rfl,hb⟩:=hrel
    have Hwr:=qq (za3 HB2.out hb)
    have Hb:=qq hb
    by_cases hlt:k < N
    · have hlt2:(k:Int) < N:=by omega
      obtain ⟨x,lb,lo,hx,rfl,lc0⟩:=(Hlr.out _ Hwr.out).at_ hlt
      have hst:=all_at (P:=fun x=>decide (x=0\/x∈all)) hx
      rw [hf] at hst
      clear hf hx hb
      by_cases hx0:x=0
      · have E:=qq (show (ls.drop (k+1)).all (fun x=>decide (x=0\/x∈all))=R from by rw [hst,decide_eq_true (Or.inl hx0),Bool.true_and])
        subst hx0
        clear hst
        go_wp2
        go_roundw
        case rel=>exact ⟨k+1,by omega,E.out,by go_num,Hb.out⟩
        case measure=>simp [intOf];omega
      · have b9:(x != 0)=true:=bne_iff_ne.2 hx0
        have hhas:=qq (ya3 op ON oc all x wr (Hor.out _ Hb.out))
        by_cases hxm:x∈all
        · have E:=qq (show (ls.drop (k+1)).all (fun x=>decide (x=0\/x∈all))=R from by rw [hst,decide_eq_true (Or.inr hxm),Bool.true_and])
          rw [decide_eq_true hxm] at hhas
          clear hst hx0 hxm
          go_wp2_with fail
          refine hhas.out.mono ?_
          rintro e w5 ⟨rfl,hb5⟩
          have Hb5:=qq (za3 Hb.out hb5)
          clear hb5 hhas
          go_wp2
          go_roundw
          case rel=>exact ⟨k+1,by omega,E.out,by go_num,Hb5.out⟩
          case measure=>simp [intOf];omega
        · have E:=qq (show false=R from by rw [hst,decide_eq_false (fun h=>h.elim hx0 hxm),Bool.false_and])
          rw [decide_eq_false hxm] at hhas
          clear hst hx0 hxm
          go_wp2_with fail
          refine hhas.out.mono ?_
          rintro e w5 ⟨rfl,hb5⟩
          have Hb5:=qq (za3 Hwr.out hb5)
          clear hb5 hhas
          go_wp2
          go_ret
          exact ⟨za9 E.out,Hb5.out⟩
    · have E:=qq (show true=R from by rw [<-hf,List.drop_eq_nil_of_le (by rw [HNl.out];omega)];rfl)
      clear hf hb
      go_wp2
      go_ret
      exact ⟨za9 E.out,Hwr.out⟩
theorem ya4 {h:Hp} {n:Int} (h1:okH h=true) (hok:zf5 h n=true) :
 ∃ j:Nat,∃ x:Pg,zl3 h n=j/\j < h.pages.length/\(zf8 h n).length=h.pages.length/\(zf8 h n)[j]?=some x/\x.kind=1/\0<=x.used/\x.used<=h.pw/\x.space=h.space /\
  ((newB h n=true/\zf8 h n=h.pages.set j ⟨1,h.space,0,0⟩/\x=⟨1,h.space,0,0⟩/\zk9 h.pages (zc7 h.pages 1) h.space=0/\∃ y,h.pages[j]?=some y/\y.kind=0)\/(newB h n=false/\zf8 h n=h.pages/\x.used+n<=h.pw)):=by
 obtain ⟨g1,g2,g3,g4,g5,g6,g7⟩:=zc2 h1
 obtain ⟨k1,k2,-,k4,k5⟩:=zb1 g1
 unfold zf5 at hok
 cases hn:newB h n
 · have hd:=of_decide_eq_false hn
   have hb0:0<=h.bump:=by omega
   have hbb:=of_decide_eq_true g6
   have hbs:h.bump < h.pages.length/\(h.pages.getD h.bump.toNat Pg.zero).kind=1:=by
    rcases hbb with h | h
    · omega
    · exact ⟨h.2.1,h.2.2⟩
   have hx:h.pages[h.bump.toNat]?=some (h.pages[h.bump.toNat]'(by omega)):=List.getElem?_eq_getElem _
   have hgd:=zc6 hx
   have hmem:=zn2 _ _ _ _ g7 _ (List.mem_of_getElem? hx)
   rw [hgd] at hbs
   have hbp:zs1 h=h.pages[h.bump.toNat]'(by omega):=hgd
   rw [hbp] at hd
   refine ⟨h.bump.toNat,h.pages[h.bump.toNat]'(by omega),by unfold zl3;rw [hn];simp;omega,by omega,by unfold zf8;rw [hn];rfl,by unfold zf8;rw [hn];exact hx,hbs.2,(hmem.2.2.2.2.2.1 hbs.2).1,(hmem.2.2.2.2.2.1 hbs.2).2,?_,Or.inr ⟨rfl,by unfold zf8;rw [hn];rfl,by omega⟩⟩
   have:¬¬(h.pages[h.bump.toNat]'(by omega)).space=h.space:=fun c=>hd (Or.inr (Or.inl c))
   exact Classical.not_not.1 this
 · rw [hn,Bool.true_and] at hok
   have hf:zt3 h=false:=by simpa using hok
   have hd:=of_decide_eq_false hf
   have hF:0<=zc7 h.pages 1:=by omega
   obtain ⟨-,f1,f2⟩:=zu3 hF
   obtain ⟨y,hy,hy0⟩:=f2 (zc7 h.pages 1).toNat (by omega) (by omega)
   have hlt:(zc7 h.pages 1).toNat < h.pages.length:=(List.getElem?_eq_some_iff.1 hy).1
   have hfree:zh7 h.pages (zc7 h.pages 1).toNat 1=true:=by
    have:=zr5 (ps:=h.pages) (i:=(zc7 h.pages 1).toNat) (k:=0) (x:=y) (by rw [Nat.add_zero];exact hy)
    rw [zu0,hy0] at this;simpa using this
   obtain ⟨t1,t2⟩:=zx6 (x:=⟨1,h.space,0,0⟩) (y:=Pg.zero) hlt (show (zc7 h.pages 1).toNat+1<=h.pages.length by omega) hfree
   have eF:(((zc7 h.pages 1).toNat:Nat):Int)=zc7 h.pages 1:=by omega
   rw [eF] at t1 t2
   have hps:zf8 h n=h.pages.set (zc7 h.pages 1).toNat ⟨1,h.space,0,0⟩:=by
    unfold zf8 zj3
    rw [hn,if_pos rfl,if_pos ⟨g4,g5⟩]
    rw [show ((1:Nat):Int)=1 from rfl] at t1
    rw [t1]
    apply List.ext_getElem?
    intro i
    have hl:(put h.pages (zc7 h.pages 1).toNat 1 Pg.zero).length=h.pages.length:=zw1 (by omega)
    rw [List.getElem?_set,List.getElem?_set,hl]
    split
    · rfl
    · rw [zq4 (by omega) (by omega)]
   have hpe:zk9 h.pages (zc7 h.pages 1) h.space=0:=by
    unfold zk9;rw [if_pos ⟨g4,g5⟩];exact t2
   refine ⟨(zc7 h.pages 1).toNat,⟨1,h.space,0,0⟩,by unfold zl3;rw [hn];exact eF.symm,hlt,by rw [hps,List.length_set],by rw [hps,List.getElem?_set];simp [hlt],rfl,by simp,by simp only;omega,rfl,Or.inl ⟨rfl,hps,rfl,hpe,y,hy,hy0⟩⟩
end Go.Proofs.YtipjdbhocjpmdaaGreat
