import Derived.Test.YtipjdbhocjpmdaaGreatQ01
import Derived.Test.YtipjdbhocjpmdaaGreatQ02
import Derived.Test.YtipjdbhocjpmdaaGreatQ07
import Derived.Test.YtipjdbhocjpmdaaGreatQ08
import Derived.Test.YtipjdbhocjpmdaaGreatQ10
import Derived.Test.YtipjdbhocjpmdaaGreatQ11
import Derived.Test.YtipjdbhocjpmdaaGreatQ12
import Derived.Deep.RegionHeld3
import Derived.Maps.RangeWalk
import Derived.Lib.SliceRun
set_option linter.unusedSimpArgs false
set_option linter.unusedVariables false
set_option maxRecDepth 100000
set_option maxHeartbeats 12800000
namespace Go.Proofs.YtipjdbhocjpmdaaGreat
open Go.RowKit
structure Hp where
 pw:Int
 np:Int
 words:List Int
 pages:List Pg
 space:Int
 bump:Int
def Hp.zero:Hp:=⟨0,0,[],[],0,0⟩
def WB (xs:List Int):Prop:=∀ x∈xs,0<=x/\x < 18446744073709551616
theorem WB.zeros (n:Nat):WB (List.replicate n 0):=by
 intro x hx;obtain ⟨_,rfl⟩:=List.mem_replicate.1 hx;omega
theorem WB.nil:WB []:=fun x h=>by cases h
def HV (w:World) (v:Value) (h:Hp):Prop:=∃ p n c q m d,v = .agg #[.int .i64 h.pw,.int .i64 h.np,.slice p n c,.slice q m d,.int .i64 h.space,.int .i64 h.bump]/\SRow w .u64 p n c h.words/\PRow w q m d h.pages/\WB h.words
theorem HV.keep {w w':World} {v:Value} {h:Hp} (hv:HV w v h) (hb:Below w.heap.size w w'):HV w' v h:=by
 obtain ⟨p,n,c,q,m,d,rfl,h1,h2,h3⟩:=hv
 exact ⟨p,n,c,q,m,d,rfl,h1.keep hb,h2.keep hb,h3⟩
theorem HV.zero (w:World):HV w (.agg #[.int .i64 0,.int .i64 0,.slice none 0 0,.slice none 0 0,.int .i64 0,.int .i64 0]) Hp.zero:=⟨none,0,0,none,0,0,rfl,SRow.nil _ _ _,PRow.nil _ _,WB.nil⟩
def RetH (h:Hp) (er:Int) (e:Ending) (w':World):Prop:=∃ v,e = .returned (.tuple #[v,.int .i64 er])/\HV w' v h
def zi1 (pw np:Int):Hp:=if zb8 pw np then ⟨pw,np,List.replicate (np*pw).toNat 0,List.replicate np.toNat Pg.zero,0,-1⟩ else Hp.zero
def newHE (pw np:Int):Int:=if zb8 pw np then 0 else 1
theorem newH_ok {pw np:Int} (h:zb8 pw np=true):zi1 pw np=⟨pw,np,List.replicate (np*pw).toNat 0,List.replicate np.toNat Pg.zero,0,-1⟩/\newHE pw np=0:=by
 unfold zi1 newHE;rw [if_pos h,if_pos h];exact ⟨rfl,rfl⟩
theorem newH_no {pw np:Int} (h:zb8 pw np=false):zi1 pw np=Hp.zero/\newHE pw np=1:=by
 unfold zi1 newHE;rw [if_neg (by simp [h]),if_neg (by simp [h])];exact ⟨rfl,rfl⟩
theorem made_const (z:Value) (k:Nat):(madeCells #[z,z,z,z] k).toList=List.replicate k z:=by
 unfold madeCells
 rw [Array.toList_map]
 apply List.ext_getElem
 · simp
 · intro i h1 h2
   simp only [List.getElem_map,List.getElem_replicate]
   have:∀ j,j < 4->(#[z,z,z,z]:Array Value)[j]! = z:=by
    intro j hj
    rcases (show j=0\/j=1\/j=2\/j=3 by omega) with rfl | rfl | rfl | rfl <;> rfl
   exact this _ (Nat.mod_lt _ (by simp))
theorem pvals_zeros:∀ n:Nat,zc4 (List.replicate n Pg.zero)=List.replicate (n*4) (.int .i64 0)
 | 0=>rfl
 | n+1=>by
  rw [List.replicate_succ,show zc4 (Pg.zero :: List.replicate n Pg.zero)=Pg.zero.vals ++ zc4 (List.replicate n Pg.zero) from rfl,pvals_zeros n,show (n+1)*4=n*4+1+1+1+1 from by omega,List.replicate_succ,List.replicate_succ,List.replicate_succ,List.replicate_succ];rfl
theorem made_pages (w:World) (T:TypeId) (n:Nat) (hn:n<=maxLen):PRow (w.alloc (.cells (madeCells #[.int .i64 0,.int .i64 0,.int .i64 0,.int .i64 0] (n*4)) T)) (some ⟨w.heap.size,0,none⟩) n n (List.replicate n Pg.zero):=by
 refine ⟨by rw [zr0,List.length_replicate],Nat.le_refl _,hn,fun i v hv=>⟨w.heap.size,0,rfl,?_⟩⟩
 have hh:=heap_alloc_new w (.cells (madeCells #[.int .i64 0,.int .i64 0,.int .i64 0,.int .i64 0] (n*4)) T)
 rw [pvals_zeros,<-made_const,Array.getElem?_toList] at hv
 simp only [World.cell?,hh,Nat.zero_add]
 exact hv
theorem made_words (w:World) (T:TypeId) (n:Nat) (hn:n<=maxLen):SRow (w.alloc (.cells (madeCells #[.int .u64 0] n) T)) .u64 (some ⟨w.heap.size,0,none⟩) n n (List.replicate n 0):=by
 refine ⟨List.length_replicate,Nat.le_refl _,hn,fun i x hx=>⟨w.heap.size,0,rfl,?_⟩⟩
 have hh:=heap_alloc_new w (.cells (madeCells #[.int .u64 0] n) T)
 have h2:(zb2 .u64 (List.replicate n 0))[i]?=some (.int .u64 x):=yb1 hx
 rw [<-zw4,Array.getElem?_toList] at h2
 simp only [World.cell?,hh,Nat.zero_add]
 exact h2
theorem yd4 (w:World) (T:TypeId) (n b:Nat) (hb:w.heap.size=b) (hn:n<=maxLen):PRow (w.alloc (.cells (madeCells #[.int .i64 0,.int .i64 0,.int .i64 0,.int .i64 0] (n*4)) T)) (some ⟨b,0,none⟩) n n (List.replicate n Pg.zero):=by
 subst hb;exact made_pages w T n hn
theorem made_words' (w:World) (T:TypeId) (n b:Nat) (hb:w.heap.size=b) (hn:n<=maxLen):SRow (w.alloc (.cells (madeCells #[.int .u64 0] n) T)) .u64 (some ⟨b,0,none⟩) n n (List.replicate n 0):=by
 subst hb;exact made_words w T n hn
structure Own6 (w:World) (b:Nat) (x0 x1 x2 x3 x4 x5:Value):Prop where
 c0:w.cell? ⟨b,0,none⟩=some x0
 c1:w.cell? ⟨b,1,none⟩=some x1
 c2:w.cell? ⟨b,2,none⟩=some x2
 c3:w.cell? ⟨b,3,none⟩=some x3
 c4:w.cell? ⟨b,4,none⟩=some x4
 c5:w.cell? ⟨b,5,none⟩=some x5
 f0:w.frozen? ⟨b,0,none⟩=false
 f1:w.frozen? ⟨b,1,none⟩=false
 f2:w.frozen? ⟨b,2,none⟩=false
 f3:w.frozen? ⟨b,3,none⟩=false
 f4:w.frozen? ⟨b,4,none⟩=false
 f5:w.frozen? ⟨b,5,none⟩=false
theorem Own6.keep {w w':World} {b:Nat} {x0 x1 x2 x3 x4 x5:Value} (h:Own6 w b x0 x1 x2 x3 x4 x5) (hb:Below w.heap.size w w'):Own6 w' b x0 x1 x2 x3 x4 x5:=by
 have hl:b < w.heap.size:=zb4 h.c0
 have hc:∀ o,w'.cell? ⟨b,o,none⟩=w.cell? ⟨b,o,none⟩:=fun o=>hb.cell (p:=⟨b,o,none⟩) hl
 have hf:∀ o,w'.frozen? ⟨b,o,none⟩=w.frozen? ⟨b,o,none⟩:=fun o=>hb.frozen (p:=⟨b,o,none⟩) hl
 constructor <;> first | rw [hc] | rw [hf]
 · exact h.c0
 · exact h.c1
 · exact h.c2
 · exact h.c3
 · exact h.c4
 · exact h.c5
 · exact h.f0
 · exact h.f1
 · exact h.f2
 · exact h.f3
 · exact h.f4
 · exact h.f5
theorem Own6.new (w:World) (x0 x1 x2 x3 x4 x5:Value) (T:TypeId):Own6 (w.alloc (.cells #[x0,x1,x2,x3,x4,x5] T)) w.heap.size x0 x1 x2 x3 x4 x5:=by
 constructor <;> simp
theorem Own6.set {w:World} {b:Nat} {y0 y1 y2 y3 y4 y5:Value} (h:Own6 w b y0 y1 y2 y3 y4 y5) (x0 x1 x2 x3 x4 x5:Value) :
 Own6 ((((((w.setCell ⟨b,0,none⟩ x0).setCell ⟨b,1,none⟩ x1).setCell ⟨b,2,none⟩ x2).setCell ⟨b,3,none⟩ x3).setCell ⟨b,4,none⟩ x4).setCell ⟨b,5,none⟩ x5) b x0 x1 x2 x3 x4 x5:=by
 obtain ⟨c0,c1,c2,c3,c4,c5,f0,f1,f2,f3,f4,f5⟩:=h
 constructor <;> simp [go_sem,c0,c1,c2,c3,c4,c5,f0,f1,f2,f3,f4,f5]
theorem zd2 {B:Nat} {w w1:World} {b:Nat} {x0 x1 x2 x3 x4 x5:Value} (h:Below B w w1) (hb:B<=b):Below B w ((((((w1.setCell ⟨b,0,none⟩ x0).setCell ⟨b,1,none⟩ x1).setCell ⟨b,2,none⟩ x2).setCell ⟨b,3,none⟩ x3).setCell ⟨b,4,none⟩ x4).setCell ⟨b,5,none⟩ x5) :=
 (((((h.setCell hb x0).setCell hb x1).setCell hb x2).setCell hb x3).setCell hb x4).setCell hb x5
theorem run_words (n:Nat) (hn:n<=100000) (w:World):(Instr.makeSlice 24 (.int .i64 (n:Int)) (.int .i64 (n:Int))).run Tryz.prog w = .ok (.slice (some ⟨w.heap.size,0,none⟩) n n) (w.alloc (.cells (madeCells #[.int .u64 0] n) 48)):=by
 obtain ⟨i0,hi,hz0,hz1,hz2⟩:=info_parts zf2
 have:=run_make (P:=Tryz.prog) w 24 48 i0 (.int .u64 0) Tryz.underlying24 hi hz0 .i64 .i64 n n (by omega) (Int.le_refl _) (by rw [hz2];omega) (by omega)
 simpa [hz1,Value.cells] using this
theorem run_pages (n:Nat) (hn:n<=100000) (w:World):(Instr.makeSlice 25 (.int .i64 (n:Int)) (.int .i64 (n:Int))).run Tryz.prog w = .ok (.slice (some ⟨w.heap.size,0,none⟩) n n) (w.alloc (.cells (madeCells #[.int .i64 0,.int .i64 0,.int .i64 0,.int .i64 0] (n*4)) 77)):=by
 obtain ⟨i0,hi,hz0,hz1,hz2⟩:=info_parts zr6
 have:=run_make (P:=Tryz.prog) w 25 77 i0 _ Tryz.underlying25 hi hz0 .i64 .i64 n n (by omega) (Int.le_refl _) (by rw [hz2];omega) (by omega)
 simpa [hz1,Value.cells] using this
theorem refNew_ok (pw np:Int) (w:World) (hv:zb8 pw np=true) :
 Calls Tryz.prog 74 #[.agg #[.int .i64 pw,.int .i64 np]] w fun e w'=>RetH (zi1 pw np) (newHE pw np) e w'/\Below w.heap.size w w':=by
 obtain ⟨e1,e2⟩:=newH_ok hv
 have E1:=qq e1
 have E2:=qq e2
 have hc:=qq (fun w=>zg0 hv w)
 obtain ⟨g1,g2⟩:=zd6 hv
 obtain ⟨k1,k2,-,k4,k5⟩:=zb1 hv
 obtain ⟨A,hA⟩:=Int.eq_ofNat_of_zero_le (show 0<=np*pw by omega)
 obtain ⟨B,hB⟩:=Int.eq_ofNat_of_zero_le (show 0<=np by omega)
 have hm1:=fun w=>run_words A (by omega) w
 have hm2:=fun w=>run_pages B (by omega) w
 rw [<-hA] at hm1
 rw [<-hB] at hm2
 have HA:=qq hA
 have HB:=qq hB
 have hA5:A<=100000:=by omega
 have hB5:B<=100000:=by omega
 clear hv e1 e2 hA hB
 have Ho:=qq (Own6.new (w.alloc (.cells #[.int .i64 pw,.int .i64 np] 23)) (.int .i64 0) (.int .i64 0) (.slice none 0 0) (.slice none 0 0) (.int .i64 0) (.int .i64 0) 27)
 go_enter Tryz.func74,Tryz.ntmps74
 go_wp2_with fail
 refine (hc.out _).mono ?_
 rintro e w1 ⟨rfl,hb1⟩
 have hw1:=za4 hb1
 have c0:=za5 (w:=w) (cs:=#[.int .i64 pw,.int .i64 np]) (T:=23) hw1 0 (v:=.int .i64 pw) rfl
 have c1:=za5 (w:=w) (cs:=#[.int .i64 pw,.int .i64 np]) (T:=23) hw1 1 (v:=.int .i64 np) rfl
 have Ho1:=Ho.out.keep hb1
 simp only [World.size_alloc] at Ho1
 have HO:=qq Ho1
 obtain ⟨d0,d1,d2,d3,d4,d5,f0,f1,f2,f3,f4,f5⟩:=Ho1
 have lb:w.heap.size < w1.heap.size:=zb4 c0
 have lb1:=zb4 d0
 simp only [] at lb1
 have lne:w.heap.size≠w1.heap.size:=Nat.ne_of_lt lb
 have lne1:w.heap.size+1≠w1.heap.size:=Nat.ne_of_lt lb1
 have lne2:w.heap.size≠w1.heap.size+1:=by omega
 have lne3:w.heap.size+1≠w1.heap.size+1:=by omega
 have hwp:IntKind.i64.wrap (np*pw)=np*pw:=IntWalk.i64_in _ (by omega)
 have hwB:=za4 hw1
 clear hc Ho hb1 hw1
 have hmA:A<=maxLen:=by unfold maxLen;omega
 have hmB:B<=maxLen:=by unfold maxLen;omega
 go_wp2
 go_region
 · go_wp2
   generalize hW:(World.alloc (World.alloc _ _) _).drew=W
   obtain ⟨r0,r1,r2,r3,r4,r5,-,-,-,-,-,-⟩:=(HO.out.set (.int .i64 pw) (.int .i64 np) (.slice (some ⟨w1.heap.size,0,none⟩) A A) (.slice (some ⟨w1.heap.size+1,0,none⟩) B B) (.int .i64 0) (.int .i64 (-1))).keep (w':=W) (by rw [<-hW];exact ((za1.trans (za1.mono (by simp))).drew))
   refine bodyPost_ret (v:=.tuple #[.agg #[.int .i64 pw,.int .i64 np,.slice (some ⟨w1.heap.size,0,none⟩) A A,.slice (some ⟨w1.heap.size+1,0,none⟩) B B,.int .i64 0,.int .i64 (-1)],.int .i64 0]) (by simp [results,Tryz.results74,go_sem,r0,r1,r2,r3,r4,r5]) rfl ?_
   rw [<-hW]
   rw [E1.out,E2.out,HA.out,HB.out]
   refine ⟨⟨_,rfl,_,_,_,_,_,_,rfl,?_,?_,WB.zeros _⟩,?_⟩
   · exact SRow.keep (made_words' _ _ A _ (by simp) hmA) (((Below.refl _ _).alloc (Nat.le_refl _) _).drew)
   · exact PRow.keep (yd4 _ _ B _ (by simp) hmB) (Below.drew (Below.refl _ _))
   · exact (((zd2 hwB (Nat.le_succ _)).alloc (by simp;omega) _).alloc (by simp;omega) _).drew
 · go_wp2
   generalize hW:(World.alloc (World.alloc _ _) _).drew=W
   obtain ⟨r0,r1,r2,r3,r4,r5,-,-,-,-,-,-⟩:=(HO.out.set (.int .i64 pw) (.int .i64 np) (.slice (some ⟨w1.heap.size+1,0,none⟩) A A) (.slice (some ⟨w1.heap.size,0,none⟩) B B) (.int .i64 0) (.int .i64 (-1))).keep (w':=W) (by rw [<-hW];exact ((za1.trans (za1.mono (by simp))).drew))
   refine bodyPost_ret (v:=.tuple #[.agg #[.int .i64 pw,.int .i64 np,.slice (some ⟨w1.heap.size+1,0,none⟩) A A,.slice (some ⟨w1.heap.size,0,none⟩) B B,.int .i64 0,.int .i64 (-1)],.int .i64 0]) (by simp [results,Tryz.results74,go_sem,r0,r1,r2,r3,r4,r5]) rfl ?_
   rw [<-hW]
   rw [E1.out,E2.out,HA.out,HB.out]
   refine ⟨⟨_,rfl,_,_,_,_,_,_,rfl,?_,?_,WB.zeros _⟩,?_⟩
   · exact SRow.keep (made_words' _ _ A _ (by simp) hmA) (Below.drew (Below.refl _ _))
   · exact PRow.keep (yd4 _ _ B _ (by simp) hmB) (((Below.refl _ _).alloc (Nat.le_refl _) _).drew)
   · exact (((zd2 hwB (Nat.le_succ _)).alloc (by simp;omega) _).alloc (by simp;omega) _).drew
theorem refNew_no (pw np:Int) (w:World) (hv:zb8 pw np=false) :
 Calls Tryz.prog 74 #[.agg #[.int .i64 pw,.int .i64 np]] w fun e w'=>RetH (zi1 pw np) (newHE pw np) e w'/\Below w.heap.size w w':=by
 obtain ⟨e1,e2⟩:=newH_no hv
 have E1:=qq e1
 have E2:=qq e2
 have hc:=qq (fun w=>zg0 hv w)
 clear hv e1 e2
 have Ho:=qq (Own6.new (w.alloc (.cells #[.int .i64 pw,.int .i64 np] 23)) (.int .i64 0) (.int .i64 0) (.slice none 0 0) (.slice none 0 0) (.int .i64 0) (.int .i64 0) 27)
 go_enter Tryz.func74,Tryz.ntmps74
 go_wp2_with fail
 refine (hc.out _).mono ?_
 rintro e w1 ⟨rfl,hb1⟩
 have hw1:=za4 hb1
 obtain ⟨d0,d1,d2,d3,d4,d5,f0,f1,f2,f3,f4,f5⟩:=Ho.out.keep hb1
 simp only [World.size_alloc] at d0 d1 d2 d3 d4 d5 f0 f1 f2 f3 f4 f5
 have hwB:=za4 hw1
 clear hc Ho hb1 hw1
 go_wp2
 refine bodyPost_ret (v:=.tuple #[.agg #[.int .i64 0,.int .i64 0,.slice none 0 0,.slice none 0 0,.int .i64 0,.int .i64 0],.int .i64 1]) (by simp [results,Tryz.results74,go_sem,d0,d1,d2,d3,d4,d5]) rfl ?_
 rw [E1.out,E2.out]
 exact ⟨⟨_,rfl,HV.zero _⟩,zd2 hwB (Nat.le_succ _)⟩
theorem refNew_any (pw np:Int) (w:World) :
 Calls Tryz.prog 74 #[.agg #[.int .i64 pw,.int .i64 np]] w fun e w'=>RetH (zi1 pw np) (newHE pw np) e w'/\Below w.heap.size w w':=by
 cases hv:zb8 pw np
 · exact refNew_no pw np w hv
 · exact refNew_ok pw np w hv
theorem size_any (pw np:Int) (w:World) (h0:0<=np*pw) (h1:np*pw<=4096) :
 Calls Tryz.prog 51 #[.agg #[.int .i64 pw,.int .i64 np]] w fun e w'=>e = .returned (.int .i64 (np*pw))/\Below w.heap.size w w':=by
 obtain ⟨X,hX⟩:∃ X,np*pw=X:=⟨_,rfl⟩
 have hX2:pw*np=X:=by rw [Int.mul_comm];exact hX
 rw [hX] at h0 h1
 have HX:=qq hX
 clear hX
 rw [HX.out]
 go_enter Tryz.func51,Tryz.ntmps51
 go_wp2
 go_ret
 exact ⟨zj1 (by first | rfl | exact hX2 | (rw [hX2])),za1⟩
theorem of_any (pw np a:Int) (w:World) (ha:0<=a) (ha2:a < 18446744073709551616) :
 Calls Tryz.prog 65 #[.agg #[.int .i64 pw,.int .i64 np],.int .u64 a] w fun e w'=>e = .returned (.tuple #[.int .i64 (ofI pw np a),.int .i64 (ofK pw np a),.int .i64 (ofE pw np a)])/\Below w.heap.size w w':=by
 by_cases hv:zb8 pw np=true
 · have hc:=qq (fun w=>zk4 hv w)
   obtain ⟨g3,g4⟩:=zd6 hv
   have hs:=qq (fun w=>size_any pw np w (by omega) g4)
   by_cases h:4096<=a/\a < 4096+np*pw
   · obtain ⟨e1,e2,e3⟩:=of_ok hv (decide_eq_true h)
     rw [e1,e2,e3]
     obtain ⟨k1,k2,-,-,-⟩:=zb1 hv
     obtain ⟨h1,h2⟩:=h
     obtain ⟨X,hX⟩:∃ X,np*pw=X:=⟨_,rfl⟩
     rw [hX] at hs h2 g3 g4
     clear hv e1 e2 e3 hX
     go_enter Tryz.func65,Tryz.ntmps65
     go_wp2_with fail
     refine (hc.out _).mono ?_
     rintro e w1 ⟨rfl,hb1⟩
     have c0:=za5 hb1 0 (v:=.int .i64 pw) rfl
     have c1:=za5 hb1 1 (v:=.int .i64 np) rfl
     go_wp2_with fail
     refine (hs.out _).mono ?_
     rintro e w2 ⟨rfl,hb2⟩
     have d0:=za0 hb2 c0
     have hw:=za3 (za4 hb1) hb2
     clear hb1 hb2 hc hs c0 c1
     go_wp2
     go_quiet (fail)
     go_wp2
     go_ret3
     exact ⟨rfl,below_drewN hw _⟩
   · have hn:inAr pw np a=false:=decide_eq_false h
     obtain ⟨e1,e2,e3⟩:=of_out hv hn
     rw [e1,e2,e3]
     clear e1 e2 e3 hn
     by_cases h1:a < 4096
     · clear h hv g3 g4
       go_enter Tryz.func65,Tryz.ntmps65
       go_wp2_with fail
       refine (hc.out _).mono ?_
       rintro e w1 ⟨rfl,hb1⟩
       go_wp2
       go_ret3
       exact ⟨rfl,za4 hb1⟩
     · have h2:4096+np*pw<=a:=by omega
       obtain ⟨X,hX⟩:∃ X,np*pw=X:=⟨_,rfl⟩
       rw [hX] at hs h2 g3 g4
       clear h hv hX
       go_enter Tryz.func65,Tryz.ntmps65
       go_wp2_with fail
       refine (hc.out _).mono ?_
       rintro e w1 ⟨rfl,hb1⟩
       have c0:=za5 hb1 0 (v:=.int .i64 pw) rfl
       have c1:=za5 hb1 1 (v:=.int .i64 np) rfl
       go_wp2_with fail
       refine (hs.out _).mono ?_
       rintro e w2 ⟨rfl,hb2⟩
       have hw:=za3 (za4 hb1) hb2
       clear hb1 hb2 hc hs
       go_wp2
       go_ret3
       exact ⟨rfl,hw⟩
 · have hv:zb8 pw np=false:=by simpa using hv
   obtain ⟨e1,e2,e3⟩:=of_no (a:=a) hv
   rw [e1,e2,e3]
   have hc:=qq (fun w=>zk4 hv w)
   clear hv e1 e2 e3
   go_enter Tryz.func65,Tryz.ntmps65
   go_wp2_with fail
   refine (hc.out _).mono ?_
   rintro e w1 ⟨rfl,hb1⟩
   go_wp2
   go_ret3
   exact ⟨rfl,za4 hb1⟩
theorem SRow.set6o {w:World} {q:Option Addr} {m c b:Nat} {xs:List Int} {y0 y1 y2 y3 y4 y5:Value} (h:SRow w .u64 q m c xs) (ho:Own6 w b y0 y1 y2 y3 y4 y5)
 (h0:∀ x,y0≠.int .u64 x) (h1:∀ x,y1≠.int .u64 x) (h2:∀ x,y2≠.int .u64 x) (h3:∀ x,y3≠.int .u64 x) (h4:∀ x,y4≠.int .u64 x) (h5:∀ x,y5≠.int .u64 x) (x0 x1 x2 x3 x4 x5:Value) :
 SRow ((((((w.setCell ⟨b,0,none⟩ x0).setCell ⟨b,1,none⟩ x1).setCell ⟨b,2,none⟩ x2).setCell ⟨b,3,none⟩ x3).setCell ⟨b,4,none⟩ x4).setCell ⟨b,5,none⟩ x5) .u64 q m c xs:=by
 refine ⟨h.len,h.le,h.max,fun i x hx=>?_⟩
 obtain ⟨g,off,hp,hcell⟩:=h.row i x hx
 refine ⟨g,off,hp,?_⟩
 have hne:∀ (j:Nat) (y:Value),w.cell? ⟨b,j,none⟩=some y->(∀ x,y≠.int .u64 x)->(⟨b,j,none⟩:Addr)≠⟨g,off+i,none⟩:=fun j y hc hy e=>by rw [<-e,hc] at hcell;exact hy x (Option.some.inj hcell)
 rw [World.cell?_setCell_other _ _ _ _ (hne 5 _ ho.c5 h5),World.cell?_setCell_other _ _ _ _ (hne 4 _ ho.c4 h4),World.cell?_setCell_other _ _ _ _ (hne 3 _ ho.c3 h3),World.cell?_setCell_other _ _ _ _ (hne 2 _ ho.c2 h2),World.cell?_setCell_other _ _ _ _ (hne 1 _ ho.c1 h1),World.cell?_setCell_other _ _ _ _ (hne 0 _ ho.c0 h0)]
 exact hcell
section
variable {P:Program} {md:Region.Mode} {ops:Array Oper} {Q:Exit->Act->World->Prop} {S:World->Prop}
theorem zb0 {fuel:Nat} {listed:Array Bool} {a:Act} {w:World} (i d:Nat) {oi:Oper} (hi:ops[i]?=some oi) (hd:oi.dst=some d)
 (hs:Region.noSelect ops=true) (hf:Region.free md ops listed i=true) (hr:(Region.ready md ops listed).contains i=true)
 (hQ:∀ c a w,Q (.panic c) (a.put (some d) undef) w->Q (.panic c) a w) (hw:Region.wanted oi (yielded ops a.tmps)=false) (hS:S w)
 (h:wpAnyH P md ops Q S fuel (listed.setIfInBounds i true) (a.put (some d) undef) w):wpAnyH P md ops Q S (fuel+1) listed a w:=by
 rw [<-hd] at h hQ
 exact wpAnyH_take (v:=undef) hi hs hf hr hQ (Or.inr ⟨hw,rfl⟩) hS h
theorem za2 {fuel:Nat} {listed:Array Bool} {a:Act} {w:World} (i d:Nat) {oi:Oper} {v:Value} (hi:ops[i]?=some oi) (hd:oi.dst=some d)
 (hs:Region.noSelect ops=true) (hf:Region.free md ops listed i=true) (hr:(Region.ready md ops listed).contains i=true)
 (hQ:∀ c a w,Q (.panic c) (a.put (some d) v) w->Q (.panic c) a w) (hw:Region.wanted oi (yielded ops a.tmps)=true) (hy:∀ w,S w->(execOp a.eval oi).run P w = .ok (.value v) w) (hS:S w)
 (h:wpAnyH P md ops Q S fuel (listed.setIfInBounds i true) (a.put (some d) v) w):wpAnyH P md ops Q S (fuel+1) listed a w:=by
 rw [<-hd] at h hQ
 exact wpAnyH_take (v:=v) hi hs hf hr hQ (Or.inl ⟨hw,hy⟩) hS h
end
section
variable {P:Program} {md:Region.Mode} {ops:Array Oper} {Q:Exit->Act->World->Prop} {S:World->Prop} {fuel:Nat} {listed:Array Bool} {a:Act} {w:World}
theorem draw_t {a':Act} (i d:Nat) {oi:Oper} {v:Value} (hS:S w) (h:wpAnyH P md ops Q S fuel (listed.setIfInBounds i true) a' w) (hi:ops[i]?=some oi:=by rfl) (hd:oi.dst=some d:=by rfl)
 (hs:Region.noSelect ops=true:=by kernel_rfl) (hf:Region.free md ops listed i=true:=by kernel_rfl) (hr:(Region.ready md ops listed).contains i=true:=by kernel_rfl)
 (hQ:∀ c a w,Q (.panic c) (a.put (some d) v) w->Q (.panic c) a w:=by exact fun _ _ _ h=>h) (hw:Region.wanted oi (yielded ops a.tmps)=true:=by kernel_rfl) (hy:∀ w,S w->(execOp a.eval oi).run P w=.ok (.value v) w:=by (intro w hSw;(try dsimp only at hSw);go_simp;(try with_reducible rfl))) (ha:a.put (some d) v=a':=by (go_frame;rfl))
 :wpAnyH P md ops Q S (fuel+1) listed a w:=by
 subst ha
 exact za2 i d hi hd hs hf hr hQ hw hy hS h
theorem draw_s {a':Act} (i d:Nat) {oi:Oper} (hS:S w) (h:wpAnyH P md ops Q S fuel (listed.setIfInBounds i true) a' w) (hi:ops[i]?=some oi:=by rfl) (hd:oi.dst=some d:=by rfl)
 (hs:Region.noSelect ops=true:=by kernel_rfl) (hf:Region.free md ops listed i=true:=by kernel_rfl) (hr:(Region.ready md ops listed).contains i=true:=by kernel_rfl)
 (hQ:∀ c a w,Q (.panic c) (a.put (some d) undef) w->Q (.panic c) a w:=by exact fun _ _ _ h=>h) (hw:Region.wanted oi (yielded ops a.tmps)=false:=by kernel_rfl) (ha:a.put (some d) undef=a':=by (go_frame;rfl))
 :wpAnyH P md ops Q S (fuel+1) listed a w:=by
 subst ha
 exact zb0 i d hi hd hs hf hr hQ hw hS h
theorem rdy1 {o:Oper} (i:Nat) (h:∀ K':Act->World->Prop,Shut (∀ a w,S w->(S w->wpAnyH P md ops Q S fuel (listed.setIfInBounds i true) a w)->K' a w)->if Region.wanted o (yielded ops a.tmps)=true then Oper.wp P o a w K' Q else K' (a.put o.dst undef) w) (ho:ops[i]?=some o:=by rfl) (hr:Region.ready md ops listed=[i]:=by kernel_rfl)
 :wpAnyH P md ops Q S (fuel+1) listed a w:=wpAnyH_ready hr (by simp) (AllReadyH.cons ho h AllReadyH.nil)
theorem rdy2 {o p:Oper} (i j:Nat) (h:∀ K':Act->World->Prop,Shut (∀ a w,S w->(S w->wpAnyH P md ops Q S fuel (listed.setIfInBounds i true) a w)->K' a w)->if Region.wanted o (yielded ops a.tmps)=true then Oper.wp P o a w K' Q else K' (a.put o.dst undef) w) (h2:∀ K':Act->World->Prop,Shut (∀ a w,S w->(S w->wpAnyH P md ops Q S fuel (listed.setIfInBounds j true) a w)->K' a w)->if Region.wanted p (yielded ops a.tmps)=true then Oper.wp P p a w K' Q else K' (a.put p.dst undef) w) (ho:ops[i]?=some o:=by rfl) (hp:ops[j]?=some p:=by rfl) (hr:Region.ready md ops listed=[i,j]:=by kernel_rfl)
 :wpAnyH P md ops Q S (fuel+1) listed a w:=wpAnyH_ready hr (by simp) (AllReadyH.cons ho h (AllReadyH.cons hp h2 AllReadyH.nil))
theorem rdy3 {o p q:Oper} (i j k:Nat) (h:∀ K':Act->World->Prop,Shut (∀ a w,S w->(S w->wpAnyH P md ops Q S fuel (listed.setIfInBounds i true) a w)->K' a w)->if Region.wanted o (yielded ops a.tmps)=true then Oper.wp P o a w K' Q else K' (a.put o.dst undef) w) (h2:∀ K':Act->World->Prop,Shut (∀ a w,S w->(S w->wpAnyH P md ops Q S fuel (listed.setIfInBounds j true) a w)->K' a w)->if Region.wanted p (yielded ops a.tmps)=true then Oper.wp P p a w K' Q else K' (a.put p.dst undef) w) (h3:∀ K':Act->World->Prop,Shut (∀ a w,S w->(S w->wpAnyH P md ops Q S fuel (listed.setIfInBounds k true) a w)->K' a w)->if Region.wanted q (yielded ops a.tmps)=true then Oper.wp P q a w K' Q else K' (a.put q.dst undef) w) (ho:ops[i]?=some o:=by rfl) (hp:ops[j]?=some p:=by rfl) (hq:ops[k]?=some q:=by rfl) (hr:Region.ready md ops listed=[i,j,k]:=by kernel_rfl)
 :wpAnyH P md ops Q S (fuel+1) listed a w:=wpAnyH_ready hr (by simp) (AllReadyH.cons ho h (AllReadyH.cons hp h2 (AllReadyH.cons hq h3 AllReadyH.nil)))
end
def RetC (B n:Nat) (ps:List Pg) (e:Ending) (w':World):Prop:=∃ g c,e = .returned (.slice (some ⟨g,0,none⟩) n c)/\B<=g/\w'.ownsRow B 77 4 (.slice (some ⟨g,0,none⟩) n c) n (zc4 ps)
theorem clone_any (b off n cap:Nat) (ps:List Pg) (w:World) (hr:PRow w (some ⟨b,off,none⟩) n cap ps) (hn:n<=100000) (h1:1<=n) :
 Calls Tryz.prog 63 #[.slice (some ⟨b,off,none⟩) n cap] w fun e w'=>RetC w.heap.size n ps e w'/\Below w.heap.size w w':=by
 obtain ⟨i0,hin,hz0,hz1,hz2⟩:=info_parts zr6
 have Hr:=qq hr
 have hown0:(w.alloc (.cells #[] 77)).ownsRow w.heap.size 77 4 (.slice (some ⟨w.heap.size,0,none⟩) 0 0) 0 []:=zf9 w 77 4
 have qT:∀ (w:World) (a:Option Addr) (n c n' c':Nat),(binOp .eql 25 (.slice a n c) (.slice none n' c')).run Tryz.prog w = .ok (.bool a.isNone) w:=fun w a n c n' c'=>Lib.run_eql_slice_nil w _ _ a n c n' c' Tryz.underlying25
 clear hr
 go_enter Tryz.func63,Tryz.ntmps63
 go_wp2_with (at_builtin;refine zg3 rfl _ _ 25 rfl w.heap.size 77 i0 _ 4 32 Tryz.underlying25 hin hz0 hz1 hz2 rfl (by decide) (.slice (some ⟨w.heap.size,0,none⟩) 0 0) 0 [] rfl hown0 (some ⟨b,off,none⟩) n cap (zc4 ps) rfl ?src (zr1 ps) ?c3 ?c4 ?c5 ?_)
 case src=>exact Hr.out.keep za1
 case c3=>unfold maxLen;omega
 case c4=>omega
 case c5=>simp
 intro v' w2 hown hgrow
 have hb0:Below w.heap.size w w2:=(za1).grown hgrow (by simp) (fun k h=>by simp [Value.ownBlock] at h;omega)
 try simp only [Nat.zero_add,List.nil_append] at hown
 obtain ⟨g,c,rfl,hg,hgl⟩:=World.ownsRow.form hown (by omega)
 have Hown0:=qq hown
 clear hgrow hown
 go_wp2
 go_ret
 exact ⟨⟨g,c,rfl,hg,Hown0.out⟩,hb0⟩
theorem put_head {ps:List Pg} {i k:Nat} {x y:Pg} (h:i+k<=ps.length) (h1:1<=k):(put ps i k y).set i x=put (ps.set i x) (i+1) (k - 1) y:=by
 have hl:(ps.set i x).length=ps.length:=List.length_set
 apply List.ext_getElem?
 intro j
 rw [List.getElem?_set]
 have hp:(put ps i k y).length=ps.length:=zw1 h
 by_cases hj:i=j
 · rw [if_pos hj,if_pos (by omega),zq4 (by omega) (Or.inr (by omega)),List.getElem?_set,if_pos hj,if_pos (by omega)]
 · rw [if_neg hj]
   by_cases h2:i+1<=j/\j < i+k
   · rw [put_in h (by omega) (by omega),put_in (by omega) h2.1 (by omega)]
   · rw [zq4 h (by omega),zq4 (by omega) (by omega),List.getElem?_set,if_neg hj]
theorem zv8 {sp:Int}:zk2 sp=true↔0<=sp/\sp<=1:=by
 unfold zk2;rw [decide_eq_true_eq];omega
theorem hsize_any (k n m:Int) (w:World) (hm0:0<=m) (hm:m < 4294967296) :
 Calls Tryz.prog 69 #[.agg #[.int .i64 k,.int .i64 n,.int .u32 m]] w fun e w'=>e = .returned (.int .i64 (zd8 k n m))/\Below w.heap.size w w':=by
 have hc:=qq (zx0 k n m (w.alloc (.cells #[.int .i64 k,.int .i64 n,.int .u32 m] 54)) hm0 hm)
 by_cases hv:zb3 k n m=true
 · rw [zu2 hv]
   obtain ⟨-,-,h3,h4,-,-⟩:=ze3 hv
   rw [hv] at hc
   clear hv
   go_enter Tryz.func69,Tryz.ntmps69
   go_wp2_with fail
   refine hc.out.mono ?_
   rintro e w1 ⟨rfl,hb1⟩
   obtain ⟨c0,c1,c2⟩:=box3 (by simpa using hb1)
   clear hc
   go_wp2
   go_ret
   exact ⟨rfl,za4 hb1⟩
 · have hv:zb3 k n m=false:=by simpa using hv
   rw [size_no hv]
   rw [hv] at hc
   clear hv
   go_enter Tryz.func69,Tryz.ntmps69
   go_wp2_with fail
   refine hc.out.mono ?_
   rintro e w1 ⟨rfl,hb1⟩
   clear hc
   go_wp2
   go_ret
   exact ⟨rfl,za4 hb1⟩
structure Hd where
 k:Int
 n:Int
 m:Int
deriving DecidableEq
def Hd.zero:Hd:=⟨0,0,0⟩
def okH (h:Hp):Bool:=ze8 h.pw h.np h.words.length h.pages h.space h.bump
def zv0 (h:Hp) (a:Int):Pg:=h.pages.getD (ofI h.pw h.np a).toNat Pg.zero
def zg4 (h:Hp) (a:Int):Nat:=(h.words.getD (a - 4096).toNat 0).toNat
def hdOf (x:Nat):Hd:=⟨dK x,dN x,dM x⟩
def atB (h:Hp) (a:Int):Bool :=
 decide ((zv0 h a).kind=1\/(zv0 h a).kind=2) && decide (ofK h.pw h.np a < (zv0 h a).used) && okD (zg4 h a) &&
 (if (zv0 h a).kind=1 then decide (ofK h.pw h.np a+(dN (zg4 h a)+1)<=(zv0 h a).used) else decide (ofK h.pw h.np a=0/\(dN (zg4 h a):Int)+1=(zv0 h a).used))
def atE (h:Hp) (a:Int):Int:=if okH h then (if ofE h.pw h.np a=0 then (if atB h a then 0 else 19) else 2) else 1
def atH (h:Hp) (a:Int):Hd:=if atE h a=0 then hdOf (zg4 h a) else Hd.zero
def getE (h:Hp) (a:Int):Int:=if okH h then (if a=0 then 5 else if atE h a=0/\(atH h a).k=0 then 4 else atE h a) else 1
def getH (h:Hp) (a:Int):Hd:=if getE h a=0 then atH h a else Hd.zero
def zo8 (h:Hp) (a i:Int):Int:=if getE h a=0 then (if i < 0\/(getH h a).n<=i then 2 else loadE h.words (a+1+i)) else getE h a
def fieldV (h:Hp) (a i:Int):Int:=if getE h a=0 then (if i < 0\/(getH h a).n<=i then 0 else ze1 h.words (a+1+i)) else 0
def setV (h:Hp) (a i v:Int):Hp:=if zo8 h a i=0 then { h with words:=zc8 h.words (a+1+i) [v] } else Hp.zero
theorem zc2 {h:Hp} (hp:okH h=true):zb8 h.pw h.np=true/\(h.words.length:Int)=h.np*h.pw/\(h.pages.length:Int)=h.np/\0<=h.space/\h.space<=1/\zm7 h.pages h.bump=true/\zf0 h.pw h.np h.pages 0=true:=by
 unfold okH ze8 at hp
 simp only [Bool.and_eq_true,decide_eq_true_eq] at hp
 obtain ⟨⟨⟨⟨⟨h1,h2⟩,h3⟩,h4⟩,h5⟩,h6⟩:=hp
 exact ⟨h1,h2,h3,h4.1,h4.2,h5,h6⟩
theorem zn2 (pw np:Int):∀ (ps:List Pg) (due:Int),zf0 pw np ps due=true->∀ x∈ps,0<=x.space/\x.space<=1/\0<=x.pins/\x.pins<=2147483647/\(x.kind=0->x=Pg.zero)/\(x.kind=1->0<=x.used/\x.used<=pw)/\(x.kind=2->1<=zb6 pw np x.used)/\(x.kind=3->x.used=0/\x.pins=0)/\(x.kind=0\/x.kind=1\/x.kind=2\/x.kind=3)
 | [],_,_,x,hx=>by cases hx
 | y :: r,due,h,x,hx=>by
  rw [zf0] at h
  cases hs:zg8 pw np y r due with
  | none=>rw [hs] at h;cases h
  | some d =>
   rw [hs] at h
   rcases List.mem_cons.1 hx with rfl | hx
   · unfold zg8 at hs
     split at hs
     · cases hs
     · rename_i hA
       have h1:0<=x.space:=by omega
       have h2:x.space<=1:=by omega
       have h3:zh3 x.pins=true:=by
        cases hp:zh3 x.pins
        · exact absurd (Or.inr (Or.inr (Or.inr hp))) hA
        · rfl
       have h4:=of_decide_eq_true h3
       refine ⟨h1,h2,h4.1,h4.2,?_⟩
       split at hs
       · rename_i k
         refine ⟨fun _=>?_,fun c=>by omega,fun c=>by omega,fun c=>by omega,Or.inl k⟩
         split at hs
         · assumption
         · cases hs
       · split at hs
         · rename_i k
           refine ⟨fun c=>by omega,fun _=>?_,fun c=>by omega,fun c=>by omega,Or.inr (Or.inl k)⟩
           split at hs
           · cases hs
           · omega
         · split at hs
           · rename_i k
             refine ⟨fun c=>by omega,fun c=>by omega,fun _=>?_,fun c=>by omega,Or.inr (Or.inr (Or.inl k))⟩
             split at hs
             · cases hs
             · omega
           · split at hs
             · rename_i k
               refine ⟨fun c=>by omega,fun c=>by omega,fun c=>by omega,fun _=>?_,Or.inr (Or.inr (Or.inr k))⟩
               split at hs
               · assumption
               · cases hs
             · cases hs
   · exact zn2 pw np r d h x hx
theorem of_in {h:Hp} {a:Int} (hp:okH h=true) (he:ofE h.pw h.np a=0):inAr h.pw h.np a=true/\(∃ i j:Nat,ofI h.pw h.np a=i/\ofK h.pw h.np a=j/\i < h.pages.length/\(j:Int) < h.pw/\a=4096+i*h.pw+j)/\(∃ t:Nat,a=4096+t/\t < h.words.length):=by
 obtain ⟨h1,h2,h3,_⟩:=zc2 hp
 have hc:=zb1 h1
 have hin:inAr h.pw h.np a=true:=by
  cases hi:inAr h.pw h.np a
  · rw [(of_out h1 hi).2.2] at he;cases he
  · rfl
 obtain ⟨e1,e2,_⟩:=of_ok h1 hin
 obtain ⟨b1,b2⟩:=of_decide_eq_true hin
 have m1:=Int.emod_nonneg (a - 4096) (show h.pw≠0 by omega)
 have m2:=Int.emod_lt_of_pos (a - 4096) (show 0 < h.pw by omega)
 have d1:0<=(a - 4096) / h.pw:=Int.ediv_nonneg (by omega) (by omega)
 have d2:(a - 4096) / h.pw < h.np:=Int.ediv_lt_of_lt_mul (by omega) (by omega)
 have de:=Int.mul_ediv_add_emod (a - 4096) h.pw
 refine ⟨hin,⟨((a - 4096) / h.pw).toNat,((a - 4096) % h.pw).toNat,by rw [e1];omega,by rw [e2];omega,by omega,by omega,?_⟩,⟨(a - 4096).toNat,by omega,by omega⟩⟩
 rw [Int.toNat_of_nonneg d1,Int.toNat_of_nonneg m1,Int.mul_comm]
 omega
def asksB (pw np k n m:Int):Bool:=zb3 k n m && decide (¬k=0) && decide (¬zb6 pw np (zd8 k n m) = -1)
theorem runs_free (ps:List Pg):∀ (k:Nat) (r:Int × Int),r∈zi3 ps k->∀ t:Nat,r.1<=t->(t:Int) < r.1+r.2->∃ x,ps[t]?=some x/\x.kind=0
 | 0,r,h=>by simp [zi3] at h
 | k+1,r,h=>by
  have ih:=runs_free ps k
  cases hx:ps[k]? with
  | none=>rw [zi3,hx] at h;exact ih r h
  | some x =>
   rw [zy4 hx] at h
   by_cases h0:x.kind=0
   · rcases zz9 (zi3 ps k) with e | ⟨pre,q,e⟩
     · rw [e,zy2 h0] at h
       simp at h;subst h
       intro t h1 h2
       obtain rfl:t=k:=by simp only at h1 h2;omega
       exact ⟨x,hx,h0⟩
     · by_cases he:q.1+q.2=k
       · rw [e,zw5 h0 he] at h
         rcases List.mem_append.1 h with h | h
         · exact ih r (by rw [e];exact List.mem_append_left _ h)
         · simp at h;subst h
           intro t h1 h2
           by_cases ht:t=k
           · subst ht;exact ⟨x,hx,h0⟩
           · exact ih q (by rw [e];simp) t h1 (by simp only at h2;omega)
       · rw [e,zy3 h0 he] at h
         rcases List.mem_append.1 h with h | h
         · exact ih r (by rw [e];exact h)
         · simp at h;subst h
           intro t h1 h2
           obtain rfl:t=k:=by simp only at h1 h2;omega
           exact ⟨x,hx,h0⟩
   · rw [zz8 h0] at h;exact ih r h
theorem zz4 {k:Int}:∀ l:List (Int × Int),zk7 k l = -1\/∃ r∈l,zk7 k l=r.1/\1<=k/\k<=r.2
 | []=>Or.inl rfl
 | r :: t=>by
  unfold zk7
  split
  · rename_i h;exact Or.inr ⟨r,by simp,rfl,h⟩
  · rcases zz4 t with h | ⟨q,hq,h⟩
    · exact Or.inl h
    · exact Or.inr ⟨q,by simp [hq],h⟩
theorem zu3 {ps:List Pg} {k:Int} (h:0<=zc7 ps k):1<=k/\zc7 ps k+k<=ps.length/\∀ t:Nat,zc7 ps k<=t->(t:Int) < zc7 ps k+k->∃ x,ps[t]?=some x/\x.kind=0:=by
 rw [yd3] at h ⊢
 rcases zz4 (k:=k) (runsV ps) with e | ⟨r,hr,e,h1,h2⟩
 · omega
 · rw [e]
   have hb:=runs_bd ps ps.length r hr
   exact ⟨h1,by omega,fun t a b=>runs_free ps ps.length r hr t a (by omega)⟩
def zs1 (h:Hp):Pg:=h.pages.getD h.bump.toNat Pg.zero
def newB (h:Hp) (n:Int):Bool:=decide (h.bump < 0\/¬(zs1 h).space=h.space\/h.pw < (zs1 h).used+n\/zq3 h.pw h.np < ze6 h.pages)
def zt3 (h:Hp):Bool:=decide (zc7 h.pages 1 < 0\/zq3 h.pw h.np<=ze6 h.pages)
def zf5 (h:Hp) (n:Int):Bool:=!(newB h n && zt3 h)
def zl3 (h:Hp) (n:Int):Int:=if newB h n then zc7 h.pages 1 else h.bump
def zf8 (h:Hp) (n:Int):List Pg:=if newB h n then zj3 h.pages (zc7 h.pages 1) h.space else h.pages
def useAt (ps:List Pg) (j:Nat) (n:Int):List Pg:=ps.set j ⟨(ps.getD j Pg.zero).kind,(ps.getD j Pg.zero).space,(ps.getD j Pg.zero).used+n,(ps.getD j Pg.zero).pins⟩
def zq5 (h:Hp) (n:Int):Hp:={ h with pages:=useAt (zf8 h n) (zl3 h n).toNat n,bump:=zl3 h n }
def zq6 (h:Hp) (n:Int):Int:=4096+zl3 h n*h.pw+((zf8 h n).getD (zl3 h n).toNat Pg.zero).used
def zn9 (h:Hp) (k:Int):Bool:=decide (¬(zc7 h.pages k < 0\/zq3 h.pw h.np < ze6 h.pages+k))
def largeH (h:Hp) (n k:Int):Hp:={ h with pages:=zl0 h.pw h.np h.pages (zc7 h.pages k) h.space n }
def zt4 (h:Hp) (k:Int):Int:=4096+zc7 h.pages k*h.pw
section
variable {P:Program} {md:Region.Mode} {ops:Array Oper} {Q:Exit->Act->World->Prop} {k:Nat} {S:World->Prop}
def AnyB (P:Program) (md:Region.Mode) (ops:Array Oper) (Q:Exit->Act->World->Prop) (k:Nat) (S:World->Prop):Nat->Array Bool->Act->World->Prop
 | 0,ls,a,w=>Region.ready md ops ls=[]/\Q .normal a w
 | f+1,ls,a,w=>(Region.ready md ops ls=[]->Q .normal a w)/\∀ i∈Region.ready md ops ls,
  wpOp P ops Q i (fun a' w'=>((ls.setIfInBounds i true).getD k true=false->S w')/\AnyB P md ops Q k S f (ls.setIfInBounds i true) a' w') a w
theorem AnyB.any:∀ (f:Nat) (ls:Array Bool) (a:Act) (w:World),AnyB P md ops Q k S f ls a w->wpAny P md ops Q f ls a w
 | 0,_,_,_,h=>h
 | f+1,_,_,_,h=>⟨h.1,fun i hi=>wpOp_mono (fun a' w' h'=>AnyB.any f _ a' w' h'.2) (h.2 i hi)⟩
theorem AnyB.first {i:Nat} {oi:Oper} {v:Value} {ok:Oper} (hi:ops[i]?=some oi) (hk:ops[k]?=some ok) (hw:∃ e∈ok.after,Region.binds md e=true/\e.on=i) (hki:k≠i)
 (hsel:∀ (j:Nat) (o:Oper) cs b,ops[j]?=some o->o.op≠.select cs b) (hQ:∀ c a w,Q (.panic c) (a.put oi.dst v) w->Q (.panic c) a w) :
 ∀ (f:Nat) (ls:Array Bool) (a:Act) (w:World),
  (∀ j oj,ops[j]?=some oj->j≠i->ls.getD j true=false->(∀ e∈oj.after,Region.binds md e=true->e.on≠i)->oi.apart ops oj=true) ->
  i∈Region.ready md ops ls->YieldsIf P ops S oi v a->S w->ls.getD k true=false ->
  AnyB P md ops Q k S f (ls.setIfInBounds i true) (a.put oi.dst v) w->AnyB P md ops Q k S (f+1) ls a w:=by
 intro f
 induction f with
 | zero =>
  intro ls a w _ hr hy hS _ H
  refine ⟨fun h=>(by rw [h] at hr;cases hr),fun j hj=>?_⟩
  by_cases e:j=i
  · subst e;exact hy.wpOp hi hS ⟨fun _=>hS,H⟩
  · exact absurd (H.1 ▸ ready_mono hj e) (by simp)
 | succ f ih =>
  intro ls a w hfree hr hy hS hlk H
  refine ⟨fun h=>(by rw [h] at hr;cases hr),fun j hj=>?_⟩
  by_cases e:j=i
  · subst e;exact hy.wpOp hi hS ⟨fun _=>hS,H⟩
  · obtain ⟨hju,oj,hoj,hall⟩:=mem_ready.1 hj
    have hno:∀ e∈oj.after,Region.binds md e=true->e.on≠i:=fun e he hb heq=>by
     have h1:=hall e he hb
     have h0:=(mem_ready.1 hr).1
     rw [heq] at h1
     rcases Nat.lt_or_ge i ls.size with hs | hs
     · simp [hs] at h0 h1;rw [h0] at h1;cases h1
     · simp [Array.getElem?_eq_none hs] at h1
    have hjk:j≠k:=fun e2=>by
     subst e2
     rw [hk] at hoj
     injection hoj with hoj
     subst hoj
     obtain ⟨e3,h1,h2,h3⟩:=hw
     exact hno e3 h1 h2 h3
    have hstep:=wpOp_putIf hoj (hfree j oj hoj e hju hno) (fun cs b=>hsel i oi cs b hi) (fun cs b=>hsel j oj cs b hoj) hQ hy (H.2 j (ready_mono hj e))
    refine wpOp_mono (fun a' w' h3=>?_) hstep
    have hl2:(ls.setIfInBounds j true).getD k true=false:=by rw [getD_set_ne true hjk];exact hlk
    have hl3:((ls.setIfInBounds i true).setIfInBounds j true).getD k true=false:=by rw [getD_set_ne true hjk,getD_set_ne true (Ne.symm hki)];exact hlk
    have hS2:=h3.2.1 hl3
    refine ⟨fun _=>hS2,ih _ a' w' (fun l ol hl hli hun hn=>hfree l ol hl hli ?_ hn) (ready_mono hr (Ne.symm e)) h3.1 hS2 hl2 ?_⟩
    · by_cases e4:j=l
      · subst e4;exact hju
      · rw [getD_set_ne true e4] at hun;exact hun
    · rw [Array.setIfInBounds_comm _ _ e];exact h3.2.2
def waitsB (md:Region.Mode) (ops:Array Oper) (k i:Nat):Bool:=match ops[k]? with
 | some o=>o.after.any fun e=>Region.binds md e && e.on == i
 | none=>false
theorem AnyB.take {i:Nat} {oi:Oper} {v:Value} {f:Nat} {ls:Array Bool} {a:Act} {w:World} (hi:ops[i]?=some oi) (hwt:waitsB md ops k i=true) (hki:k≠i)
 (hs:Region.noSelect ops=true) (hf:Region.free md ops ls i=true) (hr:(Region.ready md ops ls).contains i=true)
 (hQ:∀ c a w,Q (.panic c) (a.put oi.dst v) w->Q (.panic c) a w) (hy:YieldsIf P ops S oi v a) (hS:S w) (hlk:ls.getD k true=false)
 (h:AnyB P md ops Q k S f (ls.setIfInBounds i true) (a.put oi.dst v) w):AnyB P md ops Q k S (f+1) ls a w:=by
 unfold waitsB at hwt
 split at hwt
 · rename_i o ho
   rw [Array.any_eq_true'] at hwt
   obtain ⟨e,h1,h2⟩:=hwt
   simp only [Bool.and_eq_true,beq_iff_eq] at h2
   exact AnyB.first hi ho ⟨e,h1,h2.1,h2.2⟩ hki (Region.noSelect_spec hs) hQ f ls a w (Region.free_spec hi hf) (by simpa using hr) hy hS hlk h
 · cases hwt
theorem AnyB.draw {f:Nat} {ls:Array Bool} {a:Act} {w:World} (i d:Nat) {oi:Oper} {v:Value} (hi:ops[i]?=some oi) (hd:oi.dst=some d) (hwt:waitsB md ops k i=true) (hki:k≠i)
 (hs:Region.noSelect ops=true) (hf:Region.free md ops ls i=true) (hr:(Region.ready md ops ls).contains i=true)
 (hQ:∀ c a w,Q (.panic c) (a.put (some d) v) w->Q (.panic c) a w) (hw:Region.wanted oi (yielded ops a.tmps)=true) (hy:∀ w,S w->(execOp a.eval oi).run P w = .ok (.value v) w) (hS:S w) (hlk:ls.getD k true=false)
 (h:AnyB P md ops Q k S f (ls.setIfInBounds i true) (a.put (some d) v) w):AnyB P md ops Q k S (f+1) ls a w:=by
 rw [<-hd] at h hQ
 exact AnyB.take (v:=v) hi hwt hki hs hf hr hQ (Or.inl ⟨hw,hy⟩) hS hlk h
def AllB (P:Program) (md:Region.Mode) (ops:Array Oper) (Q:Exit->Act->World->Prop) (k:Nat) (S:World->Prop) (f:Nat) (ls:Array Bool) (a:Act) (w:World) (rs:List Nat):Prop :=
 ∀ i∈rs,wpOp P ops Q i (fun a' w'=>((ls.setIfInBounds i true).getD k true=false->S w')/\AnyB P md ops Q k S f (ls.setIfInBounds i true) a' w') a w
theorem AllB.nil {f:Nat} {ls:Array Bool} {a:Act} {w:World}:AllB P md ops Q k S f ls a w []:=fun _ h=>by cases h
theorem AllB.cons {f:Nat} {ls:Array Bool} {a:Act} {w:World} {i:Nat} {o:Oper} {rs:List Nat} (ho:ops[i]?=some o)
 (h:∀ K:Act->World->Prop,Shut (∀ a w,((ls.setIfInBounds i true).getD k true=false->S w)->AnyB P md ops Q k S f (ls.setIfInBounds i true) a w->K a w)->if Region.wanted o (yielded ops a.tmps)=true then Oper.wp P o a w K Q else K (a.put o.dst undef) w)
 (hs:AllB P md ops Q k S f ls a w rs):AllB P md ops Q k S f ls a w (i :: rs):=fun j hj=>by
 rcases List.mem_cons.1 hj with rfl | hj
 · exact wpOp_step ho (fun K hK=>h K (fun a w h1 h2=>hK a w ⟨h1,h2⟩))
 · exact hs j hj
theorem AnyB.ready {rs:List Nat} {f:Nat} {ls:Array Bool} {a:Act} {w:World} (hr:Region.ready md ops ls=rs) (hne:rs≠[]) (h:AllB P md ops Q k S f ls a w rs):AnyB P md ops Q k S (f+1) ls a w :=
 ⟨fun h0=>absurd (hr ▸ h0) hne,hr ▸ h⟩
theorem AnyB.done {ls:Array Bool} {a:Act} {w:World} (hr:Region.ready md ops ls=[]) (h:Q .normal a w):∀ f,AnyB P md ops Q k S f ls a w
 | 0=>⟨hr,h⟩
 | _+1=>⟨fun _=>h,by rw [hr];simp⟩
theorem AnyB.begin_ {id:Nat} {a:Act} {w:World} (hm:P.follows .mixedOrders=true) (h:AnyB P .any ops Q k S ops.size (Array.replicate ops.size false) a w.drew):(Code.region id ops true).wp P Q a w :=
 wp_region_any hm (AnyB.any _ _ _ _ h)
end
end Go.Proofs.YtipjdbhocjpmdaaGreat
