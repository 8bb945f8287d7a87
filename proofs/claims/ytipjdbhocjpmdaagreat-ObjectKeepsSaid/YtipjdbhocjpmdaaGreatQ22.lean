import Derived.Test.YtipjdbhocjpmdaaGreatQ01
import Derived.Test.YtipjdbhocjpmdaaGreatQ21
import Derived.Deep.DeepCutAuto
set_option linter.unusedSimpArgs false
set_option linter.unusedVariables false
set_option maxRecDepth 100000
set_option maxHeartbeats 12800000
namespace Go.Proofs.YtipjdbhocjpmdaaGreat
open Go.RowKit
theorem walk_at (h:Hp) (i:Int) (big:Bool) (u:Nat):∀ (f o:Nat) (l:List Int),u - o<=f->zg5 h i big u o=some l->∀ x∈l,atE h x=0/\∃ o':Nat,o<=o'/\o' < u/\x=zd4 h.pw h.np i o'
 | 0,o,l,hf,hl,x,hx=>by
  rw [zp5 (by omega)] at hl;cases hl;cases hx
 | f+1,o,l,hf,hl,x,hx=>by
  by_cases hlt:o < u
  · by_cases e:atE h (zd4 h.pw h.np i o)=0
    · cases big
      · rw [zy8 hlt e] at hl
        cases hr:zg5 h i false u (o+((atH h (zd4 h.pw h.np i o)).n.toNat+1)) with
        | none=>rw [hr] at hl;cases hl
        | some r =>
         rw [hr] at hl;cases hl
         rcases List.mem_cons.1 hx with rfl | hx
         · exact ⟨e,o,Nat.le_refl _,hlt,rfl⟩
         · obtain ⟨a,o',b1,b2,b3⟩:=walk_at h i false u f _ r (by omega) hr x hx
           exact ⟨a,o',by omega,b2,b3⟩
      · rw [yb7 hlt e] at hl;cases hl
        rw [List.mem_singleton.1 hx];exact ⟨e,o,Nat.le_refl _,hlt,rfl⟩
    · rw [zv7 hlt e] at hl;cases hl
  · rw [zp5 hlt] at hl;cases hl;cases hx
theorem pageV_at {h:Hp} {i:Int} {x:Int} (hx:x∈zf4 h i):atE h x=0:=by
 unfold zf4 at hx
 split at hx
 · split at hx
   · cases hx
   · split at hx
     · cases hx
     · cases hw:zq1 h i with
       | none=>rw [hw] at hx;cases hx
       | some l =>
        rw [hw] at hx
        exact (walk_at h i _ _ _ _ l (Nat.le_refl _) hw x hx).1
 · cases hx
theorem at_bd {h:Hp} {x:Int} (e:atE h x=0):4096<=x/\x < 8192:=by
 have h1:=(at_in e).1
 have h5:ofE h.pw h.np x=0:=by
  by_cases h5:ofE h.pw h.np x=0
  · exact h5
  · rw [(atE_out h1 h5).1] at e;cases e
 obtain ⟨-,-,t,ht,htl⟩:=of_in h1 h5
 obtain ⟨k1,k2,-⟩:=zc2 h1
 have:=(zd6 k1).2
 omega
theorem pageV_bd {h:Hp} {i:Int}:∀ x∈zf4 h i,0<=x/\x<=9000:=fun x hx=>by
 have:=at_bd (pageV_at hx);omega
theorem startsV_at {h:Hp} {x:Int} (hx:x∈zi5 h):atE h x=0:=by
 unfold zi5 at hx
 split at hx
 · split at hx
   · unfold zk1 at hx
     obtain ⟨j,-,hj⟩:=List.mem_flatMap.1 hx
     exact pageV_at hj
   · cases hx
 · cases hx
theorem zy5 {h:Hp} {x:Int} (hx:x∈zc0 h):atE h x=0/\¬(atH h x).k=0:=by
 unfold zc0 zm3 at hx
 obtain ⟨h1,h2⟩:=List.mem_filter.1 hx
 exact ⟨startsV_at h1,of_decide_eq_true h2⟩
theorem refAddr9_any (h:Hp) (p q:Option Addr) (n c m d:Nat) (i o:Int) (w:World) (h0:0<=i*h.pw) (h2:i*h.pw<=5000) (h3:0<=o) (h4:o<=100) :
 Calls Tryz.prog 159 #[.agg #[.int .i64 h.pw,.int .i64 h.np,.slice p n c,.slice q m d,.int .i64 h.space,.int .i64 h.bump],.int .i64 i,.int .i64 o] w fun e w'=>e = .returned (.int .u64 (4096+i*h.pw+o))/\Below w.heap.size w w':=by
 obtain ⟨P,hP⟩:∃ P,i*h.pw=P:=⟨_,rfl⟩
 rw [hP] at h0 h2
 have HP:=qq hP
 clear hP
 rw [HP.out]
 have hP:=HP.out
 go_enter Tryz.func159,Tryz.ntmps159
 go_wp2
 go_ret
 exact ⟨rfl,za1⟩
theorem brow_at {w:World} {p:Option Addr} {n cap:Nat} {bs:List Bool} (h:VRow w 1 p n cap (zs8 bs)) {k:Nat} (hk:k < n):∃ x b off,bs[k]?=some x/\p=some ⟨b,off,none⟩/\w.cell? ⟨b,off+k,none⟩=some (.bool x):=by
 have hl:bs.length=n:=by have:=h.len;rw [bvals_len] at this;omega
 have hx:bs[k]?=some (bs[k]'(by rw [hl];exact hk)):=List.getElem?_eq_getElem _
 obtain ⟨b,off,hp,hc⟩:=h.row k (.bool (bs[k]'(by rw [hl];exact hk))) (by rw [zs8,List.getElem?_map,hx];rfl)
 exact ⟨_,b,off,hx,hp,hc⟩
def zv1 (h:Hp) (i:Nat):Nat->List Bool->Int
 | _,[]=>0
 | k,b :: r=>if b=false/\¬pageX h i k=0 then 4096+(i:Int)*h.pw+k else zv1 h i (k+1) r
def dirtV (h:Hp) (i:Nat):Int:=zv1 h i 0 (usedV h i (zf4 h (zm4 h.pages i)))
theorem dirt_at {h:Hp} {i:Nat} {l:List Bool} {k:Nat} {b:Bool} (hb:l[k]?=some b):zv1 h i k (l.drop k)=if b=false/\¬pageX h i k=0 then 4096+(i:Int)*h.pw+k else zv1 h i (k+1) (l.drop (k+1)):=by
 obtain ⟨hk,rfl⟩:=List.getElem?_eq_some_iff.1 hb
 rw [List.drop_eq_getElem_cons hk,zv1]
theorem dirt_end {h:Hp} {i:Nat} {l:List Bool} {k:Nat} (hk:l.length<=k):zv1 h i k (l.drop k)=0:=by
 rw [List.drop_eq_nil_of_le hk];rfl
theorem usedV_len (h:Hp) (i:Nat) (l:List Int):(usedV h i l).length=h.pw.toNat:=by unfold usedV;rw [List.length_map,List.length_range]
theorem pageX_bd {h:Hp} (hw:WB h.words) (i o:Int):0<=pageX h i o/\pageX h i o < 18446744073709551616:=by
 unfold pageX ze1
 split
 · rw [List.getD_eq_getElem?_getD]
   cases he:h.words[(zd4 h.pw h.np i o - 4096).toNat]? with
   | none=>simp
   | some x=>exact hw x (List.mem_of_getElem? he)
 · omega
theorem keep7b {w0 w w':World} {a b c d e f:Addr} {va vb vc vd ve vf:Value} (h:w.cell? a=some va/\w.cell? b=some vb/\w.cell? c=some vc/\w.cell? d=some vd/\w.cell? e=some ve/\w.cell? f=some vf/\Below w0.heap.size w0 w) (hb:Below w.heap.size w w') :
 w'.cell? a=some va/\w'.cell? b=some vb/\w'.cell? c=some vc/\w'.cell? d=some vd/\w'.cell? e=some ve/\w'.cell? f=some vf/\Below w0.heap.size w0 w' :=
 ⟨za0 hb h.1,za0 hb h.2.1,za0 hb h.2.2.1,za0 hb h.2.2.2.1,za0 hb h.2.2.2.2.1,za0 hb h.2.2.2.2.2.1,za3 h.2.2.2.2.2.2 hb⟩
theorem boxH (w:World) (v0 v1 v2 v3 v4 v5:Value) (T:TypeId):(w.alloc (.cells #[v0,v1,v2,v3,v4,v5] T)).cell? ⟨w.heap.size,0,none⟩=some v0/\(w.alloc (.cells #[v0,v1,v2,v3,v4,v5] T)).cell? ⟨w.heap.size,1,none⟩=some v1/\(w.alloc (.cells #[v0,v1,v2,v3,v4,v5] T)).cell? ⟨w.heap.size,2,none⟩=some v2/\(w.alloc (.cells #[v0,v1,v2,v3,v4,v5] T)).cell? ⟨w.heap.size,3,none⟩=some v3/\(w.alloc (.cells #[v0,v1,v2,v3,v4,v5] T)).cell? ⟨w.heap.size,4,none⟩=some v4/\(w.alloc (.cells #[v0,v1,v2,v3,v4,v5] T)).cell? ⟨w.heap.size,5,none⟩=some v5/\Below w.heap.size w (w.alloc (.cells #[v0,v1,v2,v3,v4,v5] T)):=by
 refine ⟨?_,?_,?_,?_,?_,?_,za1⟩ <;> simp
theorem refDirt_val {u:Value} {h:Hp} (i:Nat) (w:World) (hu:HV w u h) (h1:okH h=true) (hi:i < h.pages.length) :
 Calls Tryz.prog 155 #[u,.int .i64 i] w fun e w'=>e = .returned (.int .u64 (dirtV h i))/\Below w.heap.size w w':=by
 obtain ⟨p,n,c,q,m,d,rfl,hs,hr,hwb⟩:=hu
 obtain ⟨x0,x1,x2,x3,x4,x5,hbx⟩:=boxH w (.int .i64 h.pw) (.int .i64 h.np) (.slice p n c) (.slice q m d) (.int .i64 h.space) (.int .i64 h.bump) 27
 have hHV:=qq (fun w' (hb:Below w.heap.size w w')=>(⟨p,n,c,q,m,d,rfl,hs.keep hb,hr.keep hb,hwb⟩:HV w' (.agg #[.int .i64 h.pw,.int .i64 h.np,.slice p n c,.slice q m d,.int .i64 h.space,.int .i64 h.bump]) h))
 have Hs:=qq (fun w' (hb:Below w.heap.size w w')=>hs.keep hb)
 obtain ⟨G,hG⟩:∃ G,Hid (zm4 h.pages i=G):=⟨_,rfl⟩
 have hhd:=qq (fun w' (hb:Below w.heap.size w w')=>refHead_val i w' (hHV.out w' hb) h1 hi)
 have hpg:=qq (fun w' (hb:Below w.heap.size w w')=>yd5 (zm4 h.pages i:Int) w' (hHV.out w' hb))
 have hus:=qq (fun w' (hb:Below w.heap.size w w') p' n' c' (hl:SRow w' .u64 p' n' c' (zf4 h (zm4 h.pages i)))=>refUsed_val i p' n' c' _ w' (hHV.out w' hb) h1 hi hl pageV_bd)
 have hwd:=qq (fun w' (hb:Below w.heap.size w w') (o:Int)=>refWord_any h p q n c m d i o w' (Hs.out w' hb) h1)
 obtain ⟨g1,-,g3,-⟩:=zc2 h1
 obtain ⟨k1,k2,-,k4,k5⟩:=zb1 g1
 have hip:=zj2 g1 (show (0:Int)<=i by omega) (show (i:Int) < h.np by omega)
 have hcp:=zd6 g1
 have had:=qq (fun w' (o:Int) (h3:0<=o) (h4:o<=100)=>refAddr9_any h p q n c m d i o w' hip.1 (by omega) h3 h4)
 have hxb:=qq (fun o=>pageX_bd hwb i o)
 obtain ⟨PW,hPW⟩:=Int.eq_ofNat_of_zero_le (show 0<=h.pw by omega)
 have hP64:PW<=64:=by omega
 have HPW:=qq (show h.pw.toNat=PW by omega)
 obtain ⟨D,hD⟩:∃ D,Hid (dirtV h i=D):=⟨_,rfl⟩
 obtain ⟨us,hus0⟩:∃ us,Hid (usedV h i (zf4 h (zm4 h.pages i))=us):=⟨_,rfl⟩
 have hul:=qq (show us.length=PW from by rw [<-hus0.out,usedV_len,HPW.out])
 have hD2:=qq (show zv1 h i 0 us=D from by rw [<-hD.out,<-hus0.out];rfl)
 rw [hD.out]
 rw [hus0.out] at hus
 rw [hG.out] at hhd hpg hus
 obtain ⟨pe,hpe⟩:∃ pe,Hid (zh0 h (G:Int)=pe):=⟨_,rfl⟩
 rw [hpe.out] at hpg
 clear hs hr hHV g1 g3 hip hcp hPW k4 k5 h1
 go_enter Tryz.func155,Tryz.ntmps155
 go_wp2_with fail
 go_region_held3 (fun w'=>w'.cell? ⟨w.heap.size,0,none⟩=some (.int .i64 h.pw)/\w'.cell? ⟨w.heap.size,1,none⟩=some (.int .i64 h.np)/\w'.cell? ⟨w.heap.size,2,none⟩=some (.slice p n c)/\w'.cell? ⟨w.heap.size,3,none⟩=some (.slice q m d)/\w'.cell? ⟨w.heap.size,4,none⟩=some (.int .i64 h.space)/\w'.cell? ⟨w.heap.size,5,none⟩=some (.int .i64 h.bump)/\Below w.heap.size w w')
  (first | exact ⟨x0,x1,x2,x3,x4,x5,hbx.drew⟩ | (exact keep7b ‹_› (Below.drew (Below.refl _ _))) | (exact keep7b ‹_› hbq))
  (first
   | (go_at_call 156;refine (hhd.out _ (And.right (And.right (And.right (And.right (And.right (And.right ‹_›))))))).mono ?_;rintro e w' ⟨rfl,hbq⟩)
   | (go_at_call 96;refine (hpg.out _ (And.right (And.right (And.right (And.right (And.right (And.right ‹_›))))))).mono ?_;rintro e w' ⟨⟨lp,N,lc,rfl,hrow⟩,hbq⟩))
 rename_i w1 _ hH
 obtain ⟨x0,x1,x2,x3,x4,x5,hB⟩:=hH
 have HB:=qq hB
 have Hrow:=qq hrow
 clear hB hrow hhd hpg hbx hbq
 go_wp2_with fail
 refine (hus.out _ HB.out _ _ _ Hrow.out).mono ?_
 rintro e w2 ⟨⟨q2,m2,c2,rfl,hu2⟩,hb2⟩
 have hm2:m2=PW:=by have:=hu2.len;rw [bvals_len,hul.out] at this;omega
 subst hm2
 have x0:=za0 hb2 x0
 have x1:=za0 hb2 x1
 have x2:=za0 hb2 x2
 have x3:=za0 hb2 x3
 have x4:=za0 hb2 x4
 have x5:=za0 hb2 x5
 have HB2:=qq (za3 HB.out hb2)
 have Hu2:=qq (fun w' (hb:Below w2.heap.size w2 w')=>hu2.keep hb)
 clear hu2 hb2 HB Hrow hus
 go_wp2
 go_loopw [8] (fun v wr=>∃ k:Nat,k<=m2/\zv1 h i k (us.drop k)=D/\v = .int .i64 k/\Below w2.heap.size w2 wr) (fun v _=>m2 - (intOf v).toNat)
 case atStart=>exact ⟨0,by omega,by rw [List.drop_zero];exact hD2.out,rfl,Below.refl _ _⟩
 case round =>
  obtain ⟨k,hk,hf,rfl,hb⟩:=hrel
  have Hf:=qq hf
  clear hf
  have hwr:=qq (za3 HB2.out hb)
  by_cases hlt:k < m2
  · obtain ⟨b,bb,bo,hbx,rfl,ub⟩:=brow_at (Hu2.out _ hb) hlt
    have hlt2:(k:Int) < m2:=by omega
    have hst:=dirt_at (h:=h) (i:=i) hbx
    rw [Hf.out] at hst
    have x0:=za0 hb x0
    have x1:=za0 hb x1
    have x2:=za0 hb x2
    have x3:=za0 hb x3
    have x4:=za0 hb x4
    have x5:=za0 hb x5
    have Hb:=qq hb
    clear hbx hb
    cases b
    · have hw1:=qq (hwd.out _ hwr.out k)
      have hX:=qq hst
      generalize pageX h i k=X at hw1 hX
      clear hst
      by_cases hX0:X=0
      · subst hX0
        have E:=qq (show zv1 h i (k+1) (us.drop (k+1))=D from by rw [hX.out,if_neg (by simp)])
        go_wp2_with fail
        refine hw1.out.mono ?_
        rintro e w3 ⟨rfl,hb3⟩
        have Hb3:=qq (za3 Hb.out hb3)
        clear hb3 hw1
        go_wp2
        go_roundw
        case rel=>exact ⟨k+1,by omega,E.out,by go_num,Hb3.out⟩
        case measure=>simp [intOf];omega
      · have E:=qq (show 4096+(i:Int)*h.pw+k=D from by rw [hX.out,if_pos ⟨rfl,hX0⟩])
        have hne:(X != 0)=true:=bne_iff_ne.2 hX0
        have ha:=qq (fun w'=>had.out w' k (by omega) (by omega))
        rw [E.out] at ha
        clear hX0
        go_wp2_with fail
        refine hw1.out.mono ?_
        rintro e w3 ⟨rfl,hb3⟩
        have hwr3:=qq (za3 hwr.out hb3)
        have x0:=za0 hb3 x0
        have x1:=za0 hb3 x1
        have x2:=za0 hb3 x2
        have x3:=za0 hb3 x3
        have x4:=za0 hb3 x4
        have x5:=za0 hb3 x5
        clear hb3 hw1
        go_wp2_with fail
        refine (ha.out _).mono ?_
        rintro e w4 ⟨rfl,hb4⟩
        go_wp2
        go_ret
        exact ⟨rfl,za3 hwr3.out hb4⟩
    · have E:=qq (show zv1 h i (k+1) (us.drop (k+1))=D from by rw [hst,if_neg (by simp)])
      clear hst
      go_wp2
      go_roundw
      case rel=>exact ⟨k+1,by omega,E.out,by go_num,Hb.out⟩
      case measure=>simp [intOf];omega
  · have E:=qq (show 0=D from by rw [<-Hf.out,dirt_end (by rw [hul.out];omega)])
    clear hb
    go_wp2
    go_ret
    exact ⟨zj1 E.out,hwr.out⟩
structure Fd where
 fault:Int
 page:Int
 addr:Int
deriving DecidableEq
def Fd.none:Fd:=⟨0,0,0⟩
def Fd.val (f:Fd):Value:=.agg #[.int .i64 f.fault,.int .i64 f.page,.int .u64 f.addr]
def pageF (h:Hp) (i:Nat):Fd :=
 if ¬(pgAt h i).kind=0/\¬(pgAt h i).space=h.space then ⟨2,i,0⟩
 else if ¬zh0 h i=0 then ⟨3,i,0⟩
 else if ¬clsV h i (zf4 h i)=0 then ⟨5,i,clsV h i (zf4 h i)⟩
 else if ¬dirtV h i=0 then ⟨4,i,dirtV h i⟩ else Fd.none
theorem refPage9_val {u:Value} {h:Hp} (i:Nat) (w:World) (hu:HV w u h) (h1:okH h=true) (hi:i < h.pages.length) :
 Calls Tryz.prog 152 #[u,.int .i64 i] w fun e w'=>e = .returned (pageF h i).val/\Below w.heap.size w w':=by
 obtain ⟨p,n,c,q,m,d,rfl,hs,hr,hwb⟩:=hu
 obtain ⟨x0,x1,x2,x3,x4,x5,hbx⟩:=boxH w (.int .i64 h.pw) (.int .i64 h.np) (.slice p n c) (.slice q m d) (.int .i64 h.space) (.int .i64 h.bump) 27
 have Ho:=Own3.new (w.alloc (.cells #[.int .i64 h.pw,.int .i64 h.np,.slice p n c,.slice q m d,.int .i64 h.space,.int .i64 h.bump] 27)) (.int .i64 0) (.int .i64 0) (.int .u64 0) 166
 simp only [World.size_alloc] at Ho
 have hbx2:=za3 hbx (za1 (o:=.cells #[.int .i64 0,.int .i64 0,.int .u64 0] 166))
 have x0:=za0 (za1 (o:=.cells #[.int .i64 0,.int .i64 0,.int .u64 0] 166)) x0
 have x1:=za0 (za1 (o:=.cells #[.int .i64 0,.int .i64 0,.int .u64 0] 166)) x1
 have x2:=za0 (za1 (o:=.cells #[.int .i64 0,.int .i64 0,.int .u64 0] 166)) x2
 have x3:=za0 (za1 (o:=.cells #[.int .i64 0,.int .i64 0,.int .u64 0] 166)) x3
 have x4:=za0 (za1 (o:=.cells #[.int .i64 0,.int .i64 0,.int .u64 0] 166)) x4
 have x5:=za0 (za1 (o:=.cells #[.int .i64 0,.int .i64 0,.int .u64 0] 166)) x5
 have hHV:=qq (fun w' (hb:Below w.heap.size w w')=>(⟨p,n,c,q,m,d,rfl,hs.keep hb,hr.keep hb,hwb⟩:HV w' (.agg #[.int .i64 h.pw,.int .i64 h.np,.slice p n c,.slice q m d,.int .i64 h.space,.int .i64 h.bump]) h))
 have hpg:=qq (fun w' (hb:Below w.heap.size w w')=>yd5 (i:Int) w' (hHV.out w' hb))
 have hcl:=qq (fun w' (hb:Below w.heap.size w w') p' n' c' (hl:SRow w' .u64 p' n' c' (zf4 h i))=>refClass_val i p' n' c' _ w' (hHV.out w' hb) hi hl (pageV_wb h i))
 have hdt:=qq (fun w' (hb:Below w.heap.size w w')=>refDirt_val i w' (hHV.out w' hb) h1 hi)
 have hF:pageF h i=if ¬(pgAt h i).kind=0/\¬(pgAt h i).space=h.space then ⟨2,i,0⟩
  else if ¬zh0 h i=0 then ⟨3,i,0⟩
  else if ¬clsV h i (zf4 h i)=0 then ⟨5,i,clsV h i (zf4 h i)⟩
  else if ¬dirtV h i=0 then ⟨4,i,dirtV h i⟩ else Fd.none:=rfl
 have hm9:=hr.i63.2
 have him:i < m:=by rw [<-hr.len];exact hi
 have himi:(i:Int) < m:=by omega
 obtain ⟨X,b1,off,hX,rfl,g0,g1,-,-⟩:=hr.at_ him
 have g0:=za0 hbx2 g0
 have g1:=za0 hbx2 g1
 rw [show pgAt h i=X from by unfold pgAt;rw [Int.toNat_natCast];exact zc6 hX] at hF
 generalize zh0 h i=PE at hpg hF
 generalize zf4 h i=PV at hpg hcl hF
 generalize clsV h i PV=CV at hcl hF
 generalize dirtV h i=DV at hdt hF
 generalize pageF h i=F at hF
 obtain ⟨BV,hBV⟩:∃ BV,Hid (decide (¬X.kind=0/\¬X.space=h.space)=BV):=⟨_,rfl⟩
 have HF:=qq (show (BV=true/\F=⟨2,i,0⟩)\/(BV=false/\¬PE=0/\F=⟨3,i,0⟩)\/(BV=false/\PE=0/\¬CV=0/\F=⟨5,i,CV⟩)\/(BV=false/\PE=0/\CV=0/\¬DV=0/\F=⟨4,i,DV⟩)\/(BV=false/\PE=0/\CV=0/\DV=0/\F=Fd.none) from by
  by_cases hB:¬X.kind=0/\¬X.space=h.space
  · exact Or.inl ⟨by rw [<-hBV.out];exact decide_eq_true hB,by rw [hF,if_pos hB]⟩
  · have e0:BV=false:=by rw [<-hBV.out];exact decide_eq_false hB
    rw [if_neg hB] at hF
    by_cases hPE:PE=0
    · rw [if_neg (fun h=>h hPE)] at hF
      by_cases hCV:CV=0
      · rw [if_neg (fun h=>h hCV)] at hF
        by_cases hDV:DV=0
        · rw [if_neg (fun h=>h hDV)] at hF
          exact Or.inr (Or.inr (Or.inr (Or.inr ⟨e0,hPE,hCV,hDV,hF⟩)))
        · rw [if_pos hDV] at hF
          exact Or.inr (Or.inr (Or.inr (Or.inl ⟨e0,hPE,hCV,hDV,hF⟩)))
      · rw [if_pos hCV] at hF
        exact Or.inr (Or.inr (Or.inl ⟨e0,hPE,hCV,hF⟩))
    · rw [if_pos hPE] at hF
      exact Or.inr (Or.inl ⟨e0,hPE,hF⟩))
 have HB0:=qq hbx2
 have HO:=qq Ho
 clear hs hr hHV hF hX him h1 hi hbx hbx2 Ho hwb
 go_enter Tryz.func152,Tryz.ntmps152
 go_upto_region 1 with fail
 go_cut [26] (fun t wx=>t = .bool BV/\∃ dd,wx=((w.alloc (.cells #[.int .i64 h.pw,.int .i64 h.np,.slice p n c,.slice (some ⟨b1,off,none⟩) m d,.int .i64 h.space,.int .i64 h.bump] 27)).alloc (.cells #[.int .i64 0,.int .i64 0,.int .u64 0] 166)).drewN dd)
 case first =>
  by_cases hk:X.kind=0
  · have E:=qq (show false=BV from by rw [<-hBV.out];exact (decide_eq_false (fun h=>h.1 hk)).symm)
    rw [hk] at g0
    clear HF hk
    go_quiet (fail)
    go_wp2_with fail
    go_meet
    exact ⟨by rw [<-E.out],_,rfl⟩
  · have b0:(X.kind != 0)=true:=bne_iff_ne.2 hk
    by_cases hsp:X.space=h.space
    · have E:=qq (show false=BV from by rw [<-hBV.out];exact (decide_eq_false (fun h=>h.2 hsp)).symm)
      rw [hsp] at g1
      clear HF hk hsp
      go_quiet (fail)
      go_wp2_with fail
      go_meet
      exact ⟨by rw [<-E.out],_,rfl⟩
    · have E:=qq (show true=BV from by rw [<-hBV.out];exact (decide_eq_true (And.intro hk hsp)).symm)
      have b1':(X.space != h.space)=true:=bne_iff_ne.2 hsp
      clear HF hk hsp
      go_quiet (fail)
      go_wp2_with fail
      go_meet
      exact ⟨by rw [<-E.out],_,rfl⟩
 case rest =>
  obtain ⟨rfl,dd,hwc⟩:=hcut
  have hbd:Below ((w.alloc (.cells #[.int .i64 h.pw,.int .i64 h.np,.slice p n c,.slice (some ⟨b1,off,none⟩) m d,.int .i64 h.space,.int .i64 h.bump] 27)).alloc (.cells #[.int .i64 0,.int .i64 0,.int .u64 0] 166)).heap.size ((w.alloc (.cells #[.int .i64 h.pw,.int .i64 h.np,.slice p n c,.slice (some ⟨b1,off,none⟩) m d,.int .i64 h.space,.int .i64 h.bump] 27)).alloc (.cells #[.int .i64 0,.int .i64 0,.int .u64 0] 166)) wc:=by rw [hwc];exact below_drewN (Below.refl _ _) _
  have x0:=za0 hbd x0
  have x1:=za0 hbd x1
  have x2:=za0 hbd x2
  have x3:=za0 hbd x3
  have x4:=za0 hbd x4
  have x5:=za0 hbd x5
  have HO:=qq (HO.out.keep hbd)
  have HB:=qq (za3 HB0.out hbd)
  clear hbd hwc HB0 g0 g1
  rcases HF.out with ⟨rfl,E⟩ | ⟨rfl,hP,E⟩ | ⟨rfl,rfl,hC,E⟩ | ⟨rfl,rfl,rfl,hD,E⟩ | ⟨rfl,rfl,rfl,rfl,E⟩
  · have E:=qq E
    clear HF
    obtain ⟨d0,d1,d2,f0,f1,f2⟩:=HO.out
    clear x0 x1 x2 x3 x4 x5 hdt hcl hpg
    go_wp2
    exact bodyPost_ret (v:=.agg #[.int .i64 2,.int .i64 i,.int .u64 0]) (by simp [results,Tryz.results152,go_sem,d0,d1,d2]) rfl ⟨by rw [E.out];rfl,zb9 HB.out (by omega)⟩
  · have E:=qq E
    have b9:(PE != 0)=true:=bne_iff_ne.2 hP
    clear HF hP
    go_wp2_with fail
    refine (hpg.out _ HB.out).mono ?_
    rintro e w2 ⟨⟨lp,N,lc,rfl,hrow⟩,hb2⟩
    have x0:=za0 hb2 x0
    have x1:=za0 hb2 x1
    have x2:=za0 hb2 x2
    have x3:=za0 hb2 x3
    have x4:=za0 hb2 x4
    have x5:=za0 hb2 x5
    have HO:=qq (HO.out.keep hb2)
    have HB:=qq (za3 HB.out hb2)
    have Hrow:=qq hrow
    clear hrow hb2 hpg
    obtain ⟨d0,d1,d2,f0,f1,f2⟩:=HO.out
    clear x0 x1 x2 x3 x4 x5 hdt hcl Hrow
    go_wp2
    exact bodyPost_ret (v:=.agg #[.int .i64 3,.int .i64 i,.int .u64 0]) (by simp [results,Tryz.results152,go_sem,d0,d1,d2]) rfl ⟨by rw [E.out];rfl,zb9 HB.out (by omega)⟩
  · have E:=qq E
    have b9:(CV != 0)=true:=bne_iff_ne.2 hC
    clear HF hC
    go_wp2_with fail
    refine (hpg.out _ HB.out).mono ?_
    rintro e w2 ⟨⟨lp,N,lc,rfl,hrow⟩,hb2⟩
    have x0:=za0 hb2 x0
    have x1:=za0 hb2 x1
    have x2:=za0 hb2 x2
    have x3:=za0 hb2 x3
    have x4:=za0 hb2 x4
    have x5:=za0 hb2 x5
    have HO:=qq (HO.out.keep hb2)
    have HB:=qq (za3 HB.out hb2)
    have Hrow:=qq hrow
    clear hrow hb2 hpg
    go_wp2_with fail
    refine (hcl.out _ HB.out _ _ _ Hrow.out).mono ?_
    rintro e w3 ⟨rfl,hb3⟩
    have x0:=za0 hb3 x0
    have x1:=za0 hb3 x1
    have x2:=za0 hb3 x2
    have x3:=za0 hb3 x3
    have x4:=za0 hb3 x4
    have x5:=za0 hb3 x5
    have HO:=qq (HO.out.keep hb3)
    have HB:=qq (za3 HB.out hb3)
    clear hb3 hcl Hrow
    obtain ⟨d0,d1,d2,f0,f1,f2⟩:=HO.out
    clear x0 x1 x2 x3 x4 x5 hdt
    go_wp2
    exact bodyPost_ret (v:=.agg #[.int .i64 5,.int .i64 i,.int .u64 CV]) (by simp [results,Tryz.results152,go_sem,d0,d1,d2]) rfl ⟨by rw [E.out];rfl,zb9 HB.out (by omega)⟩
  · have E:=qq E
    have b9:(DV != 0)=true:=bne_iff_ne.2 hD
    clear HF hD
    go_wp2_with fail
    refine (hpg.out _ HB.out).mono ?_
    rintro e w2 ⟨⟨lp,N,lc,rfl,hrow⟩,hb2⟩
    have x0:=za0 hb2 x0
    have x1:=za0 hb2 x1
    have x2:=za0 hb2 x2
    have x3:=za0 hb2 x3
    have x4:=za0 hb2 x4
    have x5:=za0 hb2 x5
    have HO:=qq (HO.out.keep hb2)
    have HB:=qq (za3 HB.out hb2)
    have Hrow:=qq hrow
    clear hrow hb2 hpg
    go_wp2_with fail
    refine (hcl.out _ HB.out _ _ _ Hrow.out).mono ?_
    rintro e w3 ⟨rfl,hb3⟩
    have x0:=za0 hb3 x0
    have x1:=za0 hb3 x1
    have x2:=za0 hb3 x2
    have x3:=za0 hb3 x3
    have x4:=za0 hb3 x4
    have x5:=za0 hb3 x5
    have HO:=qq (HO.out.keep hb3)
    have HB:=qq (za3 HB.out hb3)
    clear hb3 hcl Hrow
    go_wp2_with fail
    refine (hdt.out _ HB.out).mono ?_
    rintro e w4 ⟨rfl,hb4⟩
    have x0:=za0 hb4 x0
    have x1:=za0 hb4 x1
    have x2:=za0 hb4 x2
    have x3:=za0 hb4 x3
    have x4:=za0 hb4 x4
    have x5:=za0 hb4 x5
    have HO:=qq (HO.out.keep hb4)
    have HB:=qq (za3 HB.out hb4)
    clear hb4 hdt
    obtain ⟨d0,d1,d2,f0,f1,f2⟩:=HO.out
    clear x0 x1 x2 x3 x4 x5
    go_wp2
    exact bodyPost_ret (v:=.agg #[.int .i64 4,.int .i64 i,.int .u64 DV]) (by simp [results,Tryz.results152,go_sem,d0,d1,d2]) rfl ⟨by rw [E.out];rfl,zb9 HB.out (by omega)⟩
  · have E:=qq E
    clear HF
    go_wp2_with fail
    refine (hpg.out _ HB.out).mono ?_
    rintro e w2 ⟨⟨lp,N,lc,rfl,hrow⟩,hb2⟩
    have x0:=za0 hb2 x0
    have x1:=za0 hb2 x1
    have x2:=za0 hb2 x2
    have x3:=za0 hb2 x3
    have x4:=za0 hb2 x4
    have x5:=za0 hb2 x5
    have HO:=qq (HO.out.keep hb2)
    have HB:=qq (za3 HB.out hb2)
    have Hrow:=qq hrow
    clear hrow hb2 hpg
    go_wp2_with fail
    refine (hcl.out _ HB.out _ _ _ Hrow.out).mono ?_
    rintro e w3 ⟨rfl,hb3⟩
    have x0:=za0 hb3 x0
    have x1:=za0 hb3 x1
    have x2:=za0 hb3 x2
    have x3:=za0 hb3 x3
    have x4:=za0 hb3 x4
    have x5:=za0 hb3 x5
    have HO:=qq (HO.out.keep hb3)
    have HB:=qq (za3 HB.out hb3)
    clear hb3 hcl Hrow
    go_wp2_with fail
    refine (hdt.out _ HB.out).mono ?_
    rintro e w4 ⟨rfl,hb4⟩
    have x0:=za0 hb4 x0
    have x1:=za0 hb4 x1
    have x2:=za0 hb4 x2
    have x3:=za0 hb4 x3
    have x4:=za0 hb4 x4
    have x5:=za0 hb4 x5
    have HO:=qq (HO.out.keep hb4)
    have HB:=qq (za3 HB.out hb4)
    clear hb4 hdt
    obtain ⟨d0,d1,d2,f0,f1,f2⟩:=HO.out
    clear x0 x1 x2 x3 x4 x5
    go_wp2
    exact bodyPost_ret (v:=.agg #[.int .i64 0,.int .i64 0,.int .u64 0]) (by simp [results,Tryz.results152,go_sem,d0,d1,d2]) rfl ⟨by rw [E.out];rfl,zb9 HB.out (by omega)⟩
end Go.Proofs.YtipjdbhocjpmdaaGreat
