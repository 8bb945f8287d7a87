import Derived.Test.YtipjdbhocjpmdaaGreatQ01
import Derived.Test.YtipjdbhocjpmdaaGreatQ13
import Derived.Test.YtipjdbhocjpmdaaGreatQ24
import Derived.Test.YtipjdbhocjpmdaaGreatQ32
import Derived.Test.YtipjdbhocjpmdaaGreatQ35
import Derived.Test.YtipjdbhocjpmdaaGreatQ36
import Derived.Test.YtipjdbhocjpmdaaGreatQ37
import Derived.Test.YtipjdbhocjpmdaaGreatQ39
import Derived.Test.YtipjdbhocjpmdaaGreatQ40
import Derived.Test.YtipjdbhocjpmdaaGreatQ41
import Derived.Deep.DeepCutAuto
import Derived.Maps.RangeWalk
set_option linter.unusedSimpArgs false
set_option linter.unusedVariables false
set_option maxRecDepth 100000
set_option maxHeartbeats 12800000
namespace Go.Proofs.YtipjdbhocjpmdaaGreat
open Go.RowKit
theorem zk5:IsS Tryz.prog 133 6:=⟨by kernel_rfl,by kernel_rfl⟩
theorem zo1 {P:Program} {w:World} {fn:Func} {tmps:Array Value} {t u a1 a2 a3:Nat} {T U:TypeId} {b b2:Nat} {vs us:List Value} (hr:fn.results=#[.cell t T,.tmp a1,.tmp a2,.cell u U,.tmp a3]) (ht:tmps.getD t undef = .pointer (some ⟨b,0,none⟩)) (hu:tmps.getD u undef = .pointer (some ⟨b2,0,none⟩)) (h:OwnL w b vs) (h2:OwnL w b2 us) (hT:IsS P T vs.length) (hU:IsS P U us.length) :
 (results fn tmps).run P w = .ok (.tuple #[.agg vs.toArray,tmps.getD a1 undef,tmps.getD a2 undef,.agg us.toArray,tmps.getD a3 undef]) w:=by
 obtain ⟨hd0,hi⟩:=hT
 obtain ⟨d,hd,hr'⟩:=Option.map_eq_some_iff.1 hd0
 obtain ⟨hd1,hi1⟩:=hU
 obtain ⟨d1,hd2,hr1⟩:=Option.map_eq_some_iff.1 hd1
 have ht':tmps[t]?.getD undef = .pointer (some ⟨b,0,none⟩):=by simpa using ht
 have hu':tmps[u]?.getD undef = .pointer (some ⟨b2,0,none⟩):=by simpa using hu
 simp [results,hr,ht',hu',asAddr,run_loadVar_mid w b 0 T vs d h.range hd hr' hi,run_loadVar_mid w b2 0 U us d1 h2.range hd2 hr1 hi1]
theorem boxes3' (w:World) (T T2 T3:TypeId) (vs zs us:List Value) :
 OwnL (((w.alloc (.cells vs.toArray T)).alloc (.cells zs.toArray T2)).alloc (.cells us.toArray T3)) w.heap.size vs/\OwnL (((w.alloc (.cells vs.toArray T)).alloc (.cells zs.toArray T2)).alloc (.cells us.toArray T3)) (w.heap.size+1) zs/\OwnL (((w.alloc (.cells vs.toArray T)).alloc (.cells zs.toArray T2)).alloc (.cells us.toArray T3)) (w.heap.size+2) us/\Below w.heap.size w (((w.alloc (.cells vs.toArray T)).alloc (.cells zs.toArray T2)).alloc (.cells us.toArray T3)):=by
 obtain ⟨h1,h2,h3⟩:=boxes2' w T T2 vs zs
 refine ⟨h1.keep za1 (by simp;omega),h2.keep za1 (by simp),?_,za3 h3 za1⟩
 have:=OwnL.new ((w.alloc (.cells vs.toArray T)).alloc (.cells zs.toArray T2)) us T3
 simpa using this
theorem boxes3x (w:World) (T T2 T3:TypeId) (vs zs us:List Value):∃ w1,Hid (((w.alloc (.cells vs.toArray T)).alloc (.cells zs.toArray T2)).alloc (.cells us.toArray T3)=w1)/\OwnL w1 w.heap.size vs/\OwnL w1 (w.heap.size+1) zs/\OwnL w1 (w.heap.size+2) us/\Below w.heap.size w w1:=⟨_,rfl,boxes3' w T T2 T3 vs zs us⟩
def zp2 (x:Wk) (a:Int):Int:=if a=0 then 0 else afterV x a
def clrOne (x:Wk) (r a:Int):Int:=if a=0 then r else if afterV x a=0 then wrap64 (r+1) else r
def collR (h:Hp) (st:List Int):Wk × List Int × Int:=zg2 (zp1 h) [] st
def collA (h:Hp) (st:List Int):Wk × Int:=allV ((zc0 h).length+1) (collR h st).1
def zh6 (h:Hp) (st wk:List Int):Wk:={ (collA h st).1 with r4:=wk.foldl (clrOne (collA h st).1) (collA h st).1.r4 }
def collW (h:Hp) (st wk:List Int):Wk:=freeW (zh8 (zh6 h st wk))
def collE (h:Hp) (st wk:List Int):Int:=if okH h then (if zw2 h st && zw2 h wk then (if (collR h st).2.2=0 then (collA h st).2 else (collR h st).2.2) else 19) else 1
def collH (h:Hp) (st wk:List Int):Hp:={ (collW h st wk).h with space:=1 - (collW h st wk).h.space,bump:=((collW h st wk).taken.getLast?).getD (-1) }
def collS (h:Hp) (st:List Int):List Int:=(collR h st).2.1
def collK (h:Hp) (st wk:List Int):List Int:=wk.map (zp2 (collA h st).1)
def RetCo (er:Int) (H:Hp) (st wk:List Int) (e:Ending) (w':World):Prop:=∃ v sp sn sc kp kn kc r0 r1 r2 r3 r4 r5,e = .returned (.tuple #[v,.slice sp sn sc,.slice kp kn kc,.agg #[.int .i64 r0,.int .i64 r1,.int .i64 r2,.int .i64 r3,.int .i64 r4,.int .i64 r5],.int .i64 er])/\HV w' v H/\SRow w' .u64 sp sn sc st/\SRow w' .u64 kp kn kc wk
def RetC2 (h:Hp) (st wk:List Int) (e:Ending) (w':World):Prop:=(∃ er,er≠0/\collE h st wk=er/\RetCo er Hp.zero [] [] e w')\/(collE h st wk=0/\RetCo 0 (collH h st wk) (collS h st) (collK h st wk) e w')
theorem own_any_other {w:World} {B e s n:Nat} {v:Value} {xs:List Value} (h:w.ownsRow B e s v n xs) (a:Addr) (x:Value) (hne:∀ b,v.ownBlock=some b->b≠a.block):(w.setCell a x).ownsRow B e s v n xs:=by
 rcases h.2 with ⟨rfl,h0⟩ | ⟨g,cap,cur,rfl,-⟩
 · exact ⟨h.1,Or.inl ⟨rfl,h0⟩⟩
 · exact zd0 h a x (hne g rfl)
theorem range_take {w:World} {b:Nat} {vs:List Value} (k:Nat) (h:w.rangeAt b 0 vs):w.rangeAt b 0 (vs.take k):=fun j v hv=>by
 rw [List.getElem?_take] at hv
 split at hv
 · exact h j v hv
 · cases hv
theorem range_drop {w:World} {b:Nat} {vs:List Value} (k:Nat) (h:OwnL w b vs):w.rangeAt b k (vs.drop k):=fun j v hv=>by
 rw [List.getElem?_drop] at hv
 exact h.cell (k+j) v hv
theorem noU_hz:noU [.int .i64 0,.int .i64 0,.slice none 0 0,.slice none 0 0,.int .i64 0,.int .i64 0]:=by
 intro j y hy x
 rcases j with _ | _ | _ | _ | _ | _ | j <;> simp at hy
 all_goals (subst hy;intro e;cases e)
theorem noU_rz:noU [.int .i64 0,.int .i64 0,.int .i64 0,.int .i64 0,.int .i64 0,.int .i64 0]:=by
 intro j y hy x
 rcases j with _ | _ | _ | _ | _ | _ | j <;> simp at hy
 all_goals (subst hy;intro e;cases e)
theorem WR.r4 {w:World} {S:Nat->Prop} {x:Wk} {p q po pt pq:Option Addr} {n c m d no co nt ct nq cq:Nat} (h:WR w S x p q po pt pq n c m d no co nt ct nq cq) (r:Int):WR w S { x with r4:=r } p q po pt pq n c m d no co nt ct nq cq :=
 ⟨h.words,h.pages,h.wb,h.old,h.taken,h.queue,h.ap,h.at_,h.aw,h.ao,h.aq⟩
theorem objects_wb (h:Hp):WB (zc0 h):=fun a ha=>by have:=at_bd (zy5 ha).1;omega
theorem collect_any (h:Hp) (p q sp kp:Option Addr) (n c m d sn sc kn kc:Nat) (st wk:List Int) (w:World) (hs:SRow w .u64 p n c h.words) (hr:PRow w q m d h.pages) (hwb:WB h.words) (hst:SRow w .u64 sp sn sc st) (hwk:SRow w .u64 kp kn kc wk) (hsb:WB st) (hkb:WB wk) (hsn:sn<=100000) (hkn:kn<=100000) :
 Calls Tryz.prog 109 #[(.agg #[.int .i64 h.pw,.int .i64 h.np,.slice p n c,.slice q m d,.int .i64 h.space,.int .i64 h.bump]),.slice sp sn sc,.slice kp kn kc] w fun e w'=>RetC2 h st wk e w'/\Below w.heap.size w w':=by
 have hHV:=qq (fun w' (hb:Below w.heap.size w w')=>(⟨p,n,c,q,m,d,rfl,hs.keep hb,hr.keep hb,hwb⟩:HV w' (.agg #[.int .i64 h.pw,.int .i64 h.np,.slice p n c,.slice q m d,.int .i64 h.space,.int .i64 h.bump]) h))
 have hHS:=qq (fun w' (hb:Below w.heap.size w w')=>hs.keep hb)
 have hHR:=qq (fun w' (hb:Below w.heap.size w w')=>PRow.keep hr hb)
 have hST:=qq (fun w' (hb:Below w.heap.size w w')=>hst.keep hb)
 have hWK:=qq (fun w' (hb:Below w.heap.size w w')=>hwk.keep hb)
 have HWB:=qq hwb
 have HSB:=qq hsb
 have HKB:=qq hkb
 clear hs hr hwb hst hwk hsb hkb
 obtain ⟨w1,hw1,hbx⟩:=boxes3x w 27 27 133 [.int .i64 h.pw,.int .i64 h.np,.slice p n c,.slice q m d,.int .i64 h.space,.int .i64 h.bump] [.int .i64 0,.int .i64 0,.slice none 0 0,.slice none 0 0,.int .i64 0,.int .i64 0] [.int .i64 0,.int .i64 0,.int .i64 0,.int .i64 0,.int .i64 0,.int .i64 0]
 have H0:=qq hbx.1
 have H1:=qq hbx.2.1
 have H2:=qq hbx.2.2.1
 have HB:=qq hbx.2.2.2
 clear hbx
 obtain ⟨OK,hOK⟩:∃ b,Hid (okH h=b):=⟨_,rfl⟩
 have hP:=zz1 w1 (hHV.out w1 HB.out)
 rw [show ze8 h.pw h.np h.words.length h.pages h.space h.bump=OK from hOK.out] at hP
 go_enter Tryz.func109,Tryz.ntmps109
 go_upto_region 1 with fail
 rw [hw1.out]
 clear hw1
 cases OK
 · go_wp2_with (first | ((with_reducible show wpList _ _ _ _ _ _);refine za7 (op:=⟨some 19,.load 27 _,_,_,_,_⟩) rfl _ _ rfl _ rfl _ H0.out zd3 ?_))
   refine hP.mono ?_
   rintro e w2 ⟨rfl,hb2⟩
   replace H0:=qq (H0.out.keep hb2 (H0.out.lt rfl))
   replace H1:=qq (H1.out.keep hb2 (H1.out.lt rfl))
   replace H2:=qq (H2.out.keep hb2 (H2.out.lt rfl))
   replace HB:=qq (za3 HB.out hb2)
   clear hb2 hP
   have hlt0:=H2.out.lt rfl
   go_wp2_with (first | ((with_reducible show wpList _ _ _ _ _ _);refine za6 (op:=⟨none,.store 27 _ _,_,_,_,_⟩) rfl _ _ _ rfl _ ?hx501 [.int .i64 0,.int .i64 0,.slice none 0 0,.slice none 0 0,.int .i64 0,.int .i64 0] _ ?hy501 H1.out rfl rfl zd3 ?_))
   (try (case hx501=>rfl))
   (try (case hy501=>rfl))
   intro wea ho hbt hst
   have hlta:w.heap.size+2 < wea.heap.size:=by have:=H2.out.lt rfl;have:=hbt.size;omega
   replace H2:=qq (H2.out.but hbt (H2.out.lt rfl) (by omega))
   replace HB:=qq (HB.out.trans (hbt.low (by omega) (by omega)))
   clear H1
   have H1:=qq ho
   clear ho hbt hst
   go_wp2_with (first | ((with_reducible show wpList _ _ _ _ _ _);refine za6 (op:=⟨none,.store 133 _ _,_,_,_,_⟩) rfl _ _ _ rfl _ ?hx502 [.int .i64 0,.int .i64 0,.int .i64 0,.int .i64 0,.int .i64 0,.int .i64 0] _ ?hy502 H2.out rfl rfl zk5 ?_))
   (try (case hx502=>rfl))
   (try (case hy502=>rfl))
   intro web ho hbt hst
   replace H1:=qq (H1.out.but hbt (by omega) (by omega))
   replace HB:=qq (HB.out.trans (hbt.low (by omega) (by omega)))
   clear H2
   have H2:=qq ho
   clear ho hbt hst
   go_wp2
   refine bodyPost_ret (zo1 rfl rfl rfl H1.out H2.out zd3 zk5) rfl ?_
   exact ⟨Or.inl ⟨1,by decide,by unfold collE;rw [hOK.out];rfl,⟨_,none,0,0,none,0,0,_,_,_,_,_,_,rfl,HV.zero _,SRow.nil _ _ _,SRow.nil _ _ _⟩⟩,HB.out⟩
 · go_wp2_with (first | ((with_reducible show wpList _ _ _ _ _ _);refine za7 (op:=⟨some 19,.load 27 _,_,_,_,_⟩) rfl _ _ rfl _ rfl _ H0.out zd3 ?_))
   refine hP.mono ?_
   rintro e w2 ⟨rfl,hb2⟩
   replace H0:=qq (H0.out.keep hb2 (H0.out.lt rfl))
   replace H1:=qq (H1.out.keep hb2 (H1.out.lt rfl))
   replace H2:=qq (H2.out.keep hb2 (H2.out.lt rfl))
   replace HB:=qq (za3 HB.out hb2)
   clear hb2 hP
   obtain ⟨R1,hR1⟩:∃ b,Hid (zw2 h st=b):=⟨_,rfl⟩
   obtain ⟨R2,hR2⟩:∃ b,Hid (zw2 h wk=b):=⟨_,rfl⟩
   have hA:=zz3 sp sn sc st w2 (hHV.out w2 HB.out) (hST.out w2 HB.out)
   rw [hR1.out] at hA
   cases R1
   · go_wp2_with (first | ((with_reducible show wpList _ _ _ _ _ _);refine za7 (op:=⟨some 24,.load 27 _,_,_,_,_⟩) rfl _ _ rfl _ rfl _ H0.out zd3 ?_))
     refine hA.mono ?_
     rintro e w3 ⟨rfl,hb3⟩
     replace H0:=qq (H0.out.keep hb3 (H0.out.lt rfl))
     replace H1:=qq (H1.out.keep hb3 (H1.out.lt rfl))
     replace H2:=qq (H2.out.keep hb3 (H2.out.lt rfl))
     replace HB:=qq (za3 HB.out hb3)
     clear hb3 hA
     have hlt0:=H2.out.lt rfl
     go_wp2_with (first | ((with_reducible show wpList _ _ _ _ _ _);refine za6 (op:=⟨none,.store 27 _ _,_,_,_,_⟩) rfl _ _ _ rfl _ ?hx503 [.int .i64 0,.int .i64 0,.slice none 0 0,.slice none 0 0,.int .i64 0,.int .i64 0] _ ?hy503 H1.out rfl rfl zd3 ?_))
     (try (case hx503=>rfl))
     (try (case hy503=>rfl))
     intro wfa ho hbt hst
     have hlta:w.heap.size+2 < wfa.heap.size:=by have:=H2.out.lt rfl;have:=hbt.size;omega
     replace H2:=qq (H2.out.but hbt (H2.out.lt rfl) (by omega))
     replace HB:=qq (HB.out.trans (hbt.low (by omega) (by omega)))
     clear H1
     have H1:=qq ho
     clear ho hbt hst
     go_wp2_with (first | ((with_reducible show wpList _ _ _ _ _ _);refine za6 (op:=⟨none,.store 133 _ _,_,_,_,_⟩) rfl _ _ _ rfl _ ?hx504 [.int .i64 0,.int .i64 0,.int .i64 0,.int .i64 0,.int .i64 0,.int .i64 0] _ ?hy504 H2.out rfl rfl zk5 ?_))
     (try (case hx504=>rfl))
     (try (case hy504=>rfl))
     intro wfb ho hbt hst
     replace H1:=qq (H1.out.but hbt (by omega) (by omega))
     replace HB:=qq (HB.out.trans (hbt.low (by omega) (by omega)))
     clear H2
     have H2:=qq ho
     clear ho hbt hst
     go_wp2
     refine bodyPost_ret (zo1 rfl rfl rfl H1.out H2.out zd3 zk5) rfl ?_
     exact ⟨Or.inl ⟨19,by decide,by unfold collE;rw [hOK.out,hR1.out];rfl,⟨_,none,0,0,none,0,0,_,_,_,_,_,_,rfl,HV.zero _,SRow.nil _ _ _,SRow.nil _ _ _⟩⟩,HB.out⟩
   · cases R2
     · go_wp2_with (first | ((with_reducible show wpList _ _ _ _ _ _);refine za7 (op:=⟨some 24,.load 27 _,_,_,_,_⟩) rfl _ _ rfl _ rfl _ H0.out zd3 ?_))
       refine hA.mono ?_
       rintro e w3 ⟨rfl,hb3⟩
       replace H0:=qq (H0.out.keep hb3 (H0.out.lt rfl))
       replace H1:=qq (H1.out.keep hb3 (H1.out.lt rfl))
       replace H2:=qq (H2.out.keep hb3 (H2.out.lt rfl))
       replace HB:=qq (za3 HB.out hb3)
       clear hb3 hA
       have hA2:=zz3 kp kn kc wk w3 (hHV.out w3 HB.out) (hWK.out w3 HB.out)
       rw [hR2.out] at hA2
       have x0:=H0.out.cell 0 _ rfl
       have x1:=H0.out.cell 1 _ rfl
       have x2:=H0.out.cell 2 _ rfl
       have x3:=H0.out.cell 3 _ rfl
       have x4:=H0.out.cell 4 _ rfl
       have x5:=H0.out.cell 5 _ rfl
       go_wp2_with fail
       refine hA2.mono ?_
       rintro e w4 ⟨rfl,hb4⟩
       clear x0 x1 x2 x3 x4 x5
       replace H0:=qq (H0.out.keep hb4 (H0.out.lt rfl))
       replace H1:=qq (H1.out.keep hb4 (H1.out.lt rfl))
       replace H2:=qq (H2.out.keep hb4 (H2.out.lt rfl))
       replace HB:=qq (za3 HB.out hb4)
       clear hb4 hA2
       have hlt0:=H2.out.lt rfl
       go_wp2_with (first | ((with_reducible show wpList _ _ _ _ _ _);refine za6 (op:=⟨none,.store 27 _ _,_,_,_,_⟩) rfl _ _ _ rfl _ ?hx505 [.int .i64 0,.int .i64 0,.slice none 0 0,.slice none 0 0,.int .i64 0,.int .i64 0] _ ?hy505 H1.out rfl rfl zd3 ?_))
       (try (case hx505=>rfl))
       (try (case hy505=>rfl))
       intro wga ho hbt hst
       have hlta:w.heap.size+2 < wga.heap.size:=by have:=H2.out.lt rfl;have:=hbt.size;omega
       replace H2:=qq (H2.out.but hbt (H2.out.lt rfl) (by omega))
       replace HB:=qq (HB.out.trans (hbt.low (by omega) (by omega)))
       clear H1
       have H1:=qq ho
       clear ho hbt hst
       go_wp2_with (first | ((with_reducible show wpList _ _ _ _ _ _);refine za6 (op:=⟨none,.store 133 _ _,_,_,_,_⟩) rfl _ _ _ rfl _ ?hx506 [.int .i64 0,.int .i64 0,.int .i64 0,.int .i64 0,.int .i64 0,.int .i64 0] _ ?hy506 H2.out rfl rfl zk5 ?_))
       (try (case hx506=>rfl))
       (try (case hy506=>rfl))
       intro wgb ho hbt hst
       replace H1:=qq (H1.out.but hbt (by omega) (by omega))
       replace HB:=qq (HB.out.trans (hbt.low (by omega) (by omega)))
       clear H2
       have H2:=qq ho
       clear ho hbt hst
       go_wp2
       refine bodyPost_ret (zo1 rfl rfl rfl H1.out H2.out zd3 zk5) rfl ?_
       exact ⟨Or.inl ⟨19,by decide,by unfold collE;rw [hOK.out,hR1.out,hR2.out];rfl,⟨_,none,0,0,none,0,0,_,_,_,_,_,_,rfl,HV.zero _,SRow.nil _ _ _,SRow.nil _ _ _⟩⟩,HB.out⟩
     · go_wp2_with (first | ((with_reducible show wpList _ _ _ _ _ _);refine za7 (op:=⟨some 24,.load 27 _,_,_,_,_⟩) rfl _ _ rfl _ rfl _ H0.out zd3 ?_))
       refine hA.mono ?_
       rintro e w3 ⟨rfl,hb3⟩
       replace H0:=qq (H0.out.keep hb3 (H0.out.lt rfl))
       replace H1:=qq (H1.out.keep hb3 (H1.out.lt rfl))
       replace H2:=qq (H2.out.keep hb3 (H2.out.lt rfl))
       replace HB:=qq (za3 HB.out hb3)
       clear hb3 hA
       have hA2:=zz3 kp kn kc wk w3 (hHV.out w3 HB.out) (hWK.out w3 HB.out)
       rw [hR2.out] at hA2
       have x0:=H0.out.cell 0 _ rfl
       have x1:=H0.out.cell 1 _ rfl
       have x2:=H0.out.cell 2 _ rfl
       have x3:=H0.out.cell 3 _ rfl
       have x4:=H0.out.cell 4 _ rfl
       have x5:=H0.out.cell 5 _ rfl
       go_wp2_with fail
       refine hA2.mono ?_
       rintro e w4 ⟨rfl,hb4⟩
       clear x0 x1 x2 x3 x4 x5
       replace H0:=qq (H0.out.keep hb4 (H0.out.lt rfl))
       replace H1:=qq (H1.out.keep hb4 (H1.out.lt rfl))
       replace H2:=qq (H2.out.keep hb4 (H2.out.lt rfl))
       replace HB:=qq (za3 HB.out hb4)
       clear hb4 hA2
       have hg:goodB h=true:=by have h1:=hR1.out;unfold zw2 at h1;rw [Bool.and_eq_true] at h1;exact h1.1
       have I0:=begin_inv hOK.out
       obtain ⟨hRK,hRI⟩:=roots_ok st (zp1 h) [] I0 HSB.out
       have hCE:=qq (show collE h st wk=if (collR h st).2.2=0 then (collA h st).2 else (collR h st).2.2 from by unfold collE;rw [hOK.out,hR1.out,hR2.out];rfl)
       have HRI:=qq hRI
       have hBg:=begin_any h p q n c m d w4 (hHS.out w4 HB.out) (hHR.out w4 HB.out) HWB.out hg
       clear I0 hRI
       have HRK:=qq hRK
       clear hRK hg
       go_wp2_with (first | ((with_reducible show wpList _ _ _ _ _ _);refine za7 (op:=⟨some 37,.load 27 _,_,_,_,_⟩) rfl _ _ rfl _ rfl _ H0.out zd3 ?_))
       refine hBg.mono ?_
       rintro e w5 ⟨⟨v5,rfl,p5,q5,po5,pt5,pq5,n5,c5,m5,d5,no5,co5,nt5,ct5,nq5,cq5,rfl,hwr5⟩,hb5⟩
       obtain ⟨X5,hX5⟩:∃ X5,Hid (zp1 h=X5):=⟨_,rfl⟩
       rw [hX5.out] at hwr5 ⊢
       replace H0:=qq (H0.out.keep hb5 (H0.out.lt rfl))
       replace H1:=qq (H1.out.keep hb5 (H1.out.lt rfl))
       replace H2:=qq (H2.out.keep hb5 (H2.out.lt rfl))
       replace HB:=qq (za3 HB.out hb5)
       clear hb5 hBg
       have h25:w.heap.size+2 < w5.heap.size:=H2.out.lt rfl
       have HN:=qq (OwnL.new w5 [.int .i64 0,.int .i64 0,.slice none 0 0,.slice none 0 0,.int .i64 0,.int .i64 0,.slice none 0 0,.slice none 0 0,.slice none 0 0,.int .i64 0,.int .i64 0,.int .i64 0,.int .i64 0,.int .i64 0,.int .i64 0,.int .i64 0] 146)
       go_wp2_with (first | ((with_reducible show wpList _ _ _ _ _ _);refine za6 (op:=⟨none,.store 146 _ _,_,_,_,_⟩) rfl _ _ _ rfl _ ?hx507 [.int .i64 X5.h.pw,.int .i64 X5.h.np,.slice p5 n5 c5,.slice q5 m5 d5,.int .i64 X5.h.space,.int .i64 X5.h.bump,.slice po5 no5 co5,.slice pt5 nt5 ct5,.slice pq5 nq5 cq5,.int .i64 X5.sc,.int .i64 X5.r0,.int .i64 X5.r1,.int .i64 X5.r2,.int .i64 X5.r3,.int .i64 X5.r4,.int .i64 X5.r5] _ ?hy507 HN.out rfl rfl za8 ?_))
       (try (case hx507=>rfl))
       (try (case hy507=>rfl))
       intro w6 ho hbt hst
       have hb6:Below w5.heap.size w5 w6:=za1.trans (hbt.low (Nat.le_refl _) (by simp))
       have HR:=qq (((hwr5.also (fun b=>b=w5.heap.size) (fun b hb=>by omega)).mono (S:=fun b=>b=w5.heap.size) (fun b hb=>Or.inr hb)).keep hb6)
       have Hw:=qq ho
       clear ho hbt hst HN hwr5
       replace H0:=qq (H0.out.keep hb6 (H0.out.lt rfl))
       replace H1:=qq (H1.out.keep hb6 (H1.out.lt rfl))
       replace H2:=qq (H2.out.keep hb6 (H2.out.lt rfl))
       replace HB:=qq (za3 HB.out hb6)
       clear hb6
       obtain ⟨wb,hwb⟩:∃ b,w5.heap.size=b:=⟨_,rfl⟩
       rw [hwb] at HR Hw ⊢
       have hwb2:w.heap.size+2 < wb:=by omega
       clear hwb h25
       have hSS:∀ b,(fun b=>b=wb) b->b < w6.heap.size:=fun b hb=>by have:=Hw.out.lt rfl;simp only at hb;omega
       have hRo:=roots_any (fun b=>b=wb) X5 p5 q5 po5 pt5 pq5 n5 c5 m5 d5 no5 co5 nt5 ct5 nq5 cq5 sp sn sc st w6 HR.out hSS (hST.out w6 HB.out) (by rw [<-hX5.out];exact HRK.out) hsn
       rw [show (zg2 X5 [] st)=collR h st from by rw [<-hX5.out];rfl] at hRo
       obtain ⟨X7,hX7⟩:∃ X,Hid ((collR h st).1=X):=⟨_,rfl⟩
       obtain ⟨RL,hRL⟩:∃ X,Hid ((collR h st).2.1=X):=⟨_,rfl⟩
       obtain ⟨E7,hE7⟩:∃ X,Hid ((collR h st).2.2=X):=⟨_,rfl⟩
       rw [hX7.out,hRL.out,hE7.out] at hRo
       rw [hE7.out] at hCE
       go_wp2_with (first | ((with_reducible show wpList _ _ _ _ _ _);refine za7 (op:=⟨some 42,.load 146 _,_,_,_,_⟩) rfl _ _ rfl _ rfl _ Hw.out za8 ?_))
       refine hRo.mono ?_
       rintro e w7 ⟨⟨v7,rq,rm,rc,rfl,⟨p7,q7,po7,pt7,pq7,n7,c7,m7,d7,no7,co7,nt7,ct7,nq7,cq7,rfl,hwr7⟩,hrl7⟩,hb7⟩
       replace H0:=qq (H0.out.keep hb7 (H0.out.lt rfl))
       replace H1:=qq (H1.out.keep hb7 (H1.out.lt rfl))
       replace H2:=qq (H2.out.keep hb7 (H2.out.lt rfl))
       replace Hw:=qq (Hw.out.keep hb7 (Hw.out.lt rfl))
       replace HB:=qq (za3 HB.out hb7)
       clear hb7 hRo HR hSS
       have HR:=qq hwr7
       have HRW:=qq hrl7
       clear hwr7 hrl7
       go_wp2_with (first | ((with_reducible show wpList _ _ _ _ _ _);refine za6 (op:=⟨none,.store 146 _ _,_,_,_,_⟩) rfl _ _ _ rfl _ ?hx508 [.int .i64 X7.h.pw,.int .i64 X7.h.np,.slice p7 n7 c7,.slice q7 m7 d7,.int .i64 X7.h.space,.int .i64 X7.h.bump,.slice po7 no7 co7,.slice pt7 nt7 ct7,.slice pq7 nq7 cq7,.int .i64 X7.sc,.int .i64 X7.r0,.int .i64 X7.r1,.int .i64 X7.r2,.int .i64 X7.r3,.int .i64 X7.r4,.int .i64 X7.r5] _ ?hy508 Hw.out rfl rfl za8 ?_))
       (try (case hx508=>rfl))
       (try (case hy508=>rfl))
       intro w8 ho hbt hst
       replace HR:=qq (HR.out.stored rfl Hw.out (zd1 X5 p5 q5 po5 pt5 pq5 n5 c5 m5 d5 no5 co5 nt5 ct5 nq5 cq5) (by simp) hst)
       have hHRW:=zc3 [.int .i64 X7.h.pw,.int .i64 X7.h.np,.slice p7 n7 c7,.slice q7 m7 d7,.int .i64 X7.h.space,.int .i64 X7.h.bump,.slice po7 no7 co7,.slice pt7 nt7 ct7,.slice pq7 nq7 cq7,.int .i64 X7.sc,.int .i64 X7.r0,.int .i64 X7.r1,.int .i64 X7.r2,.int .i64 X7.r3,.int .i64 X7.r4,.int .i64 X7.r5] 0 _ _ HRW.out Hw.out (fun j y _=>(zd1 X5 p5 q5 po5 pt5 pq5 n5 c5 m5 d5 no5 co5 nt5 ct5 nq5 cq5) j y) (by simp)
       rw [<-zb7,<-hst.out] at hHRW
       replace HRW:=qq hHRW
       clear hHRW
       have hlw:wb < w7.heap.size:=Hw.out.lt rfl
       replace H0:=qq (H0.out.but hbt (H0.out.lt rfl) (by omega))
       replace H1:=qq (H1.out.but hbt (H1.out.lt rfl) (by omega))
       replace H2:=qq (H2.out.but hbt (H2.out.lt rfl) (by omega))
       replace HB:=qq (HB.out.trans (hbt.low (by omega) (by omega)))
       clear Hw hlw
       have Hw:=qq ho
       clear ho hbt hst
       by_cases h70:E7=0
       rotate_left
       · have h7n:(E7 != 0)=true:=bne_iff_ne.2 h70
         have H7:=qq h70
         clear h70
         have hlt0:=H2.out.lt rfl
         go_wp2_with (first | ((with_reducible show wpList _ _ _ _ _ _);refine za6 (op:=⟨none,.store 27 _ _,_,_,_,_⟩) rfl _ _ _ rfl _ ?hx509 [.int .i64 0,.int .i64 0,.slice none 0 0,.slice none 0 0,.int .i64 0,.int .i64 0] _ ?hy509 H1.out rfl rfl zd3 ?_))
         (try (case hx509=>rfl))
         (try (case hy509=>rfl))
         intro wha ho hbt hst
         have hlta:w.heap.size+2 < wha.heap.size:=by have:=H2.out.lt rfl;have:=hbt.size;omega
         replace H2:=qq (H2.out.but hbt (H2.out.lt rfl) (by omega))
         replace HB:=qq (HB.out.trans (hbt.low (by omega) (by omega)))
         clear H1
         have H1:=qq ho
         clear ho hbt hst
         go_wp2_with (first | ((with_reducible show wpList _ _ _ _ _ _);refine za6 (op:=⟨none,.store 133 _ _,_,_,_,_⟩) rfl _ _ _ rfl _ ?hx510 [.int .i64 0,.int .i64 0,.int .i64 0,.int .i64 0,.int .i64 0,.int .i64 0] _ ?hy510 H2.out rfl rfl zk5 ?_))
         (try (case hx510=>rfl))
         (try (case hy510=>rfl))
         intro whb ho hbt hst
         replace H1:=qq (H1.out.but hbt (by omega) (by omega))
         replace HB:=qq (HB.out.trans (hbt.low (by omega) (by omega)))
         clear H2
         have H2:=qq ho
         clear ho hbt hst
         go_wp2
         refine bodyPost_ret (zo1 rfl rfl rfl H1.out H2.out zd3 zk5) rfl ?_
         exact ⟨Or.inl ⟨E7,H7.out,by rw [hCE.out,if_neg H7.out],⟨_,none,0,0,none,0,0,_,_,_,_,_,_,rfl,HV.zero _,SRow.nil _ _ _,SRow.nil _ _ _⟩⟩,HB.out⟩
       subst h70
       rw [if_pos rfl] at hCE
       obtain ⟨I7,L7,-⟩:=HRI.out hE7.out
       rw [show (zg2 (zp1 h) [] st).1=X7 from hX7.out] at I7 L7
       have hsc7:X7.sc=((0:Nat):Int):=L7.sc
       obtain ⟨hAO,hAI⟩:=all_ok ((zc0 h).length+1) X7 0 I7 hsc7 (Nat.zero_le _) (by omega)
       have HAI:=qq hAI
       clear hAI L7 HRI hsc7
       have hwl7:=I7.fwok.wl
       have hAl:=refAll_any (fun b=>b=wb) X7 p7 q7 po7 pt7 pq7 n7 c7 m7 d7 no7 co7 nt7 ct7 nq7 cq7 ((zc0 h).length+1) w8 HR.out (fun b hb=>by have h1:b=wb:=hb;have:=Hw.out.lt rfl;omega) hAO
       clear hAO I7 hwl7
       rw [show allV ((zc0 h).length+1) X7=collA h st from by rw [<-hX7.out];rfl] at hAl HAI
       obtain ⟨X9,hX9⟩:∃ X,Hid ((collA h st).1=X):=⟨_,rfl⟩
       obtain ⟨E9,hE9⟩:∃ X,Hid ((collA h st).2=X):=⟨_,rfl⟩
       rw [hX9.out,hE9.out] at hAl HAI
       rw [hE9.out] at hCE
       go_wp2_with (first | ((with_reducible show wpList _ _ _ _ _ _);refine za7 (op:=⟨some 54,.load 146 _,_,_,_,_⟩) rfl _ _ rfl _ rfl _ Hw.out za8 ?_))
       refine hAl.mono ?_
       rintro e w9 ⟨⟨v9,rfl,p9,q9,po9,pt9,pq9,n9,c9,m9,d9,no9,co9,nt9,ct9,nq9,cq9,rfl,hwr9⟩,hb9⟩
       replace H0:=qq (H0.out.keep hb9 (H0.out.lt rfl))
       replace H1:=qq (H1.out.keep hb9 (H1.out.lt rfl))
       replace H2:=qq (H2.out.keep hb9 (H2.out.lt rfl))
       replace Hw:=qq (Hw.out.keep hb9 (Hw.out.lt rfl))
       replace HB:=qq (za3 HB.out hb9)
       replace HRW:=qq (HRW.out.keep hb9)
       clear hb9 hAl HR
       have HR:=qq hwr9
       clear hwr9
       go_wp2_with (first | ((with_reducible show wpList _ _ _ _ _ _);refine za6 (op:=⟨none,.store 146 _ _,_,_,_,_⟩) rfl _ _ _ rfl _ ?hx511 [.int .i64 X9.h.pw,.int .i64 X9.h.np,.slice p9 n9 c9,.slice q9 m9 d9,.int .i64 X9.h.space,.int .i64 X9.h.bump,.slice po9 no9 co9,.slice pt9 nt9 ct9,.slice pq9 nq9 cq9,.int .i64 X9.sc,.int .i64 X9.r0,.int .i64 X9.r1,.int .i64 X9.r2,.int .i64 X9.r3,.int .i64 X9.r4,.int .i64 X9.r5] _ ?hy511 Hw.out rfl rfl za8 ?_))
       (try (case hx511=>rfl))
       (try (case hy511=>rfl))
       intro w10 ho hbt hst
       replace HR:=qq (HR.out.stored rfl Hw.out (zd1 X7 p7 q7 po7 pt7 pq7 n7 c7 m7 d7 no7 co7 nt7 ct7 nq7 cq7) (by simp) hst)
       have hHRW:=zc3 [.int .i64 X9.h.pw,.int .i64 X9.h.np,.slice p9 n9 c9,.slice q9 m9 d9,.int .i64 X9.h.space,.int .i64 X9.h.bump,.slice po9 no9 co9,.slice pt9 nt9 ct9,.slice pq9 nq9 cq9,.int .i64 X9.sc,.int .i64 X9.r0,.int .i64 X9.r1,.int .i64 X9.r2,.int .i64 X9.r3,.int .i64 X9.r4,.int .i64 X9.r5] 0 _ _ HRW.out Hw.out (fun j y _=>(zd1 X7 p7 q7 po7 pt7 pq7 n7 c7 m7 d7 no7 co7 nt7 ct7 nq7 cq7) j y) (by simp)
       rw [<-zb7,<-hst.out] at hHRW
       replace HRW:=qq hHRW
       clear hHRW
       have hlw:wb < w9.heap.size:=Hw.out.lt rfl
       replace H0:=qq (H0.out.but hbt (H0.out.lt rfl) (by omega))
       replace H1:=qq (H1.out.but hbt (H1.out.lt rfl) (by omega))
       replace H2:=qq (H2.out.but hbt (H2.out.lt rfl) (by omega))
       replace HB:=qq (HB.out.trans (hbt.low (by omega) (by omega)))
       clear Hw hlw
       have Hw:=qq ho
       clear ho hbt hst
       by_cases h90:E9=0
       rotate_left
       · have h9n:(E9 != 0)=true:=bne_iff_ne.2 h90
         have H9:=qq h90
         clear h90
         have hlt0:=H2.out.lt rfl
         go_wp2_with (first | ((with_reducible show wpList _ _ _ _ _ _);refine za6 (op:=⟨none,.store 27 _ _,_,_,_,_⟩) rfl _ _ _ rfl _ ?hx512 [.int .i64 0,.int .i64 0,.slice none 0 0,.slice none 0 0,.int .i64 0,.int .i64 0] _ ?hy512 H1.out rfl rfl zd3 ?_))
         (try (case hx512=>rfl))
         (try (case hy512=>rfl))
         intro wia ho hbt hst
         have hlta:w.heap.size+2 < wia.heap.size:=by have:=H2.out.lt rfl;have:=hbt.size;omega
         replace H2:=qq (H2.out.but hbt (H2.out.lt rfl) (by omega))
         replace HB:=qq (HB.out.trans (hbt.low (by omega) (by omega)))
         clear H1
         have H1:=qq ho
         clear ho hbt hst
         go_wp2_with (first | ((with_reducible show wpList _ _ _ _ _ _);refine za6 (op:=⟨none,.store 133 _ _,_,_,_,_⟩) rfl _ _ _ rfl _ ?hx513 [.int .i64 0,.int .i64 0,.int .i64 0,.int .i64 0,.int .i64 0,.int .i64 0] _ ?hy513 H2.out rfl rfl zk5 ?_))
         (try (case hx513=>rfl))
         (try (case hy513=>rfl))
         intro wib ho hbt hst
         replace H1:=qq (H1.out.but hbt (by omega) (by omega))
         replace HB:=qq (HB.out.trans (hbt.low (by omega) (by omega)))
         clear H2
         have H2:=qq ho
         clear ho hbt hst
         go_wp2
         refine bodyPost_ret (zo1 rfl rfl rfl H1.out H2.out zd3 zk5) rfl ?_
         exact ⟨Or.inl ⟨E9,H9.out,hCE.out,⟨_,none,0,0,none,0,0,_,_,_,_,_,_,rfl,HV.zero _,SRow.nil _ _ _,SRow.nil _ _ _⟩⟩,HB.out⟩
       subst h90
       have I9:=qq (HAI.out rfl)
       clear HAI
       have hB0:∃ B0,w10.heap.size=B0:=⟨_,rfl⟩
       obtain ⟨B0,hB0⟩:=hB0
       have HR3:=HR.out.also (fun b=>B0<=b) (fun b hb=>by omega)
       clear HR
       have HR:=qq HR3
       clear HR3
       have HRF:=qq (show RL≠[]->∀ ad,rq=some ad->ad.block < B0 from fun hne ad e=>by
        have h1:=List.length_pos_iff.2 hne
        have h2:=HRW.out.len
        obtain ⟨y,b,off,hy,e1,y0⟩:=HRW.out.at_ (k:=0) (by omega)
        rw [e] at e1
        injection e1 with e1
        subst e1
        have h3:=zb4 y0
        simp only at h3 ⊢
        omega)
       have hwbB:wb < B0:=by have:=Hw.out.lt rfl;omega
       have hB0w:w.heap.size+2 < B0:=by omega
       have hn9:n9<=100000:=by have h1:=HR.out.words.len;have h2:=I9.out.fwok.wl;omega
       have hBB:B0<=w10.heap.size:=by omega
       clear hB0
       go_wp2_with fail
       go_loopw [15,16] (fun u j wr=>∃ (k:Nat) (r:Int),j = .int .i64 k/\k<=kn/\r=(wk.take k).foldl (clrOne X9) X9.r4/\wr.ownsRow B0 48 1 u k (zb2 .u64 ((wk.map (zp2 X9)).take k))/\OwnL wr wb [.int .i64 X9.h.pw,.int .i64 X9.h.np,.slice p9 n9 c9,.slice q9 m9 d9,.int .i64 X9.h.space,.int .i64 X9.h.bump,.slice po9 no9 co9,.slice pt9 nt9 ct9,.slice pq9 nq9 cq9,.int .i64 X9.sc,.int .i64 X9.r0,.int .i64 X9.r1,.int .i64 X9.r2,.int .i64 X9.r3,.int .i64 r,.int .i64 X9.r5]/\OwnL wr w.heap.size [.int .i64 h.pw,.int .i64 h.np,.slice p n c,.slice q m d,.int .i64 h.space,.int .i64 h.bump]/\OwnL wr (w.heap.size+1) [.int .i64 0,.int .i64 0,.slice none 0 0,.slice none 0 0,.int .i64 0,.int .i64 0]/\OwnL wr (w.heap.size+2) [.int .i64 0,.int .i64 0,.int .i64 0,.int .i64 0,.int .i64 0,.int .i64 0]/\Below w.heap.size w wr/\B0<=wr.heap.size/\SRow wr .u64 rq rm rc RL/\WR wr (fun b=>b=wb\/B0<=b) X9 p9 q9 po9 pt9 pq9 n9 c9 m9 d9 no9 co9 nt9 ct9 nq9 cq9) (fun _ j _=>kn - (intOf j).toNat)
       case atStart=>exact ⟨0,X9.r4,rfl,Nat.zero_le _,rfl,World.ownsRow_nil _ _ _ _,Hw.out,H0.out,H1.out,H2.out,HB.out,hBB,HRW.out,HR.out⟩
       case round =>
        obtain ⟨k,r,rfl,hk,hr,hown,hw,h0,h1,h2,hB,hBB2,hrw,hR⟩:=hrel
        clear Hw H0 H1 H2 HB HRW HR hBB
        have Hw:=qq hw
        have H0:=qq h0
        have H1:=qq h1
        have H2:=qq h2
        have HB:=qq hB
        have HRW:=qq hrw
        have HR:=qq hR
        have Hown:=qq hown
        have HRr:=qq hr
        have HWK:=qq (hWK.out wr hB)
        clear hw h0 h1 h2 hB hrw hR hown hr
        by_cases hlt:k < kn
        · obtain ⟨A,bl,ol,hA,hpl,d0⟩:=HWK.out.at_ hlt
          subst hpl
          obtain ⟨hA0,hA1⟩:=HKB.out A (List.mem_of_getElem? hA)
          have HTK:=qq (zi9 hA)
          have HTM:=qq (zi9 (l:=wk.map (zp2 X9)) (k:=k) (x:=zp2 X9 A) (by rw [List.getElem?_map,hA];rfl))
          have hlt2:(k:Int) < kn:=by omega
          have e9:IntKind.i64.wrap ((k:Int)+1)=((k+1:Nat):Int):=by rw [IntWalk.i64_in _ (by omega)];rfl
          clear hA HWK
          have hwa:w.heap.size < wr.heap.size:=H0.out.lt rfl
          have hwc:w.heap.size+2 < wr.heap.size:=H2.out.lt rfl
          have hww:wb < wr.heap.size:=Hw.out.lt rfl
          by_cases hA9:A=0
          · subst hA9
            obtain ⟨i0,hin,hz0,hz1,hz2⟩:=info_parts zf2
            go_wp2_with (at_builtin;refine zd7 rfl _ _ 24 rfl B0 48 i0 (.int .u64 0) 8 Tryz.underlying24 hin hz0 hz1 hz2 rfl u15 k _ rfl (Hown.out.alloc _) (some ⟨wr.heap.size,0,none⟩) 1 1 .u64 [0] rfl (zl7 wr 48 0) ?c3 ?c4 ?c5 ?_)
            case c3=>unfold maxLen;omega
            case c4=>omega
            case c5=>simp;omega
            intro v4 w12 hown4 hgrow4
            rw [ze4] at hown4
            have hbx:=za1 (w:=wr) (o:=.cells #[.int .u64 0] 48)
            have hrow:∀ b,u15.ownBlock=some b->B0<=b:=fun b hb=>(Hown.out.lt b hb).1
            have hsz1:(wr.alloc (.cells #[.int .u64 0] 48)).heap.size=wr.heap.size+1:=by simp
            have hsz4:=hgrow4.size
            have hq0:=(H0.out.keep hbx (H0.out.lt rfl)).grown hgrow4 (by omega) (fun e=>by have:=hrow _ e.symm;omega)
            have hq1:=(H1.out.keep hbx (H1.out.lt rfl)).grown hgrow4 (by omega) (fun e=>by have:=hrow _ e.symm;omega)
            have hq2:=(H2.out.keep hbx (H2.out.lt rfl)).grown hgrow4 (by omega) (fun e=>by have:=hrow _ e.symm;omega)
            have hqw:=(Hw.out.keep hbx (Hw.out.lt rfl)).grown hgrow4 (by omega) (fun e=>by have:=hrow _ e.symm;omega)
            have hqB:=(za3 HB.out hbx).grown hgrow4 (by omega) (fun b hb=>by have:=hrow _ hb;omega)
            have hqR:=(HR.out.keep hbx).grown hgrow4 (fun b hb=>Or.inr (hrow b hb))
            have hqW:=(HRW.out.keep hbx).grown hgrow4 (fun hne ad e e2=>by have h1:=HRF.out hne ad e;have h2:=hrow _ e2.symm;omega)
            have Q0:=qq hq0
            have Q1:=qq hq1
            have Q2:=qq hq2
            have Qw:=qq hqw
            have QB:=qq hqB
            have QR:=qq hqR
            have QW:=qq hqW
            have QO:=qq hown4
            clear hq0 hq1 hq2 hqw hqB hqR hqW hown4 hgrow4 hbx hin hz0 hz1 hz2
            go_wp2
            go_roundw
            case rel=>exact ⟨k+1,r,by go_num,by omega,by rw [HTK.out,List.foldl_append,<-HRr.out];rfl,by rw [HTM.out,show zp2 X9 0=0 from by simp [zp2]];exact QO.out,Qw.out,Q0.out,Q1.out,Q2.out,QB.out,by omega,QW.out,QR.out⟩
            case measure=>simp [intOf];omega
          · have hAn:(A != 0)=true:=bne_iff_ne.2 hA9
            have HA9:=qq hA9
            clear hA9
            have hAf:=qq (fun W (hB:Below wr.heap.size wr W)=>refafter_any (fun b=>b=wb\/B0<=b) { X9 with r4:=r } p9 q9 po9 pt9 pq9 n9 c9 m9 d9 no9 co9 nt9 ct9 nq9 cq9 A W ((HR.out.keep hB).r4 r) hn9 hA0 hA1)
            obtain ⟨AV,hAV⟩:∃ V,Hid (afterV X9 A=V):=⟨_,rfl⟩
            rw [show afterV { X9 with r4:=r } A=AV from hAV.out] at hAf
            have hSof:=qq (fun W (hB:Below wr.heap.size wr W)=>(⟨(Hw.out.keep hB hww).range,za0 hB d0⟩:(fun W=>W.rangeAt wb 0 [.int .i64 X9.h.pw,.int .i64 X9.h.np,.slice p9 n9 c9,.slice q9 m9 d9,.int .i64 X9.h.space,.int .i64 X9.h.bump,.slice po9 no9 co9,.slice pt9 nt9 ct9,.slice pq9 nq9 cq9,.int .i64 X9.sc,.int .i64 X9.r0,.int .i64 X9.r1,.int .i64 X9.r2,.int .i64 X9.r3,.int .i64 r,.int .i64 X9.r5]/\W.cell? ⟨bl,ol+k,none⟩=some (.int .u64 A)) W))
            go_upto_region 18 with fail
            obtain ⟨hud,hui⟩:=za8
            obtain ⟨dd,hdd,hdr⟩:=Option.map_eq_some_iff.1 hud
            refine wp_region_held_drew (S:=fun W=>W.rangeAt wb 0 [.int .i64 X9.h.pw,.int .i64 X9.h.np,.slice p9 n9 c9,.slice q9 m9 d9,.int .i64 X9.h.space,.int .i64 X9.h.bump,.slice po9 no9 co9,.slice pt9 nt9 ct9,.slice pq9 nq9 cq9,.int .i64 X9.sc,.int .i64 X9.r0,.int .i64 X9.r1,.int .i64 X9.r2,.int .i64 X9.r3,.int .i64 r,.int .i64 X9.r5]/\W.cell? ⟨bl,ol+k,none⟩=some (.int .u64 A)) (by kernel_rfl) (hSof.out _ (Below.drew (Below.refl _ _))) (fun hHeld=>?_)
            refine wpAnyH_take (i:=0) (oi:=⟨some 74,.load 146 (.tmp 11),_,_,_,_⟩) (v:=_) rfl (by kernel_rfl) (by kernel_rfl) (by kernel_rfl) (fun _ _ _ h=>h) (yieldsIf_load_mid (by rfl) _ _ rfl wb 0 rfl [.int .i64 X9.h.pw,.int .i64 X9.h.np,.slice p9 n9 c9,.slice q9 m9 d9,.int .i64 X9.h.space,.int .i64 X9.h.bump,.slice po9 no9 co9,.slice pt9 nt9 ct9,.slice pq9 nq9 cq9,.int .i64 X9.sc,.int .i64 X9.r0,.int .i64 X9.r1,.int .i64 X9.r2,.int .i64 X9.r3,.int .i64 r,.int .i64 X9.r5] dd (fun W h=>h.1) hdd hdr hui) hHeld ?_
            go_frame
            refine draw_t 1 75 hHeld ?_
            refine draw_t 2 76 hHeld ?_
            refine draw_t 3 77 hHeld ?_
            refine draw_t 4 78 hHeld ?_
            refine rdy1 5 (fun K hK=>?_)
            go_simp
            (go_at_call 127;refine (hAf.out _ ((Below.refl _ _).drew)).mono ?_;rintro e w11 ⟨rfl,hbq⟩)
            go_wp2_with fail
            refine hK.out _ _ (hSof.out _ ((Below.refl _ _).drew.trans (by simpa using hbq))) (fun hHeld=>?_)
            clear hK K
            try go_frame
            have hb11:Below wr.heap.size wr w11:=(Below.refl _ _).drew.trans (by simpa using hbq)
            clear hbq
            refine draw_t 6 17 hHeld ?_
            refine wpAnyH_done (by kernel_rfl) ?_ _
            clear hAf hSof hud hui hdd hdr
            replace H0:=qq (H0.out.keep hb11 (H0.out.lt rfl))
            replace H1:=qq (H1.out.keep hb11 (H1.out.lt rfl))
            replace H2:=qq (H2.out.keep hb11 (H2.out.lt rfl))
            replace Hw:=qq (Hw.out.keep hb11 (Hw.out.lt rfl))
            replace HB:=qq (za3 HB.out hb11)
            replace HR:=qq (HR.out.keep hb11)
            replace HRW:=qq (HRW.out.keep hb11)
            replace Hown:=qq (zb5 Hown.out hb11)
            have hsz11:=hb11.size
            clear hb11 d0
            by_cases hV9:AV=0
            · subst hV9
              have c14:=Hw.out.cell 14 _ rfl
              have f14:=Hw.out.free 14
              go_upto_region 21 with fail
              clear c14 f14
              obtain ⟨w12,hset⟩:∃ W,Hid (w11.setCell ⟨wb,14,none⟩ (.int .i64 (wrap64 (r+1)))=W):=⟨_,rfl⟩
              rw [hset.out]
              have hlw:wb < w11.heap.size:=Hw.out.lt rfl
              have hbt:But wb w11 w12:=by rw [<-hset.out];exact (But.refl wb w11).set 14 _
              replace H0:=qq (H0.out.but hbt (H0.out.lt rfl) (by omega))
              replace H1:=qq (H1.out.but hbt (H1.out.lt rfl) (by omega))
              replace H2:=qq (H2.out.but hbt (H2.out.lt rfl) (by omega))
              replace HB:=qq (HB.out.trans (hbt.low (by omega) (by omega)))
              have hrw2:=zc3 (b:=wb) [.int .i64 (wrap64 (r+1))] 14 _ _ HRW.out Hw.out (fun j y _=>(zd1 { X9 with r4:=r } p9 q9 po9 pt9 pq9 n9 c9 m9 d9 no9 co9 nt9 ct9 nq9 cq9) j y) (by simp)
              have hR2:=zi6 HR.out Hw.out (zd1 { X9 with r4:=r } p9 q9 po9 pt9 pq9 n9 c9 m9 d9 no9 co9 nt9 ct9 nq9 cq9) (Or.inl rfl) [.int .i64 (wrap64 (r+1))] 14 (by simp)
              rw [show setL w11 wb 14 [.int .i64 (wrap64 (r+1))]=w12 from hset.out] at hrw2 hR2
              have hown2:w12.ownsRow B0 48 1 u15 k (zb2 .u64 ((wk.map (zp2 X9)).take k)):=by
               rw [<-hset.out];exact own_any_other Hown.out ⟨wb,14,none⟩ (.int .i64 (wrap64 (r+1))) (fun b hb=>by have:=(Hown.out.lt b hb).1;simp only;omega)
              have hw2:=Hw.out.set 14 (.int .i64 (wrap64 (r+1))) (by simp)
              rw [hset.out] at hw2
              replace HRW:=qq hrw2
              replace HR:=qq hR2
              replace Hown:=qq hown2
              clear Hw
              have Hw:=qq (show OwnL w12 wb [.int .i64 X9.h.pw,.int .i64 X9.h.np,.slice p9 n9 c9,.slice q9 m9 d9,.int .i64 X9.h.space,.int .i64 X9.h.bump,.slice po9 no9 co9,.slice pt9 nt9 ct9,.slice pq9 nq9 cq9,.int .i64 X9.sc,.int .i64 X9.r0,.int .i64 X9.r1,.int .i64 X9.r2,.int .i64 X9.r3,.int .i64 (wrap64 (r+1)),.int .i64 X9.r5] from hw2)
              have hsz12:=hbt.size
              clear hset hrw2 hR2 hown2 hw2 hbt hlw
              obtain ⟨i0,hin,hz0,hz1,hz2⟩:=info_parts zf2
              go_wp2_with (at_builtin;refine zd7 rfl _ _ 24 rfl B0 48 i0 (.int .u64 0) 8 Tryz.underlying24 hin hz0 hz1 hz2 rfl u15 k _ rfl (Hown.out.alloc _) (some ⟨w12.heap.size,0,none⟩) 1 1 .u64 [0] rfl (zl7 w12 48 0) ?c3 ?c4 ?c5 ?_)
              case c3=>unfold maxLen;omega
              case c4=>omega
              case c5=>simp;omega
              intro v4 w13 hown4 hgrow4
              rw [ze4] at hown4
              have hbx:=za1 (w:=w12) (o:=.cells #[.int .u64 0] 48)
              have hrow:∀ b,u15.ownBlock=some b->B0<=b:=fun b hb=>(Hown.out.lt b hb).1
              have hsz1:(w12.alloc (.cells #[.int .u64 0] 48)).heap.size=w12.heap.size+1:=by simp
              have hsz4:=hgrow4.size
              have hq0:=(H0.out.keep hbx (H0.out.lt rfl)).grown hgrow4 (by omega) (fun e=>by have:=hrow _ e.symm;omega)
              have hq1:=(H1.out.keep hbx (H1.out.lt rfl)).grown hgrow4 (by omega) (fun e=>by have:=hrow _ e.symm;omega)
              have hq2:=(H2.out.keep hbx (H2.out.lt rfl)).grown hgrow4 (by omega) (fun e=>by have:=hrow _ e.symm;omega)
              have hqw:=(Hw.out.keep hbx (Hw.out.lt rfl)).grown hgrow4 (by omega) (fun e=>by have:=hrow _ e.symm;omega)
              have hqB:=(za3 HB.out hbx).grown hgrow4 (by omega) (fun b hb=>by have:=hrow _ hb;omega)
              have hqR:=(HR.out.keep hbx).grown hgrow4 (fun b hb=>Or.inr (hrow b hb))
              have hqW:=(HRW.out.keep hbx).grown hgrow4 (fun hne ad e e2=>by have h1:=HRF.out hne ad e;have h2:=hrow _ e2.symm;omega)
              have Q0:=qq hq0
              have Q1:=qq hq1
              have Q2:=qq hq2
              have Qw:=qq hqw
              have QB:=qq hqB
              have QR:=qq hqR
              have QW:=qq hqW
              have QO:=qq hown4
              clear hq0 hq1 hq2 hqw hqB hqR hqW hown4 hgrow4 hbx hin hz0 hz1 hz2
              go_wp2
              go_roundw
              case rel=>exact ⟨k+1,wrap64 (r+1),by go_num,by omega,by rw [HTK.out,List.foldl_append,<-HRr.out];show _=clrOne X9 r A;unfold clrOne;rw [if_neg HA9.out,if_pos hAV.out],by rw [HTM.out,show zp2 X9 A=0 from by simp [zp2,HA9.out,hAV.out]];exact QO.out,Qw.out,Q0.out,Q1.out,Q2.out,QB.out,by omega,QW.out,QR.out⟩
              case measure=>simp [intOf];omega
            · have hVn:(AV == 0)=false:=beq_eq_false_iff_ne.2 hV9
              have HV9:=qq hV9
              clear hV9
              obtain ⟨i0,hin,hz0,hz1,hz2⟩:=info_parts zf2
              go_wp2_with (at_builtin;refine zd7 rfl _ _ 24 rfl B0 48 i0 (.int .u64 0) 8 Tryz.underlying24 hin hz0 hz1 hz2 rfl u15 k _ rfl (Hown.out.alloc _) (some ⟨w11.heap.size,0,none⟩) 1 1 .u64 [AV] rfl (zl7 w11 48 AV) ?c3 ?c4 ?c5 ?_)
              case c3=>unfold maxLen;omega
              case c4=>omega
              case c5=>simp;omega
              intro v4 w13 hown4 hgrow4
              rw [ze4] at hown4
              have hbx:=za1 (w:=w11) (o:=.cells #[.int .u64 AV] 48)
              have hrow:∀ b,u15.ownBlock=some b->B0<=b:=fun b hb=>(Hown.out.lt b hb).1
              have hsz1:(w11.alloc (.cells #[.int .u64 AV] 48)).heap.size=w11.heap.size+1:=by simp
              have hsz4:=hgrow4.size
              have hq0:=(H0.out.keep hbx (H0.out.lt rfl)).grown hgrow4 (by omega) (fun e=>by have:=hrow _ e.symm;omega)
              have hq1:=(H1.out.keep hbx (H1.out.lt rfl)).grown hgrow4 (by omega) (fun e=>by have:=hrow _ e.symm;omega)
              have hq2:=(H2.out.keep hbx (H2.out.lt rfl)).grown hgrow4 (by omega) (fun e=>by have:=hrow _ e.symm;omega)
              have hqw:=(Hw.out.keep hbx (Hw.out.lt rfl)).grown hgrow4 (by omega) (fun e=>by have:=hrow _ e.symm;omega)
              have hqB:=(za3 HB.out hbx).grown hgrow4 (by omega) (fun b hb=>by have:=hrow _ hb;omega)
              have hqR:=(HR.out.keep hbx).grown hgrow4 (fun b hb=>Or.inr (hrow b hb))
              have hqW:=(HRW.out.keep hbx).grown hgrow4 (fun hne ad e e2=>by have h1:=HRF.out hne ad e;have h2:=hrow _ e2.symm;omega)
              have Q0:=qq hq0
              have Q1:=qq hq1
              have Q2:=qq hq2
              have Qw:=qq hqw
              have QB:=qq hqB
              have QR:=qq hqR
              have QW:=qq hqW
              have QO:=qq hown4
              clear hq0 hq1 hq2 hqw hqB hqR hqW hown4 hgrow4 hbx hin hz0 hz1 hz2
              go_wp2
              go_roundw
              case rel=>exact ⟨k+1,r,by go_num,by omega,by rw [HTK.out,List.foldl_append,<-HRr.out];show _=clrOne X9 r A;unfold clrOne;rw [if_neg HA9.out,if_neg (by rw [hAV.out];exact HV9.out)],by rw [HTM.out,show zp2 X9 A=AV from by simp [zp2,HA9.out,hAV.out]];exact QO.out,Qw.out,Q0.out,Q1.out,Q2.out,QB.out,by omega,QW.out,QR.out⟩
              case measure=>simp [intOf];omega
        · obtain rfl:k=kn:=by omega
          have hge:¬(k:Int) < k:=by omega
          have hkl:wk.length=k:=HWK.out.len
          obtain ⟨lq,lc,rfl,hlr⟩:=SRow.of_own Hown.out
          rw [List.take_of_length_le (by rw [List.length_map];omega)] at hlr
          have HLW:=qq hlr
          have hCX:zh6 h st wk={ X9 with r4:=r }:=by
           unfold zh6;rw [hX9.out,HRr.out,List.take_of_length_le (by omega)]
          obtain ⟨X,hX⟩:∃ X:Wk,Hid (({ X9 with r4:=r }:Wk)=X):=⟨_,qq rfl⟩
          have IX:Inv h X:=by rw [<-hX.out];exact I9.out.reports X9.sc X9.r0 X9.r1 X9.r2 X9.r3 r X9.r5
          rw [hX.out] at hCX
          have hCW:=qq (show collW h st wk=freeW (zh8 X) from by unfold collW;rw [hCX])
          have HRX:WR wr (fun b=>b=wb) X p9 q9 po9 pt9 pq9 n9 c9 m9 d9 no9 co9 nt9 ct9 nq9 cq9:=by rw [<-hX.out];exact (HR.out.r4 r).mono (fun b hb=>Or.inl hb)
          have HwX:OwnL wr wb [.int .i64 X.h.pw,.int .i64 X.h.np,.slice p9 n9 c9,.slice q9 m9 d9,.int .i64 X.h.space,.int .i64 X.h.bump,.slice po9 no9 co9,.slice pt9 nt9 ct9,.slice pq9 nq9 cq9,.int .i64 X.sc,.int .i64 X.r0,.int .i64 X.r1,.int .i64 X.r2,.int .i64 X.r3,.int .i64 X.r4,.int .i64 X.r5]:=by rw [<-hX.out];exact Hw.out
          clear Hown hlr HR Hw hCX hX
          have Hw:=qq HwX
          clear HwX
          have hXo:X.old=zc0 h:=IX.old
          have hqn:nq9<=1000000:=by have h1:=HRX.queue.len;have h2:=IX.fwok.ql;omega
          have hFi:=fill_any (fun b=>b=wb) X p9 q9 po9 pt9 pq9 n9 c9 m9 d9 no9 co9 nt9 ct9 nq9 cq9 wr HRX (fun b hb=>by have h1:b=wb:=hb;have:=Hw.out.lt rfl;omega) (by rw [hXo];exact objects_wb h) hn9 hqn
          obtain ⟨XF,hXF⟩:∃ XF,Hid (zh8 X=XF):=⟨_,rfl⟩
          obtain ⟨s1,s2,s3,s4,s5,s6,s7,s8⟩:=fold_same X.old X
          have sf:zh8 X=X.old.foldl zc5 X:=rfl
          rw [<-sf,hXF.out] at s1 s2 s3 s4 s5 s6 s7 s8
          have hlen:=IX.fill
          rw [hXF.out] at hlen hFi
          rw [hXF.out] at hCW
          obtain ⟨g1,g2,g3,g4,g5,g6,g7,g8,g9⟩:=IX.conf
          have f1:16<=XF.h.pw:=by rw [s1,IX.pw];exact g1
          have f2:XF.h.pw<=64:=by rw [s1,IX.pw];exact g2
          have f3:XF.h.pages.length=h.pages.length:=by rw [s3];exact IX.pl
          have f4:(XF.h.words.length:Int)=XF.h.pages.length*XF.h.pw:=by rw [hlen,f3,s1,IX.pw,g5,g6]
          have f5:0<=XF.h.space/\XF.h.space<=1:=by rw [s4,IX.sp];exact ⟨g8,g9⟩
          have f6:1<=XF.h.pages.length/\XF.h.pages.length<=64:=by rw [f3];omega
          have HFF:=qq (And.intro f1 (And.intro f2 (And.intro f4 (And.intro f5 f6))))
          clear s1 s2 s3 s4 s5 s6 s7 s8 sf hlen hXF g1 g2 g3 g4 g5 g6 g7 g8 g9 f1 f2 f3 f4 f5 f6 HRX IX hXo I9 hqn
          go_upto_region 22 with fail
          go_wp2_with (first | ((with_reducible show wpList _ _ _ _ _ _);refine za7 (op:=⟨some 92,.load 146 _,_,_,_,_⟩) rfl _ _ rfl _ rfl _ Hw.out za8 ?_))
          refine hFi.mono ?_
          rintro e w14 ⟨⟨vf,rfl,pf,qf,pof,ptf,pqf,nf,cf,mf,df,nof,cof,ntf,ctf,nqf,cqf,rfl,hwrf⟩,hb14⟩
          replace H0:=qq (H0.out.keep hb14 (H0.out.lt rfl))
          replace H1:=qq (H1.out.keep hb14 (H1.out.lt rfl))
          replace H2:=qq (H2.out.keep hb14 (H2.out.lt rfl))
          replace Hw:=qq (Hw.out.keep hb14 (Hw.out.lt rfl))
          replace HB:=qq (za3 HB.out hb14)
          replace HLW:=qq (HLW.out.keep hb14)
          replace HRW:=qq (HRW.out.keep hb14)
          clear hb14 hFi
          have h14:wb < w14.heap.size:=Hw.out.lt rfl
          have h14b:w.heap.size+2 < w14.heap.size:=H2.out.lt rfl
          have hFr:=free_any (fun b=>b=wb) XF pf qf pof ptf pqf nf cf mf df nof cof ntf ctf nqf cqf w14 hwrf (fun b hb=>by have h1:b=wb:=hb;omega) HFF.out.1 HFF.out.2.1 HFF.out.2.2.2.2.1 HFF.out.2.2.2.2.2 HFF.out.2.2.1
          have hsp2:(freeW XF).h.space=XF.h.space:=rfl
          obtain ⟨XG,hXG⟩:∃ XG,Hid (freeW XF=XG):=⟨_,rfl⟩
          rw [hXG.out] at hFr hCW hsp2
          obtain ⟨hsp0,hsp1⟩:=HFF.out.2.2.2.1
          rw [<-hsp2] at hsp0 hsp1
          clear hsp2 HFF hwrf hXG
          go_wp2_with fail
          refine hFr.mono ?_
          rintro e w15 ⟨⟨vg,rfl,pg,qg,pog,ptg,pqg,ng,cg,mg,dg,nog,cog,ntg,ctg,nqg,cqg,rfl,hwrg,hpg⟩,hb15⟩
          replace H0:=qq (H0.out.keep hb15 (H0.out.lt rfl))
          replace H1:=qq (H1.out.keep hb15 (H1.out.lt rfl))
          replace H2:=qq (H2.out.keep hb15 (H2.out.lt rfl))
          replace Hw:=qq (Hw.out.keep hb15 (Hw.out.lt rfl))
          replace HB:=qq (za3 HB.out hb15)
          replace HLW:=qq (HLW.out.keep hb15)
          replace HRW:=qq (HRW.out.keep hb15)
          clear hb15 hFr
          have HR:=qq hwrg
          clear hwrg
          have HPG:=qq (show ∀ ad,qg=some ad->ad.block≠w.heap.size+1/\ad.block≠w.heap.size+2 from fun ad e=>by have:=hpg ad e;omega)
          clear hpg h14 h14b
          go_wp2_with (first | ((with_reducible show wpList _ _ _ _ _ _);refine za6 (op:=⟨none,.store 146 _ _,_,_,_,_⟩) rfl _ _ _ rfl _ ?hx514 [.int .i64 XG.h.pw,.int .i64 XG.h.np,.slice pg ng cg,.slice qg mg dg,.int .i64 XG.h.space,.int .i64 XG.h.bump,.slice pog nog cog,.slice ptg ntg ctg,.slice pqg nqg cqg,.int .i64 XG.sc,.int .i64 XG.r0,.int .i64 XG.r1,.int .i64 XG.r2,.int .i64 XG.r3,.int .i64 XG.r4,.int .i64 XG.r5] _ ?hy514 Hw.out rfl rfl za8 ?_))
          (try (case hx514=>rfl))
          (try (case hy514=>rfl))
          intro w16 ho hbt hst
          replace HR:=qq (HR.out.stored rfl Hw.out (zd1 X p9 q9 po9 pt9 pq9 n9 c9 m9 d9 no9 co9 nt9 ct9 nq9 cq9) (by simp) hst)
          have hHRW:=zc3 [.int .i64 XG.h.pw,.int .i64 XG.h.np,.slice pg ng cg,.slice qg mg dg,.int .i64 XG.h.space,.int .i64 XG.h.bump,.slice pog nog cog,.slice ptg ntg ctg,.slice pqg nqg cqg,.int .i64 XG.sc,.int .i64 XG.r0,.int .i64 XG.r1,.int .i64 XG.r2,.int .i64 XG.r3,.int .i64 XG.r4,.int .i64 XG.r5] 0 _ _ HRW.out Hw.out (fun j y _=>(zd1 X p9 q9 po9 pt9 pq9 n9 c9 m9 d9 no9 co9 nt9 ct9 nq9 cq9) j y) (by simp)
          rw [<-zb7,<-hst.out] at hHRW
          replace HRW:=qq hHRW
          clear hHRW
          have hHLW:=zc3 [.int .i64 XG.h.pw,.int .i64 XG.h.np,.slice pg ng cg,.slice qg mg dg,.int .i64 XG.h.space,.int .i64 XG.h.bump,.slice pog nog cog,.slice ptg ntg ctg,.slice pqg nqg cqg,.int .i64 XG.sc,.int .i64 XG.r0,.int .i64 XG.r1,.int .i64 XG.r2,.int .i64 XG.r3,.int .i64 XG.r4,.int .i64 XG.r5] 0 _ _ HLW.out Hw.out (fun j y _=>(zd1 X p9 q9 po9 pt9 pq9 n9 c9 m9 d9 no9 co9 nt9 ct9 nq9 cq9) j y) (by simp)
          rw [<-zb7,<-hst.out] at hHLW
          replace HLW:=qq hHLW
          clear hHLW
          have hlw:wb < w15.heap.size:=Hw.out.lt rfl
          replace H0:=qq (H0.out.but hbt (H0.out.lt rfl) (by omega))
          replace H1:=qq (H1.out.but hbt (H1.out.lt rfl) (by omega))
          replace H2:=qq (H2.out.but hbt (H2.out.lt rfl) (by omega))
          replace HB:=qq (HB.out.trans (hbt.low (by omega) (by omega)))
          clear Hw hlw
          have Hw:=qq ho
          clear ho hbt hst
          have e1:IntKind.i64.wrap (1 - XG.h.space)=1 - XG.h.space:=IntWalk.i64_in _ (by omega)
          have c4:=Hw.out.cell 4 _ rfl
          have f4:=Hw.out.free 4
          go_upto_region 24 with fail
          clear c4 f4
          have hlw:wb < w16.heap.size:=Hw.out.lt rfl
          obtain ⟨w17,hset⟩:∃ W,Hid (w16.setCell ⟨wb,4,none⟩ (.int .i64 (1 - XG.h.space))=W):=⟨_,rfl⟩
          rw [hset.out]
          have hbt:But wb w16 w17:=by rw [<-hset.out];exact (But.refl wb w16).set 4 _
          have hw2:OwnL w17 wb [.int .i64 XG.h.pw,.int .i64 XG.h.np,.slice pg ng cg,.slice qg mg dg,.int .i64 (1 - XG.h.space),.int .i64 XG.h.bump,.slice pog nog cog,.slice ptg ntg ctg,.slice pqg nqg cqg,.int .i64 XG.sc,.int .i64 XG.r0,.int .i64 XG.r1,.int .i64 XG.r2,.int .i64 XG.r3,.int .i64 XG.r4,.int .i64 XG.r5]:=by rw [<-hset.out];exact Hw.out.set 4 (.int .i64 (1 - XG.h.space)) (by simp)
          have hHRW:SRow w17 .u64 rq rm rc RL:=by rw [<-hset.out];exact zc3 [.int .i64 (1 - XG.h.space)] 4 _ _ HRW.out Hw.out (fun j y _=>(zd1 XG pg qg pog ptg pqg ng cg mg dg nog cog ntg ctg nqg cqg) j y) (by simp)
          have hHLW:SRow w17 .u64 lq k lc (wk.map (zp2 X9)):=by rw [<-hset.out];exact zc3 [.int .i64 (1 - XG.h.space)] 4 _ _ HLW.out Hw.out (fun j y _=>(zd1 XG pg qg pog ptg pqg ng cg mg dg nog cog ntg ctg nqg cqg) j y) (by simp)
          have hR2:WR w17 (fun b=>b=wb) XG pg qg pog ptg pqg ng cg mg dg nog cog ntg ctg nqg cqg:=by rw [<-hset.out];exact zi6 HR.out Hw.out ((zd1 XG pg qg pog ptg pqg ng cg mg dg nog cog ntg ctg nqg cqg)) rfl [.int .i64 (1 - XG.h.space)] 4 (by simp)
          replace H0:=qq (H0.out.but hbt (H0.out.lt rfl) (by omega))
          replace H1:=qq (H1.out.but hbt (H1.out.lt rfl) (by omega))
          replace H2:=qq (H2.out.but hbt (H2.out.lt rfl) (by omega))
          replace HB:=qq (HB.out.trans (hbt.low (by omega) (by omega)))
          replace HRW:=qq hHRW
          replace HLW:=qq hHLW
          replace HR:=qq hR2
          clear Hw
          have Hw:=qq hw2
          clear hw2 hset hbt hHRW hHLW hR2 hlw
          have f5:=Hw.out.free 5
          have c5:=Hw.out.cell 5 _ rfl
          go_upto_region 25 with fail
          clear f5 c5
          have hlw:wb < w17.heap.size:=Hw.out.lt rfl
          obtain ⟨w18,hset⟩:∃ W,Hid (w17.setCell ⟨wb,5,none⟩ (.int .i64 (-1))=W):=⟨_,rfl⟩
          rw [hset.out]
          have hbt:But wb w17 w18:=by rw [<-hset.out];exact (But.refl wb w17).set 5 _
          have hw2:OwnL w18 wb [.int .i64 XG.h.pw,.int .i64 XG.h.np,.slice pg ng cg,.slice qg mg dg,.int .i64 (1 - XG.h.space),.int .i64 (-1),.slice pog nog cog,.slice ptg ntg ctg,.slice pqg nqg cqg,.int .i64 XG.sc,.int .i64 XG.r0,.int .i64 XG.r1,.int .i64 XG.r2,.int .i64 XG.r3,.int .i64 XG.r4,.int .i64 XG.r5]:=by rw [<-hset.out];exact Hw.out.set 5 (.int .i64 (-1)) (by simp)
          have hHRW:SRow w18 .u64 rq rm rc RL:=by rw [<-hset.out];exact zc3 [.int .i64 (-1)] 5 _ _ HRW.out Hw.out (fun j y _=>(zd1 { XG with h:={ XG.h with space:=1 - XG.h.space } } pg qg pog ptg pqg ng cg mg dg nog cog ntg ctg nqg cqg) j y) (by simp)
          have hHLW:SRow w18 .u64 lq k lc (wk.map (zp2 X9)):=by rw [<-hset.out];exact zc3 [.int .i64 (-1)] 5 _ _ HLW.out Hw.out (fun j y _=>(zd1 { XG with h:={ XG.h with space:=1 - XG.h.space } } pg qg pog ptg pqg ng cg mg dg nog cog ntg ctg nqg cqg) j y) (by simp)
          have hR2:WR w18 (fun b=>b=wb) XG pg qg pog ptg pqg ng cg mg dg nog cog ntg ctg nqg cqg:=by rw [<-hset.out];exact zi6 HR.out Hw.out ((zd1 { XG with h:={ XG.h with space:=1 - XG.h.space } } pg qg pog ptg pqg ng cg mg dg nog cog ntg ctg nqg cqg)) rfl [.int .i64 (-1)] 5 (by simp)
          replace H0:=qq (H0.out.but hbt (H0.out.lt rfl) (by omega))
          replace H1:=qq (H1.out.but hbt (H1.out.lt rfl) (by omega))
          replace H2:=qq (H2.out.but hbt (H2.out.lt rfl) (by omega))
          replace HB:=qq (HB.out.trans (hbt.low (by omega) (by omega)))
          replace HRW:=qq hHRW
          replace HLW:=qq hHLW
          replace HR:=qq hR2
          clear Hw
          have Hw:=qq hw2
          clear hw2 hset hbt hHRW hHLW hR2 hlw
          have htl:XG.taken.length=ntg:=HR.out.taken.len
          have c7:=Hw.out.cell 7 _ rfl
          by_cases hn0:ntg=0
          · subst hn0
            have hBV:=qq (show (XG.taken.getLast?).getD (-1) = -1 from by rw [List.length_eq_zero_iff.1 htl];rfl)
            have hSof:=qq (fun W (hW:OwnL W wb [.int .i64 XG.h.pw,.int .i64 XG.h.np,.slice pg ng cg,.slice qg mg dg,.int .i64 (1 - XG.h.space),.int .i64 (-1),.slice pog nog cog,.slice ptg 0 ctg,.slice pqg nqg cqg,.int .i64 XG.sc,.int .i64 XG.r0,.int .i64 XG.r1,.int .i64 XG.r2,.int .i64 XG.r3,.int .i64 XG.r4,.int .i64 XG.r5])=>(⟨range_take 6 hW.range,range_drop 10 hW⟩:(fun W=>W.rangeAt wb 0 [.int .i64 XG.h.pw,.int .i64 XG.h.np,.slice pg ng cg,.slice qg mg dg,.int .i64 (1 - XG.h.space),.int .i64 (-1)]/\W.rangeAt wb 10 [.int .i64 XG.r0,.int .i64 XG.r1,.int .i64 XG.r2,.int .i64 XG.r3,.int .i64 XG.r4,.int .i64 XG.r5]) W))
            go_upto_region 28 with fail
            clear c7
            obtain ⟨hudH,huiH⟩:=zd3
            obtain ⟨ddH,hddH,hdrH⟩:=Option.map_eq_some_iff.1 hudH
            obtain ⟨hudR,huiR⟩:=zk5
            obtain ⟨ddR,hddR,hdrR⟩:=Option.map_eq_some_iff.1 hudR
            refine wp_region_held_drew (S:=fun W=>W.rangeAt wb 0 [.int .i64 XG.h.pw,.int .i64 XG.h.np,.slice pg ng cg,.slice qg mg dg,.int .i64 (1 - XG.h.space),.int .i64 (-1)]/\W.rangeAt wb 10 [.int .i64 XG.r0,.int .i64 XG.r1,.int .i64 XG.r2,.int .i64 XG.r3,.int .i64 XG.r4,.int .i64 XG.r5]) (by kernel_rfl) (hSof.out _ (Hw.out.keep (Below.drew (Below.refl _ _)) (Hw.out.lt rfl))) (fun hHeld=>?_)
            refine draw_t 0 116 hHeld ?_
            refine wpAnyH_take (i:=1) (oi:=⟨some 117,.load 27 (.tmp 116),_,_,_,_⟩) (v:=_) rfl (by kernel_rfl) (by kernel_rfl) (by kernel_rfl) (fun _ _ _ h=>h) (yieldsIf_load_mid (by rfl) _ _ rfl wb 0 rfl [.int .i64 XG.h.pw,.int .i64 XG.h.np,.slice pg ng cg,.slice qg mg dg,.int .i64 (1 - XG.h.space),.int .i64 (-1)] ddH (fun W h=>h.1) hddH hdrH huiH) hHeld ?_
            go_frame
            refine draw_t 2 118 hHeld ?_
            refine draw_t 3 119 hHeld ?_
            refine draw_t 4 120 hHeld ?_
            refine wpAnyH_take (i:=5) (oi:=⟨some 121,.load 133 (.tmp 120),_,_,_,_⟩) (v:=_) rfl (by kernel_rfl) (by kernel_rfl) (by kernel_rfl) (fun _ _ _ h=>h) (yieldsIf_load_mid (by rfl) _ _ rfl wb 10 rfl [.int .i64 XG.r0,.int .i64 XG.r1,.int .i64 XG.r2,.int .i64 XG.r3,.int .i64 XG.r4,.int .i64 XG.r5] ddR (fun W h=>h.2) hddR hdrR huiR) hHeld ?_
            go_frame
            have hdw:=(Below.drew (Below.refl w18.heap.size w18))
            replace Hw:=qq (Hw.out.keep hdw (Hw.out.lt rfl))
            replace H1:=qq (H1.out.keep hdw (H1.out.lt rfl))
            replace H2:=qq (H2.out.keep hdw (H2.out.lt rfl))
            replace HB:=qq (za3 HB.out hdw)
            replace HRW:=qq (HRW.out.keep hdw)
            replace HLW:=qq (HLW.out.keep hdw)
            have HWD:=qq (HR.out.words.keep hdw)
            have HPR:=qq (PRow.keep HR.out.pages hdw)
            have HWBX:=qq HR.out.wb
            clear HR hdw H0
            refine wpAnyH_ready (rs:=[6]) (by kernel_rfl) (by simp) ?_
            refine AllReadyH.cons (o:=⟨none,.store 27 _ _,_,_,_,_⟩) rfl (fun K hK=>?_) AllReadyH.nil
            rw [if_pos (by rfl)]
            refine wp_store_mid 27 _ _ rfl (w.heap.size+1) 0 ([.int .i64 XG.h.pw,.int .i64 XG.h.np,.slice pg ng cg,.slice qg mg dg,.int .i64 (1 - XG.h.space),.int .i64 (-1)]:List Value).toArray rfl rfl (H1.out.isThere (by simp)) huiH (by have h1:([.int .i64 XG.h.pw,.int .i64 XG.h.np,.slice pg ng cg,.slice qg mg dg,.int .i64 (1 - XG.h.space),.int .i64 (-1)]:List Value).all (·.oneCell')=true:=rfl;simpa using h1) ?_
            obtain ⟨w20,hst⟩:∃ W,Hid (W=World.setCells w18.drew (w.heap.size+1) 0 [.int .i64 XG.h.pw,.int .i64 XG.h.np,.slice pg ng cg,.slice qg mg dg,.int .i64 (1 - XG.h.space),.int .i64 (-1)]):=⟨_,rfl⟩
            have ho:=H1.out.setCells (vs:=[.int .i64 XG.h.pw,.int .i64 XG.h.np,.slice pg ng cg,.slice qg mg dg,.int .i64 (1 - XG.h.space),.int .i64 (-1)]) (by simp)
            have hbt:=But.setCells (b:=(w.heap.size+1)) (w:=w18.drew) [.int .i64 XG.h.pw,.int .i64 XG.h.np,.slice pg ng cg,.slice qg mg dg,.int .i64 (1 - XG.h.space),.int .i64 (-1)] 0
            rw [<-hst.out] at ho hbt
            have hlk:(w.heap.size+1) < w18.drew.heap.size:=H1.out.lt rfl
            replace HB:=qq (HB.out.trans (hbt.low (by omega) (by omega)))
            replace Hw:=qq (Hw.out.but hbt (Hw.out.lt rfl) (by omega))
            have hHRW:=zc3 [.int .i64 XG.h.pw,.int .i64 XG.h.np,.slice pg ng cg,.slice qg mg dg,.int .i64 (1 - XG.h.space),.int .i64 (-1)] 0 _ _ HRW.out H1.out (fun j y _=>noU_hz j y) (by simp)
            have hHLW:=zc3 [.int .i64 XG.h.pw,.int .i64 XG.h.np,.slice pg ng cg,.slice qg mg dg,.int .i64 (1 - XG.h.space),.int .i64 (-1)] 0 _ _ HLW.out H1.out (fun j y _=>noU_hz j y) (by simp)
            have hHWD:=zc3 [.int .i64 XG.h.pw,.int .i64 XG.h.np,.slice pg ng cg,.slice qg mg dg,.int .i64 (1 - XG.h.space),.int .i64 (-1)] 0 _ _ HWD.out H1.out (fun j y _=>noU_hz j y) (by simp)
            rw [<-zb7,<-hst.out] at hHRW hHLW hHWD
            replace HRW:=qq hHRW
            replace HLW:=qq hHLW
            replace HWD:=qq hHWD
            replace HPR:=qq (show PRow w20 _ _ _ _ from VRow.butNe HPR.out hbt (fun _ ad e=>by have:=HPG.out ad e;omega))
            rw [show World.setCells w18.drew (w.heap.size+1) 0 (List.toArray [.int .i64 XG.h.pw,.int .i64 XG.h.np,.slice pg ng cg,.slice qg mg dg,.int .i64 (1 - XG.h.space),.int .i64 (-1)]).toList=w20 from hst.out.symm]
            clear hHRW hHLW hHWD
            replace H2:=qq (H2.out.but hbt (H2.out.lt rfl) (by omega))
            clear H1
            have H1:=qq ho
            clear ho hst hlk
            refine hK.out _ _ (hSof.out _ Hw.out) (fun hHeld=>?_)
            clear hK K hbt
            try go_frame
            refine draw_t 7 7 hHeld ?_
            refine draw_t 8 8 hHeld ?_
            refine wpAnyH_ready (rs:=[9]) (by kernel_rfl) (by simp) ?_
            refine AllReadyH.cons (o:=⟨none,.store 133 _ _,_,_,_,_⟩) rfl (fun K hK=>?_) AllReadyH.nil
            rw [if_pos (by rfl)]
            refine wp_store_mid 133 _ _ rfl (w.heap.size+2) 0 ([.int .i64 XG.r0,.int .i64 XG.r1,.int .i64 XG.r2,.int .i64 XG.r3,.int .i64 XG.r4,.int .i64 XG.r5]:List Value).toArray rfl rfl (H2.out.isThere (by simp)) huiR (by have h1:([.int .i64 XG.r0,.int .i64 XG.r1,.int .i64 XG.r2,.int .i64 XG.r3,.int .i64 XG.r4,.int .i64 XG.r5]:List Value).all (·.oneCell')=true:=rfl;simpa using h1) ?_
            obtain ⟨w21,hst⟩:∃ W,Hid (W=World.setCells w20 (w.heap.size+2) 0 [.int .i64 XG.r0,.int .i64 XG.r1,.int .i64 XG.r2,.int .i64 XG.r3,.int .i64 XG.r4,.int .i64 XG.r5]):=⟨_,rfl⟩
            have ho:=H2.out.setCells (vs:=[.int .i64 XG.r0,.int .i64 XG.r1,.int .i64 XG.r2,.int .i64 XG.r3,.int .i64 XG.r4,.int .i64 XG.r5]) (by simp)
            have hbt:=But.setCells (b:=(w.heap.size+2)) (w:=w20) [.int .i64 XG.r0,.int .i64 XG.r1,.int .i64 XG.r2,.int .i64 XG.r3,.int .i64 XG.r4,.int .i64 XG.r5] 0
            rw [<-hst.out] at ho hbt
            have hlk:(w.heap.size+2) < w20.heap.size:=H2.out.lt rfl
            replace HB:=qq (HB.out.trans (hbt.low (by omega) (by omega)))
            replace Hw:=qq (Hw.out.but hbt (Hw.out.lt rfl) (by omega))
            have hHRW:=zc3 [.int .i64 XG.r0,.int .i64 XG.r1,.int .i64 XG.r2,.int .i64 XG.r3,.int .i64 XG.r4,.int .i64 XG.r5] 0 _ _ HRW.out H2.out (fun j y _=>noU_rz j y) (by simp)
            have hHLW:=zc3 [.int .i64 XG.r0,.int .i64 XG.r1,.int .i64 XG.r2,.int .i64 XG.r3,.int .i64 XG.r4,.int .i64 XG.r5] 0 _ _ HLW.out H2.out (fun j y _=>noU_rz j y) (by simp)
            have hHWD:=zc3 [.int .i64 XG.r0,.int .i64 XG.r1,.int .i64 XG.r2,.int .i64 XG.r3,.int .i64 XG.r4,.int .i64 XG.r5] 0 _ _ HWD.out H2.out (fun j y _=>noU_rz j y) (by simp)
            rw [<-zb7,<-hst.out] at hHRW hHLW hHWD
            replace HRW:=qq hHRW
            replace HLW:=qq hHLW
            replace HWD:=qq hHWD
            replace HPR:=qq (show PRow w21 _ _ _ _ from VRow.butNe HPR.out hbt (fun _ ad e=>by have:=HPG.out ad e;omega))
            rw [show World.setCells w20 (w.heap.size+2) 0 (List.toArray [.int .i64 XG.r0,.int .i64 XG.r1,.int .i64 XG.r2,.int .i64 XG.r3,.int .i64 XG.r4,.int .i64 XG.r5]).toList=w21 from hst.out.symm]
            clear hHRW hHLW hHWD
            replace H1:=qq (H1.out.but hbt (H1.out.lt rfl) (by omega))
            clear H2
            have H2:=qq ho
            clear ho hst hlk
            refine hK.out _ _ (hSof.out _ Hw.out) (fun hHeld=>?_)
            clear hK K hbt
            try go_frame
            refine draw_t 10 10 hHeld ?_
            refine wpAnyH_done (by kernel_rfl) ?_ _
            go_wp2
            refine bodyPost_ret (zo1 rfl rfl rfl H1.out H2.out zd3 zk5) rfl ?_
            have hHH:collH h st wk={ XG.h with space:=1 - XG.h.space,bump:=-1 }:=by unfold collH;rw [hCW.out,hBV.out]
            refine ⟨Or.inr ⟨hCE.out,?_⟩,HB.out⟩
            rw [hHH,show collS h st=RL from hRL.out,show collK h st wk=wk.map (zp2 X9) from by unfold collK;rw [hX9.out]]
            exact ⟨_,rq,rm,rc,lq,k,lc,_,_,_,_,_,_,rfl,⟨pg,ng,cg,qg,mg,dg,rfl,HWD.out,HPR.out,HWBX.out⟩,HRW.out,HLW.out⟩
          · obtain ⟨TV,tb,tof,hTV,hptg,t0⟩:=HR.out.taken.at_ (k:=ntg - 1) (by omega)
            subst hptg
            have hBV:=qq (show (XG.taken.getLast?).getD (-1)=TV from by rw [List.getLast?_eq_getElem?,htl,hTV];rfl)
            clear hTV
            have hnp:(0:Int) < ntg:=by omega
            obtain ⟨NT,hNT⟩:∃ NT:Nat,ntg - 1=NT:=⟨_,rfl⟩
            rw [hNT] at t0
            have eN:IntKind.i64.wrap ((ntg:Int) - 1)=(NT:Int):=by have h1:=HR.out.taken.i63.2;rw [IntWalk.i64_in _ (by omega)];omega
            have hNl:(NT:Int) < ntg:=by omega
            have c5:=Hw.out.cell 5 _ rfl
            have f5:=Hw.out.free 5
            go_upto_region 28 with fail
            clear c5 f5 c7 t0
            have hlw:wb < w18.heap.size:=Hw.out.lt rfl
            obtain ⟨w19,hset⟩:∃ W,Hid (w18.setCell ⟨wb,5,none⟩ (.int .i64 TV)=W):=⟨_,rfl⟩
            rw [hset.out]
            have hbt:But wb w18 w19:=by rw [<-hset.out];exact (But.refl wb w18).set 5 _
            have hw2:OwnL w19 wb [.int .i64 XG.h.pw,.int .i64 XG.h.np,.slice pg ng cg,.slice qg mg dg,.int .i64 (1 - XG.h.space),.int .i64 TV,.slice pog nog cog,.slice (some ⟨tb,tof,none⟩) ntg ctg,.slice pqg nqg cqg,.int .i64 XG.sc,.int .i64 XG.r0,.int .i64 XG.r1,.int .i64 XG.r2,.int .i64 XG.r3,.int .i64 XG.r4,.int .i64 XG.r5]:=by rw [<-hset.out];exact Hw.out.set 5 (.int .i64 TV) (by simp)
            have hHRW:SRow w19 .u64 rq rm rc RL:=by rw [<-hset.out];exact zc3 [.int .i64 TV] 5 _ _ HRW.out Hw.out (fun j y _=>(zd1 { XG with h:={ XG.h with space:=1 - XG.h.space,bump:=-1 } } pg qg pog (some ⟨tb,tof,none⟩) pqg ng cg mg dg nog cog ntg ctg nqg cqg) j y) (by simp)
            have hHLW:SRow w19 .u64 lq k lc (wk.map (zp2 X9)):=by rw [<-hset.out];exact zc3 [.int .i64 TV] 5 _ _ HLW.out Hw.out (fun j y _=>(zd1 { XG with h:={ XG.h with space:=1 - XG.h.space,bump:=-1 } } pg qg pog (some ⟨tb,tof,none⟩) pqg ng cg mg dg nog cog ntg ctg nqg cqg) j y) (by simp)
            have hR2:WR w19 (fun b=>b=wb) XG pg qg pog (some ⟨tb,tof,none⟩) pqg ng cg mg dg nog cog ntg ctg nqg cqg:=by rw [<-hset.out];exact zi6 HR.out Hw.out ((zd1 { XG with h:={ XG.h with space:=1 - XG.h.space,bump:=-1 } } pg qg pog (some ⟨tb,tof,none⟩) pqg ng cg mg dg nog cog ntg ctg nqg cqg)) rfl [.int .i64 TV] 5 (by simp)
            replace H0:=qq (H0.out.but hbt (H0.out.lt rfl) (by omega))
            replace H1:=qq (H1.out.but hbt (H1.out.lt rfl) (by omega))
            replace H2:=qq (H2.out.but hbt (H2.out.lt rfl) (by omega))
            replace HB:=qq (HB.out.trans (hbt.low (by omega) (by omega)))
            replace HRW:=qq hHRW
            replace HLW:=qq hHLW
            replace HR:=qq hR2
            clear Hw
            have Hw:=qq hw2
            clear hw2 hset hbt hHRW hHLW hR2 hlw
            have hSof:=qq (fun W (hW:OwnL W wb [.int .i64 XG.h.pw,.int .i64 XG.h.np,.slice pg ng cg,.slice qg mg dg,.int .i64 (1 - XG.h.space),.int .i64 TV,.slice pog nog cog,.slice (some ⟨tb,tof,none⟩) ntg ctg,.slice pqg nqg cqg,.int .i64 XG.sc,.int .i64 XG.r0,.int .i64 XG.r1,.int .i64 XG.r2,.int .i64 XG.r3,.int .i64 XG.r4,.int .i64 XG.r5])=>(⟨range_take 6 hW.range,range_drop 10 hW⟩:(fun W=>W.rangeAt wb 0 [.int .i64 XG.h.pw,.int .i64 XG.h.np,.slice pg ng cg,.slice qg mg dg,.int .i64 (1 - XG.h.space),.int .i64 TV]/\W.rangeAt wb 10 [.int .i64 XG.r0,.int .i64 XG.r1,.int .i64 XG.r2,.int .i64 XG.r3,.int .i64 XG.r4,.int .i64 XG.r5]) W))
            obtain ⟨hudH,huiH⟩:=zd3
            obtain ⟨ddH,hddH,hdrH⟩:=Option.map_eq_some_iff.1 hudH
            obtain ⟨hudR,huiR⟩:=zk5
            obtain ⟨ddR,hddR,hdrR⟩:=Option.map_eq_some_iff.1 hudR
            refine wp_region_held_drew (S:=fun W=>W.rangeAt wb 0 [.int .i64 XG.h.pw,.int .i64 XG.h.np,.slice pg ng cg,.slice qg mg dg,.int .i64 (1 - XG.h.space),.int .i64 TV]/\W.rangeAt wb 10 [.int .i64 XG.r0,.int .i64 XG.r1,.int .i64 XG.r2,.int .i64 XG.r3,.int .i64 XG.r4,.int .i64 XG.r5]) (by kernel_rfl) (hSof.out _ (Hw.out.keep (Below.drew (Below.refl _ _)) (Hw.out.lt rfl))) (fun hHeld=>?_)
            refine draw_t 0 116 hHeld ?_
            refine wpAnyH_take (i:=1) (oi:=⟨some 117,.load 27 (.tmp 116),_,_,_,_⟩) (v:=_) rfl (by kernel_rfl) (by kernel_rfl) (by kernel_rfl) (fun _ _ _ h=>h) (yieldsIf_load_mid (by rfl) _ _ rfl wb 0 rfl [.int .i64 XG.h.pw,.int .i64 XG.h.np,.slice pg ng cg,.slice qg mg dg,.int .i64 (1 - XG.h.space),.int .i64 TV] ddH (fun W h=>h.1) hddH hdrH huiH) hHeld ?_
            go_frame
            refine draw_t 2 118 hHeld ?_
            refine draw_t 3 119 hHeld ?_
            refine draw_t 4 120 hHeld ?_
            refine wpAnyH_take (i:=5) (oi:=⟨some 121,.load 133 (.tmp 120),_,_,_,_⟩) (v:=_) rfl (by kernel_rfl) (by kernel_rfl) (by kernel_rfl) (fun _ _ _ h=>h) (yieldsIf_load_mid (by rfl) _ _ rfl wb 10 rfl [.int .i64 XG.r0,.int .i64 XG.r1,.int .i64 XG.r2,.int .i64 XG.r3,.int .i64 XG.r4,.int .i64 XG.r5] ddR (fun W h=>h.2) hddR hdrR huiR) hHeld ?_
            go_frame
            have hdw:=(Below.drew (Below.refl w19.heap.size w19))
            replace Hw:=qq (Hw.out.keep hdw (Hw.out.lt rfl))
            replace H1:=qq (H1.out.keep hdw (H1.out.lt rfl))
            replace H2:=qq (H2.out.keep hdw (H2.out.lt rfl))
            replace HB:=qq (za3 HB.out hdw)
            replace HRW:=qq (HRW.out.keep hdw)
            replace HLW:=qq (HLW.out.keep hdw)
            have HWD:=qq (HR.out.words.keep hdw)
            have HPR:=qq (PRow.keep HR.out.pages hdw)
            have HWBX:=qq HR.out.wb
            clear HR hdw H0
            refine wpAnyH_ready (rs:=[6]) (by kernel_rfl) (by simp) ?_
            refine AllReadyH.cons (o:=⟨none,.store 27 _ _,_,_,_,_⟩) rfl (fun K hK=>?_) AllReadyH.nil
            rw [if_pos (by rfl)]
            refine wp_store_mid 27 _ _ rfl (w.heap.size+1) 0 ([.int .i64 XG.h.pw,.int .i64 XG.h.np,.slice pg ng cg,.slice qg mg dg,.int .i64 (1 - XG.h.space),.int .i64 TV]:List Value).toArray rfl rfl (H1.out.isThere (by simp)) huiH (by have h1:([.int .i64 XG.h.pw,.int .i64 XG.h.np,.slice pg ng cg,.slice qg mg dg,.int .i64 (1 - XG.h.space),.int .i64 TV]:List Value).all (·.oneCell')=true:=rfl;simpa using h1) ?_
            obtain ⟨w20,hst⟩:∃ W,Hid (W=World.setCells w19.drew (w.heap.size+1) 0 [.int .i64 XG.h.pw,.int .i64 XG.h.np,.slice pg ng cg,.slice qg mg dg,.int .i64 (1 - XG.h.space),.int .i64 TV]):=⟨_,rfl⟩
            have ho:=H1.out.setCells (vs:=[.int .i64 XG.h.pw,.int .i64 XG.h.np,.slice pg ng cg,.slice qg mg dg,.int .i64 (1 - XG.h.space),.int .i64 TV]) (by simp)
            have hbt:=But.setCells (b:=(w.heap.size+1)) (w:=w19.drew) [.int .i64 XG.h.pw,.int .i64 XG.h.np,.slice pg ng cg,.slice qg mg dg,.int .i64 (1 - XG.h.space),.int .i64 TV] 0
            rw [<-hst.out] at ho hbt
            have hlk:(w.heap.size+1) < w19.drew.heap.size:=H1.out.lt rfl
            replace HB:=qq (HB.out.trans (hbt.low (by omega) (by omega)))
            replace Hw:=qq (Hw.out.but hbt (Hw.out.lt rfl) (by omega))
            have hHRW:=zc3 [.int .i64 XG.h.pw,.int .i64 XG.h.np,.slice pg ng cg,.slice qg mg dg,.int .i64 (1 - XG.h.space),.int .i64 TV] 0 _ _ HRW.out H1.out (fun j y _=>noU_hz j y) (by simp)
            have hHLW:=zc3 [.int .i64 XG.h.pw,.int .i64 XG.h.np,.slice pg ng cg,.slice qg mg dg,.int .i64 (1 - XG.h.space),.int .i64 TV] 0 _ _ HLW.out H1.out (fun j y _=>noU_hz j y) (by simp)
            have hHWD:=zc3 [.int .i64 XG.h.pw,.int .i64 XG.h.np,.slice pg ng cg,.slice qg mg dg,.int .i64 (1 - XG.h.space),.int .i64 TV] 0 _ _ HWD.out H1.out (fun j y _=>noU_hz j y) (by simp)
            rw [<-zb7,<-hst.out] at hHRW hHLW hHWD
            replace HRW:=qq hHRW
            replace HLW:=qq hHLW
            replace HWD:=qq hHWD
            replace HPR:=qq (show PRow w20 _ _ _ _ from VRow.butNe HPR.out hbt (fun _ ad e=>by have:=HPG.out ad e;omega))
            rw [show World.setCells w19.drew (w.heap.size+1) 0 (List.toArray [.int .i64 XG.h.pw,.int .i64 XG.h.np,.slice pg ng cg,.slice qg mg dg,.int .i64 (1 - XG.h.space),.int .i64 TV]).toList=w20 from hst.out.symm]
            clear hHRW hHLW hHWD
            replace H2:=qq (H2.out.but hbt (H2.out.lt rfl) (by omega))
            clear H1
            have H1:=qq ho
            clear ho hst hlk
            refine hK.out _ _ (hSof.out _ Hw.out) (fun hHeld=>?_)
            clear hK K hbt
            try go_frame
            refine draw_t 7 7 hHeld ?_
            refine draw_t 8 8 hHeld ?_
            refine wpAnyH_ready (rs:=[9]) (by kernel_rfl) (by simp) ?_
            refine AllReadyH.cons (o:=⟨none,.store 133 _ _,_,_,_,_⟩) rfl (fun K hK=>?_) AllReadyH.nil
            rw [if_pos (by rfl)]
            refine wp_store_mid 133 _ _ rfl (w.heap.size+2) 0 ([.int .i64 XG.r0,.int .i64 XG.r1,.int .i64 XG.r2,.int .i64 XG.r3,.int .i64 XG.r4,.int .i64 XG.r5]:List Value).toArray rfl rfl (H2.out.isThere (by simp)) huiR (by have h1:([.int .i64 XG.r0,.int .i64 XG.r1,.int .i64 XG.r2,.int .i64 XG.r3,.int .i64 XG.r4,.int .i64 XG.r5]:List Value).all (·.oneCell')=true:=rfl;simpa using h1) ?_
            obtain ⟨w21,hst⟩:∃ W,Hid (W=World.setCells w20 (w.heap.size+2) 0 [.int .i64 XG.r0,.int .i64 XG.r1,.int .i64 XG.r2,.int .i64 XG.r3,.int .i64 XG.r4,.int .i64 XG.r5]):=⟨_,rfl⟩
            have ho:=H2.out.setCells (vs:=[.int .i64 XG.r0,.int .i64 XG.r1,.int .i64 XG.r2,.int .i64 XG.r3,.int .i64 XG.r4,.int .i64 XG.r5]) (by simp)
            have hbt:=But.setCells (b:=(w.heap.size+2)) (w:=w20) [.int .i64 XG.r0,.int .i64 XG.r1,.int .i64 XG.r2,.int .i64 XG.r3,.int .i64 XG.r4,.int .i64 XG.r5] 0
            rw [<-hst.out] at ho hbt
            have hlk:(w.heap.size+2) < w20.heap.size:=H2.out.lt rfl
            replace HB:=qq (HB.out.trans (hbt.low (by omega) (by omega)))
            replace Hw:=qq (Hw.out.but hbt (Hw.out.lt rfl) (by omega))
            have hHRW:=zc3 [.int .i64 XG.r0,.int .i64 XG.r1,.int .i64 XG.r2,.int .i64 XG.r3,.int .i64 XG.r4,.int .i64 XG.r5] 0 _ _ HRW.out H2.out (fun j y _=>noU_rz j y) (by simp)
            have hHLW:=zc3 [.int .i64 XG.r0,.int .i64 XG.r1,.int .i64 XG.r2,.int .i64 XG.r3,.int .i64 XG.r4,.int .i64 XG.r5] 0 _ _ HLW.out H2.out (fun j y _=>noU_rz j y) (by simp)
            have hHWD:=zc3 [.int .i64 XG.r0,.int .i64 XG.r1,.int .i64 XG.r2,.int .i64 XG.r3,.int .i64 XG.r4,.int .i64 XG.r5] 0 _ _ HWD.out H2.out (fun j y _=>noU_rz j y) (by simp)
            rw [<-zb7,<-hst.out] at hHRW hHLW hHWD
            replace HRW:=qq hHRW
            replace HLW:=qq hHLW
            replace HWD:=qq hHWD
            replace HPR:=qq (show PRow w21 _ _ _ _ from VRow.butNe HPR.out hbt (fun _ ad e=>by have:=HPG.out ad e;omega))
            rw [show World.setCells w20 (w.heap.size+2) 0 (List.toArray [.int .i64 XG.r0,.int .i64 XG.r1,.int .i64 XG.r2,.int .i64 XG.r3,.int .i64 XG.r4,.int .i64 XG.r5]).toList=w21 from hst.out.symm]
            clear hHRW hHLW hHWD
            replace H1:=qq (H1.out.but hbt (H1.out.lt rfl) (by omega))
            clear H2
            have H2:=qq ho
            clear ho hst hlk
            refine hK.out _ _ (hSof.out _ Hw.out) (fun hHeld=>?_)
            clear hK K hbt
            try go_frame
            refine draw_t 10 10 hHeld ?_
            refine wpAnyH_done (by kernel_rfl) ?_ _
            go_wp2
            refine bodyPost_ret (zo1 rfl rfl rfl H1.out H2.out zd3 zk5) rfl ?_
            have hHH:collH h st wk={ XG.h with space:=1 - XG.h.space,bump:=TV }:=by unfold collH;rw [hCW.out,hBV.out]
            refine ⟨Or.inr ⟨hCE.out,?_⟩,HB.out⟩
            rw [hHH,show collS h st=RL from hRL.out,show collK h st wk=wk.map (zp2 X9) from by unfold collK;rw [hX9.out]]
            exact ⟨_,rq,rm,rc,lq,k,lc,_,_,_,_,_,_,rfl,⟨pg,ng,cg,qg,mg,dg,rfl,HWD.out,HPR.out,HWBX.out⟩,HRW.out,HLW.out⟩
end Go.Proofs.YtipjdbhocjpmdaaGreat
