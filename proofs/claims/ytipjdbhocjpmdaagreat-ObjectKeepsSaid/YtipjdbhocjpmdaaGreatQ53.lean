import Derived.Test.YtipjdbhocjpmdaaGreatQ01
import Derived.Test.YtipjdbhocjpmdaaGreatQ36
import Derived.Test.YtipjdbhocjpmdaaGreatQ45
import Derived.Test.YtipjdbhocjpmdaaGreatQ52
set_option linter.unusedSimpArgs false
set_option linter.unusedVariables false
set_option maxRecDepth 100000
set_option maxHeartbeats 12800000
namespace Go.Proofs.YtipjdbhocjpmdaaGreat
open Go.RowKit
theorem set_parts {h:Hp} {a i:Int} (v:Int) (e:zo8 h a i=0):∃ t s:Nat,a+1+i=4096+t/\t < h.words.length/\a=4096+s/\s < t/\0<=i/\i<=255/\setV h a i v={ h with words:=splice h.words t [v] }:=by
 have hl:locE h a i=0:=by
  by_cases hl:locE h a i=0
  · exact hl
  · rw [(loc_no hl).2.1] at e;exact absurd e hl
 obtain ⟨-,e2,-,-,-,e6⟩:=loc_ok hl
 obtain ⟨-,-,-,-,-,ga,gb,gn0,gn1,-⟩:=getE_in e6
 have hi:¬(i < 0\/(getH h a).n<=i):=by
  intro hi;unfold locE at hl;rw [if_pos e6,if_pos hi] at hl;cases hl
 have hset:setV h a i v={ h with words:=zc8 h.words (a+1+i) [v] }:=by unfold setV;exact if_pos e
 rw [e2] at e
 have hk:okA h.words.length (a+1+i) 1=true:=by
  cases hk:okA h.words.length (a+1+i) 1
  · unfold loadE at e;rw [hk] at e;cases e
  · rfl
 have hk2:=of_decide_eq_true hk
 obtain ⟨t,ht⟩:∃ t:Nat,a+1+i=4096+t:=⟨(a+1+i - 4096).toNat,by omega⟩
 obtain ⟨s,hs⟩:∃ s:Nat,a=4096+s:=⟨(a - 4096).toNat,by omega⟩
 refine ⟨t,s,ht,by omega,hs,by omega,by omega,by omega,?_⟩
 rw [hset,ht,(write_ok (l:=[v]) (i:=t) (by rw [ht] at hk;exact hk)).1]
theorem set_back {h:Hp} {a i:Int} (v:Int) (e:zo8 h a i=0):zo8 (setV h a i v) a i=0/\fieldV (setV h a i v) a i=v:=by
 obtain ⟨t,s,ht,htl,hs,hst,hi0,hi1,hset⟩:=set_parts v e
 have hl:locE h a i=0:=by
  by_cases hl:locE h a i=0
  · exact hl
  · rw [(loc_no hl).2.1] at e;exact absurd e hl
 have hlen:(splice h.words t [v]).length=h.words.length:=zo7 (by simp;omega)
 have hok:okH (setV h a i v)=okH h:=by rw [hset];unfold okH;simp only;rw [hlen]
 have hw:zg4 (setV h a i v) a=zg4 h a:=by
  rw [hset];unfold zg4;simp only
  rw [hs,okA_off,List.getD_eq_getElem?_getD,List.getD_eq_getElem?_getD,ya1 (by simp;omega) (Or.inl hst)]
 have hB:atB (setV h a i v) a=atB h a:=by
  have hp:zv0 (setV h a i v) a=zv0 h a:=by rw [hset];rfl
  have h1:(setV h a i v).pw=h.pw:=by rw [hset]
  have h2:(setV h a i v).np=h.np:=by rw [hset]
  unfold atB;rw [hp,hw,h1,h2]
 have hE:atE (setV h a i v) a=atE h a:=by
  have h1:(setV h a i v).pw=h.pw:=by rw [hset]
  have h2:(setV h a i v).np=h.np:=by rw [hset]
  unfold atE;rw [hok,hB,h1,h2]
 have hH:atH (setV h a i v) a=atH h a:=by unfold atH;rw [hE,hw]
 have gE:getE (setV h a i v) a=getE h a:=by unfold getE;rw [hok,hE,hH]
 have gH:getH (setV h a i v) a=getH h a:=by unfold getH;rw [gE,hH]
 have hl2:locE (setV h a i v) a i=0:=by unfold locE;rw [gE,gH];exact hl
 obtain ⟨-,e2,e3,-,-,-⟩:=loc_ok hl2
 have hk:okA (setV h a i v).words.length (4096+(t:Int)) 1=true:=by
  rw [hset];simp only;rw [hlen];exact decide_eq_true (by omega)
 have hx:(setV h a i v).words[t]?=some v:=by
  rw [hset];simp only
  rw [zy7 (by simp;omega) (Nat.le_refl _) (by simp),Nat.sub_self];rfl
 obtain ⟨f1,f2⟩:=load_ok' hk hx
 rw [e2,e3,ht]
 exact ⟨f2,f1⟩
theorem set_other {h:Hp} {a i:Int} (v:Int) (e:zo8 h a i=0):(setV h a i v).words.length=h.words.length/\∀ k:Nat,k < h.words.length->¬(4096+(k:Int))=a+1+i->(setV h a i v).words[k]?=h.words[k]?:=by
 obtain ⟨t,s,ht,htl,hs,hst,hi0,hi1,hset⟩:=set_parts v e
 rw [hset]
 refine ⟨zo7 (by simp;omega),fun k hk hne=>?_⟩
 simp only
 exact ya1 (by simp;omega) (by simp;omega)
theorem field_heap (x0 x1 x2 x3 x4 x5 x6 x7:Value) (w:World):(Instr.field 31 (.agg #[x0,x1,x2,x3,x4,x5,x6,x7]) 0).run Tryz.prog w = .ok (.agg #[x0,x1,x2,x3,x4,x5]) w:=by kernel_rfl
theorem lawKeeps (lp:Option Addr) (ln lc:Nat) (xs:List Int) (a i v:Int) (w:World) (hl:SRow w .i64 lp ln lc xs) (ha:0<=a) (ha2:a < 18446744073709551616) (hv:0<=v) (hv2:v < 18446744073709551616) :
 Calls Tryz.prog 9 #[.slice lp ln lc,.int .u64 a,.int .i64 i,.int .u64 v] w fun e w'=>e = .returned (.bool true)/\Below w.heap.size w w':=by
 have hmk:=qq (make_made lp ln lc xs w hl)
 clear hl
 go_enter Tryz.func9,Tryz.ntmps9
 go_wp2_with fail
 refine hmk.out.mono ?_
 rintro e w1 ⟨⟨v1,n,y,rfl,hn,hM,p,n,c,q,m,d,ps,ns,cs,pk,nk,ck,rfl,hs,hr,hwb,-,-⟩,hb1⟩
 have hn6:(y.h.words.length:Int)<=4096:=by have hL:=lens_made _ _ hM hn;have:=(zd6 hL.conf).2;rw [hL.words];exact this
 clear hmk hM hn
 have hfd:=fun w=>field_heap (.int .i64 y.h.pw) (.int .i64 y.h.np) (.slice p n c) (.slice q m d) (.int .i64 y.h.space) (.int .i64 y.h.bump) (.slice ps ns cs) (.slice pk nk ck) w
 go_wp2_with fail
 refine (near_any y.h p q n c m d a _ (hs.keep za1) (PRow.keep hr za1) hwb ha ha2).mono ?_
 rintro e w2 ⟨⟨us,up,un,uc,rfl,hu,hub,hun⟩,hb2⟩
 have HX:=qq ((OwnL.new w1 [.int .i64 y.h.pw,.int .i64 y.h.np,.slice p n c,.slice q m d,.int .i64 y.h.space,.int .i64 y.h.bump] 27).keep hb2 (by simp))
 have HS:=qq (hs.keep (za3 za1 hb2))
 have HP:=qq (PRow.keep hr (za3 za1 hb2))
 have HB:=qq (za3 hb1 (za3 za1 hb2))
 have HU:=qq hu
 have HW:=qq hwb
 have HUB:=qq hub
 have hu63:=hu.i63.2
 have hlen:=hs.len
 have hbx:w1.heap.size < w2.heap.size:=HX.out.lt rfl
 clear hfd hb1 hb2 hs hr hu hwb hub
 go_wp2_with fail
 go_loopw [24] (fun j wr=>∃ k:Nat,k<=un/\j = .int .i64 k/\Below w2.heap.size w2 wr) (fun j _=>un - (intOf j).toNat)
 case atStart=>exact ⟨0,by omega,rfl,Below.refl _ _⟩
 case round =>
  obtain ⟨k,hk,rfl,hb⟩:=hrel
  have HX3:=qq (HX.out.keep hb hbx)
  have HB3:=qq (za3 HB.out hb)
  have Hb:=qq hb
  by_cases hlt:k < un
  · have hlt2:(k:Int) < un:=by omega
    obtain ⟨x,ub,uo,hx,rfl,hc⟩:=(HU.out.keep hb).at_ (k:=k) hlt
    have hxb:=HUB.out x (List.mem_of_getElem? hx)
    have y0:=HX3.out.cell 0 _ rfl
    have y1:=HX3.out.cell 1 _ rfl
    have y2:=HX3.out.cell 2 _ rfl
    have y3:=HX3.out.cell 3 _ rfl
    have y4:=HX3.out.cell 4 _ rfl
    have y5:=HX3.out.cell 5 _ rfl
    obtain ⟨I,hI⟩:∃ I,bits BinOp.and IntKind.i64 i 3=I:=⟨_,rfl⟩
    have hset:=qq (psetf_any y.h p q n c m d x I wr (HS.out.keep hb) (PRow.keep HP.out hb) HW.out hxb.1 hxb.2 v hv hv2)
    obtain ⟨Y,hY⟩:∃ Y,Hid (setV y.h x I v=Y):=⟨_,rfl⟩
    rw [hY.out] at hset
    clear hx hb
    by_cases hF:zo8 y.h x I=0
    · rw [hF] at hset
      obtain ⟨t,s,ht,htl,hs0,hst,hI0,hI1,-⟩:=set_parts v hF
      obtain ⟨g1,g2⟩:=set_back v hF
      obtain ⟨o1,o2⟩:=set_other v hF
      rw [hY.out] at g1 g2 o1 o2
      have Ht:=qq ht
      have Hs0:=qq hs0
      have O1:=qq o1
      have O2:=qq o2
      have HI:=qq (And.intro hI0 hI1)
      have Htl:=qq htl
      have Hst:=qq hst
      have Hlen:=qq hlen
      clear ht hs0 o1 o2 hI0 hI1 htl hst hlen hF
      go_wp2_with fail
      refine hset.out.mono ?_
      rintro e w3 ⟨⟨v3,rfl,p3,n3,c3,q3,m3,d3,rfl,hs3,hr3,hw3⟩,hb3⟩
      have HX4:=qq (HX3.out.keep hb3 (HX3.out.lt rfl))
      have HB4:=qq (za3 Hb.out hb3)
      have hbx3:w1.heap.size < w3.heap.size:=HX4.out.lt rfl
      have hfl:=qq (fun w' (hb:Below w3.heap.size w3 w')=>pfield_any Y p3 q3 n3 c3 m3 d3 x I w' (hs3.keep hb) (PRow.keep hr3 hb) hw3 hxb.1 hxb.2)
      rw [g1,g2] at hfl
      have HS4:=qq hs3
      have hn4:n3=n:=by have:=hs3.len;have:=O1.out;have:=Hlen.out;omega
      clear hset hb3 HX3 HB3 Hb y0 y1 y2 y3 y4 y5 hs3 hr3 hw3 g1 g2 hc
      subst hn4
      go_wp2_with fail
      refine (hfl.out _ za1).mono ?_
      rintro e w5 ⟨rfl,hb5⟩
      have n2:=za5 hb5 2 (v:=.slice p3 n3 c3) rfl
      have HX5:=qq ((HX4.out.keep za1 hbx3).keep hb5 (by simp;omega))
      have y2:=HX5.out.cell 2 _ rfl
      have HB5:=qq (za3 HB4.out (za3 za1 hb5))
      have HS5:=qq (HS4.out.keep (za3 za1 hb5))
      have HO5:=qq (HS.out.keep HB5.out)
      have HXS:=HX5.out.lt rfl
      have HNS:w3.heap.size < w5.heap.size:=zb4 n2
      clear hfl hb5 HX4 HB4 HS4 HX5
      go_wp2_with fail
      go_loopw [16] (fun j wr=>∃ k2:Nat,k2<=n3/\j = .int .i64 k2/\Below w5.heap.size w5 wr) (fun j _=>n3 - (intOf j).toNat)
      case atStart=>exact ⟨0,by omega,rfl,Below.refl _ _⟩
      case round =>
       obtain ⟨k2,hk2,rfl,hb2⟩:=hrel
       have z2:=za0 hb2 y2
       have m2:=za0 hb2 n2
       have HB6:=qq hb2
       by_cases hlt3:k2 < n3
       · have hlt4:(k2:Int) < n3:=by omega
         have hn9i:(n3:Int)<=4096:=by have:=Hlen.out;omega
         obtain ⟨A,b1,o1,hA,e1,hc1⟩:=(HO5.out.keep hb2).at_ (k:=k2) hlt3
         obtain ⟨A',b2,o2,hA',e2,hc2⟩:=(HS5.out.keep hb2).at_ (k:=k2) hlt3
         subst e1 e2
         have hxt:=Ht.out
         have hi2:=HI.out
         have hln:=Hlen.out
         have htl:=Htl.out
         obtain ⟨K,hK⟩:∃ K,(4096+(k2:Int))=K:=⟨_,rfl⟩
         obtain ⟨X1,hX1⟩:∃ X1,x+1=X1:=⟨_,rfl⟩
         obtain ⟨T,hT⟩:∃ T,X1+I=T:=⟨_,rfl⟩
         have w1':IntKind.i64.wrap K=K:=IntWalk.i64_in _ (by omega)
         have w2':IntKind.u64.wrap K=K:=IntWalk.u64_in _ (by omega)
         have w3':IntKind.u64.wrap X1=X1:=IntWalk.u64_in _ (by omega)
         have w4':IntKind.u64.wrap I=I:=IntWalk.u64_in _ (by omega)
         have w5':IntKind.u64.wrap T=T:=IntWalk.u64_in _ (by omega)
         by_cases hkt:k2=t
         · have hne:(K != T)=false:=by rw [bne_eq_false_iff_eq];omega
           clear hA hA' hb2 hxt hi2 hln htl hkt HO5
           go_wp2_with fail
           go_quiet (fail)
           go_wp2
           go_roundw
           case rel =>
            clear w1' w2' w3' w4' w5' hK hX1 hT hI hne
            exact ⟨k2+1,by omega,by go_num,below_drewN HB6.out _⟩
           case measure =>
            clear w1' w2' w3' w4' w5' hK hX1 hT hI hne
            simp [intOf];omega
         · have hAA:A'=A:=by
            have:=O2.out k2 (by omega) (by omega)
            rw [hA,hA'] at this
            exact Option.some.inj this
           subst hAA
           have hne:(K != T)=true:=bne_iff_ne.2 (by omega)
           clear hA hA' hb2 hxt hi2 hln htl hkt
           go_wp2_with fail
           go_quiet (fail)
           go_wp2
           go_roundw
           case rel =>
            clear w1' w2' w3' w4' w5' hK hX1 hT hI hne
            exact ⟨k2+1,by omega,by go_num,below_drewN HB6.out _⟩
           case measure =>
            clear w1' w2' w3' w4' w5' hK hX1 hT hI hne
            simp [intOf];omega
       · obtain rfl:k2=n3:=by omega
         clear hlt3 hb2
         go_wp2
         go_roundw
         case rel=>exact ⟨k+1,by omega,by go_num,za3 HB5.out HB6.out⟩
         case measure=>simp [intOf];omega
    · obtain ⟨F,hF2⟩:∃ F,Hid (zo8 y.h x I=F):=⟨_,rfl⟩
      rw [hF2.out] at hset hF
      have hne:(F != 0)=true:=bne_iff_ne.2 hF
      clear hF hF2
      go_wp2_with fail
      refine hset.out.mono ?_
      rintro e w3 ⟨⟨v3,rfl,p3,n3,c3,q3,m3,d3,rfl,-,-,-⟩,hb3⟩
      have HB4:=qq (za3 Hb.out hb3)
      clear hset hb3 HX3 HB3 Hb y0 y1 y2 y3 y4 y5
      go_wp2
      go_roundw
      case rel=>exact ⟨k+1,by omega,by go_num,za3 HB4.out za1⟩
      case measure=>simp [intOf];omega
  · obtain rfl:k=un:=by omega
    clear hlt hb
    go_wp2_with fail
    refine (awake_any _).mono ?_
    rintro e w3 ⟨rfl,hb3⟩
    have HB4:=qq (za3 HB3.out hb3)
    clear hb3
    go_wp2
    go_ret
    exact ⟨rfl,HB4.out⟩
end Go.Proofs.YtipjdbhocjpmdaaGreat
