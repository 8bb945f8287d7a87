import Derived.Test.YtipjdbhocjpmdaaGreatQ01
import Derived.Test.YtipjdbhocjpmdaaGreatQ16
import Derived.Deep.DeepCutAuto
set_option linter.unusedSimpArgs false
set_option linter.unusedVariables false
set_option maxRecDepth 100000
set_option maxHeartbeats 12800000
namespace Go.Proofs.YtipjdbhocjpmdaaGreat
open Go.RowKit
theorem refPins_is {n:Int} {b:Bool} (h:zh3 n=b) (w:World) :
 Calls Tryz.prog 56 #[.int .i64 n] w fun e w'=>e = .returned (.bool b)/\w=w':=by
 subst h;exact refPins_any n w
theorem tails_le (sp:Int):∀ ps:List Pg,zo2 sp ps<=ps.length
 | []=>Nat.le_refl _
 | x :: r=>by have:=tails_le sp r;unfold zo2;rw [List.length_cons];split <;> omega
theorem proper_loop (pw np:Int) (p q:Option Addr) (n c m d:Nat) (sp bp:Int) (ps:List Pg) (w:World) (hv:zb8 pw np=true) (h1:(n:Int)=np*pw) (h2:(m:Int)=np) (h3:0<=sp) (h4:sp<=1) (hr:PRow w q m d ps) (hbp:zm7 ps bp=true) :
 Calls Tryz.prog 15 #[.agg #[.int .i64 pw,.int .i64 np,.slice p n c,.slice q m d,.int .i64 sp,.int .i64 bp]] w fun e w'=>e = .returned (.bool (zf0 pw np ps 0))/\Below w.heap.size w w':=by
 have hc:=qq (fun w=>zg0 hv w)
 obtain ⟨g1,g2⟩:=zd6 hv
 obtain ⟨k1,k2,-,k4,k5⟩:=zb1 hv
 have b1:((n:Int) != np*pw)=false:=by rw [h1];simp
 have b2:((m:Int) != np)=false:=by rw [h2];simp
 have hm64:m<=64:=by omega
 have Hr:=qq hr
 have Hlen:=qq hr.len
 clear hv h1 h2 hr
 go_enter Tryz.func15,Tryz.ntmps15
 go_wp2_with fail
 refine (hc.out _).mono ?_
 rintro e w1 ⟨rfl,hb1⟩
 have c0:=za5 hb1 0 (v:=.int .i64 pw) rfl
 have c1:=za5 hb1 1 (v:=.int .i64 np) rfl
 have c2:=za5 hb1 2 (v:=.slice p n c) rfl
 have c3:=za5 hb1 3 (v:=.slice q m d) rfl
 have c4:=za5 hb1 4 (v:=.int .i64 sp) rfl
 have c5:=za5 hb1 5 (v:=.int .i64 bp) rfl
 have hw1:=za4 hb1
 have Hr1:=qq (Hr.out.keep hw1)
 clear hc hb1 Hr
 go_upto_region 3 with fail
 go_cut [68] from 43 to 68 (fun t wx=>t = .bool false/\wx=w1)
 case first =>
  rcases bump_cases ps bp with h | ⟨h,h0⟩ | ⟨h0,h⟩ | ⟨k,x,rfl,hx⟩
  · subst h
    clear hbp
    go_wp2_with fail
    go_meet
    exact ⟨rfl,rfl⟩
  · exfalso;unfold zm7 at hbp;have:=of_decide_eq_true hbp;omega
  · exfalso;unfold zm7 at hbp;have:=of_decide_eq_true hbp;omega
  · rw [bumpB_at hx] at hbp
    have hkm:k < m:=by have:=(List.getElem?_eq_some_iff.1 hx).1;rw [Hlen.out] at this;exact this
    obtain ⟨x',b,off,hx',rfl,z0,-,-,-⟩:=Hr1.out.at_ hkm
    obtain rfl:x=x':=by rw [hx] at hx';exact Option.some.inj hx'
    have b5:((k:Int) != -1)=true:=bne_iff_ne.2 (by omega)
    have hk1:x.kind=1:=of_decide_eq_true hbp
    rw [hk1] at z0
    have hki:(k:Int) < m:=by omega
    clear hbp hx hx' hk1
    go_wp2_with fail
    go_meet
    exact ⟨congrArg Value.bool (by simp;omega),rfl⟩
 case rest =>
  obtain ⟨rfl,rfl⟩:=hcut
  clear hbp h3 h4
  go_wp2_with fail
  go_loopw [3,4] (fun u i wr=>∃ (k:Nat) (due:Int),k<=m/\0<=due/\due<=4/\zf0 pw np (ps.drop k) due=zf0 pw np ps 0/\u = .int .i64 due/\i = .int .i64 k/\Below wc.heap.size wc wr) (fun _ i _=>m - (intOf i).toNat)
  case atStart=>exact ⟨0,0,by omega,by omega,by omega,rfl,rfl,rfl,Below.refl _ _⟩
  case round =>
   obtain ⟨k,due,hk,hd0,hd4,hf,rfl,rfl,hb⟩:=hrel
   have Hf:=qq hf
   have c0:=za0 hb c0
   have c1:=za0 hb c1
   have c2:=za0 hb c2
   have c3:=za0 hb c3
   have c4:=za0 hb c4
   have c5:=za0 hb c5
   have hbw:=za3 hw1 hb
   have Hrk:=qq (Hr1.out.keep hb)
   clear hf
   by_cases hlt:k < m
   · obtain ⟨x,b,off,hx,rfl,z0,z1,z2,z3⟩:=Hrk.out.at_ hlt
     have hlt2:(k:Int) < m:=by omega
     have lh:w.heap.size < wr.heap.size:=zb4 c0
     have hbx:Below w.heap.size w (wr.alloc (.cells #[.int .i64 x.kind,.int .i64 x.space,.int .i64 x.used,.int .i64 x.pins] 77)):=za3 hbw za1
     obtain ⟨xk,xs,xu,xp⟩:=x
     simp only at z0 z1 z2 z3 hbx
     have Hx:=qq hx
     clear hx
     by_cases hA:¬(xk=3↔0 < due)\/xs < 0\/1 < xs\/zh3 xp=false
     · have Hs:=qq (zn0 Hx.out (step_first (pw:=pw) (np:=np) (r:=ps.drop (k+1)) hA))
       by_cases h3:xk=3
       · subst h3
         by_cases hdu:0 < due
         · by_cases hs0:xs < 0
           · clear hA
             go_wp2
             go_ret
             exact ⟨za9 (by rw [<-Hf.out,Hs.out]),hbx⟩
           · by_cases hs1:1 < xs
             · clear hA
               go_wp2
               go_ret
               exact ⟨za9 (by rw [<-Hf.out,Hs.out]),hbx⟩
             · have hp0:zh3 xp=false:=by
                rcases hA with h | h | h | h
                · exact absurd (Iff.intro (fun _=>hdu) (fun _=>rfl)) h
                · exact absurd h hs0
                · exact absurd h hs1
                · exact h
               have hp:=qq (fun w=>refPins_is hp0 w)
               clear hA hp0
               go_wp2_with fail
               refine (hp.out _).mono ?_
               rintro e w' ⟨rfl,rfl⟩
               go_wp2
               go_ret
               exact ⟨za9 (by rw [<-Hf.out,Hs.out]),hbx⟩
         · clear hA
           go_wp2
           go_ret
           exact ⟨za9 (by rw [<-Hf.out,Hs.out]),hbx⟩
       · have kb:(xk == 3)=false:=beq_eq_false_iff_ne.2 h3
         by_cases hdu:0 < due
         · clear hA h3
           go_wp2
           go_ret
           exact ⟨za9 (by rw [<-Hf.out,Hs.out]),hbx⟩
         · by_cases hs0:xs < 0
           · clear hA h3
             go_wp2
             go_ret
             exact ⟨za9 (by rw [<-Hf.out,Hs.out]),hbx⟩
           · by_cases hs1:1 < xs
             · clear hA h3
               go_wp2
               go_ret
               exact ⟨za9 (by rw [<-Hf.out,Hs.out]),hbx⟩
             · have hp0:zh3 xp=false:=by
                rcases hA with h | h | h | h
                · exact absurd (Iff.intro (fun e=>absurd e h3) (fun e=>absurd e hdu)) h
                · exact absurd h hs0
                · exact absurd h hs1
                · exact h
               have hp:=qq (fun w=>refPins_is hp0 w)
               clear hA hp0 h3
               go_wp2_with fail
               refine (hp.out _).mono ?_
               rintro e w' ⟨rfl,rfl⟩
               go_wp2
               go_ret
               exact ⟨za9 (by rw [<-Hf.out,Hs.out]),hbx⟩
     · have hA1:xk=3↔0 < due:=Classical.byContradiction fun h=>hA (Or.inl h)
       have hA2:0<=xs:=by omega
       have hA3:xs<=1:=by omega
       have hA4:zh3 xp=true:=by
        cases h:zh3 xp
        · exact absurd (Or.inr (Or.inr (Or.inr h))) hA
        · rfl
       have HA:=qq hA
       have hp:=qq (fun w=>refPins_is hA4 w)
       clear hA hA4
       by_cases h0:xk=0
       · subst h0
         have hdue:¬0 < due:=fun h=>by have:=hA1.2 h;omega
         obtain rfl:due=0:=by omega
         clear hA1 hdue
         by_cases hz:xs=0/\xu=0/\xp=0
         · obtain ⟨rfl,rfl,rfl⟩:=hz
           have Hs:=qq (yc3 Hx.out ((step_k0 (pw:=pw) (np:=np) (r:=ps.drop (k+1)) HA.out rfl).trans (if_pos rfl)))
           go_wp2_with fail
           refine (hp.out _).mono ?_
           rintro e w' ⟨rfl,rfl⟩
           go_wp2
           go_roundw
           case rel=>exact ⟨k+1,0,by omega,by omega,by omega,by rw [<-Hf.out,Hs.out];rfl,rfl,by go_num,za3 hb za1⟩
           case measure=>simp [intOf];omega
         · have hnz:¬(⟨0,xs,xu,xp⟩:Pg)=Pg.zero:=fun e=>hz (by injection e with _ e1 e2 e3;exact ⟨e1,e2,e3⟩)
           have Hs:=qq (zn0 Hx.out ((step_k0 (pw:=pw) (np:=np) (r:=ps.drop (k+1)) HA.out rfl).trans (if_neg hnz)))
           clear hnz
           by_cases h1:xs=0
           · subst h1
             by_cases h2:xu=0
             · subst h2
               have bb:(xp == 0)=false:=beq_eq_false_iff_ne.2 fun h=>hz ⟨rfl,rfl,h⟩
               clear hz
               go_wp2_with fail
               refine (hp.out _).mono ?_
               rintro e w' ⟨rfl,rfl⟩
               go_wp2
               go_ret
               exact ⟨za9 (by rw [<-Hf.out,Hs.out]),hbx⟩
             · have bb:(xu == 0)=false:=beq_eq_false_iff_ne.2 h2
               clear hz h2
               go_wp2_with fail
               refine (hp.out _).mono ?_
               rintro e w' ⟨rfl,rfl⟩
               go_wp2
               go_ret
               exact ⟨za9 (by rw [<-Hf.out,Hs.out]),hbx⟩
           · have bb:(xs == 0)=false:=beq_eq_false_iff_ne.2 h1
             clear hz h1
             go_wp2_with fail
             refine (hp.out _).mono ?_
             rintro e w' ⟨rfl,rfl⟩
             go_wp2
             go_ret
             exact ⟨za9 (by rw [<-Hf.out,Hs.out]),hbx⟩
       · by_cases h1:xk=1
         · subst h1
           have hdue:¬0 < due:=fun h=>by have:=hA1.2 h;omega
           obtain rfl:due=0:=by omega
           clear hA1 hdue
           by_cases hu0:xu < 0
           · have Hs:=qq (zn0 Hx.out ((step_k1 (pw:=pw) (np:=np) (r:=ps.drop (k+1)) HA.out rfl).trans (if_pos (Or.inl hu0))))
             clear h0
             go_wp2_with fail
             refine (hp.out _).mono ?_
             rintro e w' ⟨rfl,rfl⟩
             go_wp2
             go_ret
             exact ⟨za9 (by rw [<-Hf.out,Hs.out]),hbx⟩
           · by_cases hu1:pw < xu
             · have Hs:=qq (zn0 Hx.out ((step_k1 (pw:=pw) (np:=np) (r:=ps.drop (k+1)) HA.out rfl).trans (if_pos (Or.inr hu1))))
               clear h0
               go_wp2_with fail
               refine (hp.out _).mono ?_
               rintro e w' ⟨rfl,rfl⟩
               go_wp2
               go_ret
               exact ⟨za9 (by rw [<-Hf.out,Hs.out]),hbx⟩
             · have Hs:=qq (yc3 Hx.out ((step_k1 (pw:=pw) (np:=np) (r:=ps.drop (k+1)) HA.out rfl).trans (if_neg (show ¬(xu < 0\/pw < xu) by omega))))
               clear h0
               go_wp2_with fail
               refine (hp.out _).mono ?_
               rintro e w' ⟨rfl,rfl⟩
               go_wp2
               go_roundw
               case rel=>exact ⟨k+1,0,by omega,by omega,by omega,by rw [<-Hf.out,Hs.out];rfl,rfl,by go_num,za3 hb za1⟩
               case measure=>simp [intOf];omega
         · by_cases h2:xk=2
           · subst h2
             have hdue:¬0 < due:=fun h=>by have:=hA1.2 h;omega
             obtain rfl:due=0:=by omega
             clear hA1 hdue
             obtain ⟨nb1,nb2⟩:=need_bd pw np xu
             have hn:=qq (fun w=>zy1 pw np xu w)
             have HS:=qq (step_k2 (pw:=pw) (np:=np) (x:=⟨2,xs,xu,xp⟩) (r:=ps.drop (k+1)) HA.out rfl)
             simp only at HS
             obtain ⟨K,hK⟩:∃ K,Hid (zb6 pw np xu=K):=⟨_,rfl⟩
             rw [hK.out] at hn HS nb1 nb2
             obtain ⟨T,hT⟩:∃ T,Hid (zo2 xs (ps.drop (k+1))=T):=⟨_,rfl⟩
             rw [hT.out] at HS
             have hTl:T<=100:=by rw [<-hT.out];have:=tails_le xs (ps.drop (k+1));rw [List.length_drop,Hlen.out] at this;omega
             clear h0 h1
             by_cases hK1:K < 1
             · have Hs:=qq (zn0 Hx.out (HS.out.trans (if_pos (Or.inl hK1))))
               clear HS
               go_wp2_with fail
               refine (hp.out _).mono ?_
               rintro e w' ⟨rfl,rfl⟩
               go_wp2_with fail
               refine (hn.out _).mono ?_
               rintro e w2 ⟨rfl,hb2⟩
               have hb2x:=za3 hbx hb2
               go_wp2
               go_ret
               exact ⟨za9 (by rw [<-Hf.out,Hs.out]),hb2x⟩
             · by_cases hK2:(T:Int) < K - 1
               · have Hs:=qq (zn0 Hx.out (HS.out.trans (if_pos (Or.inr hK2))))
                 clear HS
                 go_wp2_with fail
                 refine (hp.out _).mono ?_
                 rintro e w' ⟨rfl,rfl⟩
                 go_wp2_with fail
                 refine (hn.out _).mono ?_
                 rintro e w2 ⟨rfl,hb2⟩
                 have hb2x:=za3 hbx hb2
                 have hbw2:=za3 (za1 (w:=wr) (o:=.cells #[.int .i64 2,.int .i64 xs,.int .i64 xu,.int .i64 xp] 77)) hb2
                 have e3:=za0 hbw2 c3
                 have y1:=za5 hb2 1 (v:=.int .i64 xs) rfl
                 go_wp2_with fail
                 refine (refTails_any _ m d ps k xs w2 (Hrk.out.keep hbw2) hlt).mono ?_
                 rw [hT.out]
                 rintro e w' ⟨rfl,rfl⟩
                 go_wp2
                 go_ret
                 exact ⟨za9 (by rw [<-Hf.out,Hs.out]),hb2x⟩
               · have Hs:=qq (yc3 Hx.out (HS.out.trans (if_neg (by omega))))
                 clear HS
                 go_wp2_with fail
                 refine (hp.out _).mono ?_
                 rintro e w' ⟨rfl,rfl⟩
                 go_wp2_with fail
                 refine (hn.out _).mono ?_
                 rintro e w2 ⟨rfl,hb2⟩
                 have hb2x:=za3 hbx hb2
                 have hbw2:=za3 (za1 (w:=wr) (o:=.cells #[.int .i64 2,.int .i64 xs,.int .i64 xu,.int .i64 xp] 77)) hb2
                 have e3:=za0 hbw2 c3
                 have y1:=za5 hb2 1 (v:=.int .i64 xs) rfl
                 go_wp2_with fail
                 refine (refTails_any _ m d ps k xs w2 (Hrk.out.keep hbw2) hlt).mono ?_
                 rw [hT.out]
                 rintro e w' ⟨rfl,rfl⟩
                 go_wp2
                 go_roundw
                 case rel=>exact ⟨k+1,max 0 (K - 1),by omega,by omega,by omega,by rw [<-Hf.out,Hs.out],by congr 1;split <;> omega,by go_num,za3 hb hbw2⟩
                 case measure=>simp [intOf];omega
           · by_cases h3:xk=3
             · subst h3
               have hdue:0 < due:=hA1.1 rfl
               clear hA1 h0 h1 h2
               by_cases hu:xu=0
               · subst hu
                 by_cases hpz:xp=0
                 · subst hpz
                   have Hs:=qq (yc3 Hx.out ((step_k3 (pw:=pw) (np:=np) (r:=ps.drop (k+1)) HA.out rfl).trans (if_pos ⟨rfl,rfl⟩)))
                   go_wp2_with fail
                   refine (hp.out _).mono ?_
                   rintro e w' ⟨rfl,rfl⟩
                   go_wp2
                   go_roundw
                   case rel=>exact ⟨k+1,max 0 (due - 1),by omega,by omega,by omega,by rw [<-Hf.out,Hs.out],by congr 1;split <;> omega,by go_num,za3 hb za1⟩
                   case measure=>simp [intOf];omega
                 · have Hs:=qq (zn0 Hx.out ((step_k3 (pw:=pw) (np:=np) (r:=ps.drop (k+1)) HA.out rfl).trans (if_neg fun h=>hpz h.2)))
                   have bb:(xp != 0)=true:=bne_iff_ne.2 hpz
                   clear hpz
                   go_wp2_with fail
                   refine (hp.out _).mono ?_
                   rintro e w' ⟨rfl,rfl⟩
                   go_wp2
                   go_ret
                   exact ⟨za9 (by rw [<-Hf.out,Hs.out]),hbx⟩
               · have Hs:=qq (zn0 Hx.out ((step_k3 (pw:=pw) (np:=np) (r:=ps.drop (k+1)) HA.out rfl).trans (if_neg fun h=>hu h.1)))
                 have bb:(xu != 0)=true:=bne_iff_ne.2 hu
                 clear hu
                 go_wp2_with fail
                 refine (hp.out _).mono ?_
                 rintro e w' ⟨rfl,rfl⟩
                 go_wp2
                 go_ret
                 exact ⟨za9 (by rw [<-Hf.out,Hs.out]),hbx⟩
             · have hdue:¬0 < due:=fun h=>h3 (hA1.2 h)
               obtain rfl:due=0:=by omega
               have Hs:=qq (zn0 Hx.out (step_other (pw:=pw) (np:=np) (r:=ps.drop (k+1)) HA.out h0 h1 h2 h3))
               have b0:(xk == 0)=false:=beq_eq_false_iff_ne.2 h0
               have b1:(xk == 1)=false:=beq_eq_false_iff_ne.2 h1
               have b2:(xk == 2)=false:=beq_eq_false_iff_ne.2 h2
               have b3:(xk == 3)=false:=beq_eq_false_iff_ne.2 h3
               clear hA1 hdue h0 h1 h2 h3
               go_wp2_with fail
               refine (hp.out _).mono ?_
               rintro e w' ⟨rfl,rfl⟩
               go_wp2
               go_ret
               exact ⟨za9 (by rw [<-Hf.out,Hs.out]),hbx⟩
   · obtain rfl:m=k:=by omega
     have E:Hid (zf0 pw np (ps.drop m) due=true):=by unfold Hid;rw [List.drop_eq_nil_of_le (by rw [Hlen.out];exact Nat.le_refl _)];rfl
     go_wp2
     go_ret
     exact ⟨za9 (by rw [<-Hf.out,E.out]),hbw⟩
end Go.Proofs.YtipjdbhocjpmdaaGreat
