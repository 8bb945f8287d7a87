import Derived.Test.YtfjkjbffdhoejaaGreatV01
import Derived.Test.YtfjkjbffdhoejaaGreatV03
import Derived.Test.YtfjkjbffdhoejaaGreatV07
import Derived.Laws.Bits64
set_option linter.unusedSimpArgs false
set_option linter.unusedVariables false
set_option maxRecDepth 100000
set_option maxHeartbeats 4000000
noncomputable section
namespace Go.VI
abbrev rl(X Y:Type)(f:X->Option (X⊕Y))(x:X):Option Y:=runLoop f x
abbrev fg(X Y V:Type)(f:V->X->Option (X⊕Y))(L:List V)(x:X):Option (X⊕Y):=ziB f L x
end Go.VI
namespace Go.VI
open Go
abbrev W(n:Int):Int:=IntKind.i64.wrap n
abbrev U(n:Int):Int:=IntKind.u64.wrap n
abbrev U32(n:Int):Int:=IntKind.u32.wrap n
abbrev CfD:=Int×Int×Unit
abbrev PgD:=Int×Int×Int×Int×Unit
abbrev HpD:=CfD×List Int×List PgD×Int×Int×Unit
abbrev PG0:PgD:=(0,0,0,0,())
abbrev H0:HpD:=((0,0,()),[],[],0,0,())
def Tot{α:Type}(Q:α->Prop)(o:Option α):Prop:=∃ r,o=some r/\Q r
theorem Tot.mono{α:Type}{P Q:α->Prop}{o:Option α}(h:Tot P o)(f:∀ r,P r->Q r):Tot Q o:=h.imp fun _ k=>⟨k.1,f _ k.2⟩
theorem zad{α β:Type}{P:α->Prop}{Q:β->Prop}{o:Option α}{f:α->Option β}(h:Tot P o)(k:∀ r,P r->Tot Q (f r)):Tot Q (o.bind f):=by
 obtain ⟨r,rfl,hr⟩:=h;exact k r hr
theorem zac{α:Type}{Q:α->Prop}{c:Bool}{a b:Option α}(h:c=true->Tot Q a)(k:c=false->Tot Q b):Tot Q (cond c a b):=by
 cases c
 . exact k rfl
 . exact h rfl
theorem zae{α:Type}{Q:α->Prop}{c:Bool}{a:Option α}(h:c=true)(k:Tot Q a):Tot Q (cond c a none):=by
 subst h;exact k
theorem zab{α:Type}{Q:α->Prop}{r:α}(h:Q r):Tot Q (some r):=⟨r,rfl,h⟩
theorem zaR{α β γ:Type}{Q:γ->Prop}{y:α⊕β}{l:α->Option γ}{r:β->Option γ}(h:∀ a,y = .inl a->Tot Q (l a))(k:∀ b,y = .inr b->Tot Q (r b)):Tot Q (Sum.elim l r y):=by
 cases y
 . exact h _ rfl
 . exact k _ rfl
theorem zai{X Y:Type}{f:X->Option (X⊕Y)}{x:X}(Inv:X->Prop)(μ:X->Nat){Q:Y->Prop}(h0:Inv x)(h:∀ x,Inv x->Tot (Sum.elim (fun x'=>Inv x'/\μ x'<μ x) Q) (f x)):Tot Q (runLoop f x):=by
 have key:∀ (n:Nat) (x:X),μ x<=n->Inv x->∃ k y,iter f k x=some y/\Q y:=by
  intro n;induction n with
  | zero=>
   intro x hx hi;obtain ⟨r,hr,hq⟩:=h x hi;cases r with
   | inl x'=>have:=hq.2;omega
   | inr y=>exact ⟨1,y,by simp [iter,hr],hq⟩
  | succ n ih=>
   intro x hx hi;obtain ⟨r,hr,hq⟩:=h x hi;cases r with
   | inl x'=>
    obtain ⟨k,y,h1,h2⟩:=ih x' (by have:=hq.2;omega) hq.1
    exact ⟨k+1,y,by simp [iter,hr,h1],h2⟩
   | inr y=>exact ⟨1,y,by simp [iter,hr],hq⟩
 obtain ⟨k,y,h1,h2⟩:=key (μ x) x (qao _) h0;exact ⟨y,zoh h1,h2⟩
theorem W_id{n:Int}(h : -9223372036854775808<=n/\n<9223372036854775808):W n=n:=by rw [W,IntKind.wrap_i64];omega
theorem U_id{n:Int}(h:0<=n/\n<18446744073709551616):U n=n:=by rw [U,IntKind.wrap_u64];omega
theorem zag{i:Int}{n:Nat}:inB i n=true↔0<=i/\i<n:=by simp [inB]
theorem zak{n b:Nat}:zaA n b=true↔n*b<=140737488355328:=by simp [zaA]
end Go.VI
namespace Go.VI
open Go
theorem zeN:F_made_Tape_Conf=fun (d:AQ)=>(F_made_Tape_Next (d.1,4,())).bind
 fun (r:An)=>
 bif inB r.1.1 [16,16,20,32].length then (F_made_Tape_Next (r.2.1,5,())).bind
 fun (r_1:An)=>
 bif inB r_1.1.1 [8,12,16,20,24].length then some ((([16,16,20,32].getD r.1.1.toNat 0,[8,12,16,20,24].getD r_1.1.1.toNat 0,()),()),r_1.2)
 else none
 else none:=by
  unfold F_made_Tape_Conf
  funext d
  kernel_rfl
theorem zjA:F_made_Tape_Done=fun (d:AQ)=>some ((decide (d.1.2.1 >= (d.1.1.length:Int)),()),d):=by
 unfold F_made_Tape_Done
 funext d
 kernel_rfl
theorem zjx:F_r04_SmallWords=fun (d:Ad)=>(F_r04_ValidConf d).bind
 fun (r:A5)=>
 bif !r.1.1 then some ((0,()),())
 else bif !4 == 0 then some ((W (d.1.1.tdiv 4),()),())
 else none:=by
  unfold F_r04_SmallWords
  funext d
  kernel_rfl
theorem zhs:F_made_Tape_Header=fun (d:A4×Ag×Unit)=>(F_r04_SmallWords d.2).bind
 fun (r:Aa)=>(F_made_Tape_Next (d.1,r.1)).bind
 fun (r_1:An)=>(F_made_Tape_Next (r_1.2.1,12,())).bind
 fun (r_2:An)=>
 bif r_2.1.1 == 0 then (F_made_Tape_Next (r_2.2.1,d.2.1.1,())).bind
 fun (r_3:An)=>(F_made_Tape_Next (r_3.2.1,4,())).bind
 fun (r_4:An)=>
 bif r_4.1.1 == 0 then some (((2,W (r.1.1+r_3.1.1),0,()),()),r_4.2)
 else bif r_4.1.1 == 1 then some (((3,W (r.1.1+r_3.1.1),0,()),()),r_4.2)
 else bif !decide (U (if 12<if 32<W (r.1.1+r_3.1.1) then 32
 else W (r.1.1+r_3.1.1) then 12
 else if 32<W (r.1.1+r_3.1.1) then 32
 else W (r.1.1+r_3.1.1))<0) then (F_made_Tape_Next (r_4.2.1,W (1*2 ^ min (U (if 12<if 32<W (r.1.1+r_3.1.1) then 32
 else W (r.1.1+r_3.1.1) then 12
 else if 32<W (r.1.1+r_3.1.1) then 32
 else W (r.1.1+r_3.1.1))).toNat IntKind.i64.bits),())).bind
 fun (r_5:An)=>some (((1,if 32<W (r.1.1+r_3.1.1) then 32
 else W (r.1.1+r_3.1.1),U32 r_5.1.1,()),()),r_5.2)
 else none
 else (F_made_Tape_Next (r_2.2.1,4,())).bind
 fun (r:An)=>
 bif r.1.1 == 0 then some (((2,r_1.1.1,0,()),()),r.2)
 else bif r.1.1 == 1 then some (((3,r_1.1.1,0,()),()),r.2)
 else bif !decide (U (if 12<if 32<r_1.1.1 then 32
 else r_1.1.1 then 12
 else if 32<r_1.1.1 then 32
 else r_1.1.1)<0) then (F_made_Tape_Next (r.2.1,W (1*2 ^ min (U (if 12<if 32<r_1.1.1 then 32
 else r_1.1.1 then 12
 else if 32<r_1.1.1 then 32
 else r_1.1.1)).toNat IntKind.i64.bits),())).bind
 fun (r:An)=>some (((1,if 32<r_1.1.1 then 32
 else r_1.1.1,U32 r.1.1,()),()),r.2)
 else none:=by
  unfold F_made_Tape_Header
  funext d
  kernel_rfl
theorem ztn:F_r04_pins=fun (d:Ao)=>some ((bif decide (d.1 >= 0) then decide (d.1<=2147483647)
 else false,()),()):=by
  unfold F_r04_pins
  funext d
  kernel_rfl
theorem ztq:F_r04_Need=fun (d:Ag×Int×Unit)=>(F_r04_ValidConf (d.1,())).bind
 fun (r:A5)=>
 bif bif !r.1.1 then true
 else decide (d.2.1<1) then some ((-1,()),())
 else (F_r04_SmallWords (d.1,())).bind
 fun (r:Aa)=>
 bif decide (d.2.1<=r.1.1) then some ((0,()),())
 else (rl Ap Ah (fun (x:Ap)=>
 bif decide (x.1.2.1<=4) then
 bif decide (W (x.1.2.1*d.1.1) >= d.2.1) then some (Sum.inr (Sum.inl (x.1.2,(),())))
 else some (Sum.inl ((x.1.1,W (x.1.2.1+1),()),(),()))
 else some (Sum.inr (Sum.inr ((x.1.1,()),(),())))) ((0,1,()),(),())).bind
 fun (r:Ah)=>Sum.elim (fun (x:Ac)=>some (x.1,())) (fun (y:Ac)=>some ((-1,()),())) r:=by
  unfold F_r04_Need
  funext d
  kernel_rfl
theorem zpB:F_r04_Proper=fun (d:B1)=>(F_r04_ValidConf (d.1.1,())).bind
 fun (r:A5)=>
 bif bif !r.1.1 then true
 else bif (d.1.2.1.length:Int) != W (d.1.1.2.1*d.1.1.1) then true
 else bif (d.1.2.2.1.length:Int) != d.1.1.2.1 then true
 else bif decide (d.1.2.2.2.1<0) then true
 else decide (d.1.2.2.2.1 > 1) then some ((false,()),())
 else bif
 bif d.1.2.2.2.2.1 != -1 then
 bif decide (d.1.2.2.2.2.1<0) then true
 else bif decide (d.1.2.2.2.2.1 >= (d.1.2.2.1.length:Int)) then true
 else inB d.1.2.2.2.2.1 d.1.2.2.1.length
 else true then
 bif bif d.1.2.2.2.2.1 != -1 then
 bif decide (d.1.2.2.2.2.1<0) then true
 else bif decide (d.1.2.2.2.2.1 >= (d.1.2.2.1.length:Int)) then true
 else (d.1.2.2.1.getD d.1.2.2.2.2.1.toNat PG0).1 != 1
 else false then some ((false,()),())
 else (rl (AE×Unit×Unit) A8 (fun (x:AE×Unit×Unit)=>
 bif decide (x.1.2.2.1<(d.1.2.2.1.length:Int)) then
 bif inB x.1.2.2.1 d.1.2.2.1.length then
 bif !((d.1.2.2.1.getD x.1.2.2.1.toNat PG0).1 == 3) == decide (x.1.2.1 > 0) then some (Sum.inr (Sum.inl ((false,()),(),())))
 else bif decide ((d.1.2.2.1.getD x.1.2.2.1.toNat PG0).2.1<0) then some (Sum.inr (Sum.inl ((false,()),(),())))
 else bif decide ((d.1.2.2.1.getD x.1.2.2.1.toNat PG0).2.1 > 1) then some (Sum.inr (Sum.inl ((false,()),(),())))
 else (F_r04_pins (d.1.2.2.1.getD x.1.2.2.1.toNat PG0).2.2.2).bind
 fun (r:A5)=>
 bif !r.1.1 then some (Sum.inr (Sum.inl ((false,()),(),())))
 else bif (d.1.2.2.1.getD x.1.2.2.1.toNat PG0).1 == 0 then
 bif !(((d.1.2.2.1.getD x.1.2.2.1.toNat PG0).1,(d.1.2.2.1.getD x.1.2.2.1.toNat PG0).2.1,(d.1.2.2.1.getD x.1.2.2.1.toNat PG0).2.2.1,(d.1.2.2.1.getD x.1.2.2.1.toNat PG0).2.2.2.1,()).1 == PG0.1&&(((d.1.2.2.1.getD x.1.2.2.1.toNat PG0).1,(d.1.2.2.1.getD x.1.2.2.1.toNat PG0).2.1,(d.1.2.2.1.getD x.1.2.2.1.toNat PG0).2.2.1,(d.1.2.2.1.getD x.1.2.2.1.toNat PG0).2.2.2.1,()).2.1 == PG0.2.1&&(((d.1.2.2.1.getD x.1.2.2.1.toNat PG0).1,(d.1.2.2.1.getD x.1.2.2.1.toNat PG0).2.1,(d.1.2.2.1.getD x.1.2.2.1.toNat PG0).2.2.1,(d.1.2.2.1.getD x.1.2.2.1.toNat PG0).2.2.2.1,()).2.2.1 == PG0.2.2.1&&(((d.1.2.2.1.getD x.1.2.2.1.toNat PG0).1,(d.1.2.2.1.getD x.1.2.2.1.toNat PG0).2.1,(d.1.2.2.1.getD x.1.2.2.1.toNat PG0).2.2.1,(d.1.2.2.1.getD x.1.2.2.1.toNat PG0).2.2.2.1,()).2.2.2.1 == PG0.2.2.2.1&&true)))) then some (Sum.inr (Sum.inl ((false,()),(),())))
 else some (Sum.inl ((x.1.1,if W (x.1.2.1-1) > 0 then W (x.1.2.1-1)
 else 0,W (x.1.2.2.1+1),()),(),()))
 else bif (d.1.2.2.1.getD x.1.2.2.1.toNat PG0).1 == 1 then
 bif bif decide ((d.1.2.2.1.getD x.1.2.2.1.toNat PG0).2.2.1<0) then true
 else decide ((d.1.2.2.1.getD x.1.2.2.1.toNat PG0).2.2.1 > d.1.1.1) then some (Sum.inr (Sum.inl ((false,()),(),())))
 else some (Sum.inl ((x.1.1,if W (x.1.2.1-1) > 0 then W (x.1.2.1-1)
 else 0,W (x.1.2.2.1+1),()),(),()))
 else bif (d.1.2.2.1.getD x.1.2.2.1.toNat PG0).1 == 2 then (F_r04_Need (d.1.1,(d.1.2.2.1.getD x.1.2.2.1.toNat PG0).2.2.1,())).bind
 fun (r:Aa)=>
 bif decide (r.1.1<1) then some (Sum.inr (Sum.inl ((false,()),(),())))
 else (F_r04_tails (d.1.2.2.1,x.1.2.2.1,(d.1.2.2.1.getD x.1.2.2.1.toNat PG0).2.1,())).bind
 fun (r_1:Aa)=>
 bif decide (r_1.1.1<W (r.1.1-1)) then some (Sum.inr (Sum.inl ((false,()),(),())))
 else some (Sum.inl ((x.1.1,if W (r.1.1-1) > 0 then W (r.1.1-1)
 else 0,W (x.1.2.2.1+1),()),(),()))
 else bif (d.1.2.2.1.getD x.1.2.2.1.toNat PG0).1 == 3 then
 bif bif (d.1.2.2.1.getD x.1.2.2.1.toNat PG0).2.2.1 != 0 then true
 else (d.1.2.2.1.getD x.1.2.2.1.toNat PG0).2.2.2.1 != 0 then some (Sum.inr (Sum.inl ((false,()),(),())))
 else some (Sum.inl ((x.1.1,if W (x.1.2.1-1) > 0 then W (x.1.2.1-1)
 else 0,W (x.1.2.2.1+1),()),(),()))
 else some (Sum.inr (Sum.inl ((false,()),(),())))
 else none
 else some (Sum.inr (Sum.inr ((x.1.1,()),(),())))) ((false,0,0,()),(),())).bind
 fun (r:A8)=>Sum.elim (fun (x:Ai)=>some (x.1,())) (fun (y:Ai)=>some ((true,()),())) r
 else none:=by
  unfold F_r04_Proper
  funext d
  kernel_rfl
theorem zrr:F_r03_Valid=fun (d:B0)=>
 bif bif decide (d.1.1<0) then true
 else bif decide (d.1.1 > 3) then true
 else bif decide (d.1.2.1<0) then true
 else decide (d.1.2.1 > 255) then some ((false,()),())
 else bif d.1.1 != 1 then some ((d.1.2.2.1 == 0,()),())
 else bif
 bif decide (d.1.2.1<=32) then !decide (U d.1.2.1<0)
 else true then some ((bif decide (d.1.2.1<=32) then decide (U d.1.2.2.1<U (1*2 ^ min (U d.1.2.1).toNat IntKind.u64.bits))
 else false,()),())
 else none:=by
  unfold F_r03_Valid
  funext d
  kernel_rfl
theorem zrn:F_r04_Limit=fun (d:Ad)=>(F_r04_ValidConf d).bind
 fun (r:A5)=>
 bif !r.1.1 then some ((0,()),())
 else bif !4 == 0 then some ((W (d.1.2.1.tdiv 4),()),())
 else none:=by
  unfold F_r04_Limit
  funext d
  kernel_rfl
theorem zrp:F_r04_InUse=fun (d:(List PgD)×Unit)=>(rl Ap Ac (fun (x:Ap)=>
 bif decide (x.1.2.1<(d.1.length:Int)) then
 bif inB x.1.2.1 d.1.length then some (Sum.inl ((bif (d.1.getD x.1.2.1.toNat PG0).1 != 0 then W (x.1.1+1)
 else x.1.1,W (x.1.2.1+1),()),(),()))
 else none
 else some (Sum.inr ((x.1.1,()),(),()))) ((0,0,()),(),())).bind
 fun (r:Ac)=>some (r.1,()):=by
  unfold F_r04_InUse
  funext d
  kernel_rfl
theorem zpA:F_r04_take_o=fun (d:(List PgD)×Int×Int×PgD×PgD×Unit)=>
 bif bif decide (d.2.1<0) then true
 else bif decide (d.2.1 >= (d.1.length:Int)) then true
 else decide (d.2.2.1 > W ((d.1.length:Int)-d.2.1)) then some (([],2,()),())
 else bif zaA (0+d.1.length) 32 then (rl AJ AF (fun (x:AJ)=>
 bif decide (x.1.2.2.1<d.2.2.1) then
 bif inB (W (d.2.1+x.1.2.2.1)) x.2.2.1.length then
 bif (x.2.2.1.getD (W (d.2.1+x.1.2.2.1)).toNat PG0).1 != 0 then some (Sum.inr (Sum.inl (([],20,()),(),x.2.2)))
 else bif inB (W (d.2.1+x.1.2.2.1)) x.2.2.1.length then some (Sum.inl ((x.1.1,x.1.2.1,W (x.1.2.2.1+1),()),(),x.2.2.1.set (W (d.2.1+x.1.2.2.1)).toNat (d.2.2.2.2.1.1,d.2.2.2.2.1.2.1,d.2.2.2.2.1.2.2.1,d.2.2.2.2.1.2.2.2.1,()),()))
 else none
 else none
 else some (Sum.inr (Sum.inr ((x.1.1,x.1.2.1,()),(),x.2.2)))) (([],0,0,()),(),d.1,())).bind
 fun (r:AF)=>Sum.elim (fun (x:B9)=>none) (fun (y:B9)=>
 bif inB d.2.1 y.2.2.1.length then some ((y.2.2.1.set d.2.1.toNat (d.2.2.2.1.1,d.2.2.2.1.2.1,d.2.2.2.1.2.2.1,d.2.2.2.1.2.2.2.1,()),0,()),())
 else none) r
 else none:=by
  unfold F_r04_take_o
  funext d
  kernel_rfl
theorem zrj:F_r07_small=fun (d:Ay)=>
 bif zaA (0+d.1.2.2.1.length) 32 then (F_r04_Limit (d.1.1,())).bind
 fun (r:Aa)=>(F_r04_InUse (d.1.2.2.1,())).bind
 fun (r_1:Aa)=>
 bif bif decide (d.1.2.2.2.2.1<0) then true
 else inB d.1.2.2.2.2.1 (d.1.2.2.1).length then
 bif bif decide (d.1.2.2.2.2.1<0) then true
 else bif ((d.1.2.2.1).getD d.1.2.2.2.2.1.toNat PG0).2.1 != d.1.2.2.2.1 then true
 else inB d.1.2.2.2.2.1 (d.1.2.2.1).length then
 bif bif decide (d.1.2.2.2.2.1<0) then true
 else bif ((d.1.2.2.1).getD d.1.2.2.2.2.1.toNat PG0).2.1 != d.1.2.2.2.1 then true
 else bif decide (W (((d.1.2.2.1).getD d.1.2.2.2.2.1.toNat PG0).2.2.1+d.2.1) > d.1.1.1) then true
 else decide (r_1.1.1 > r.1.1) then (F_r04_First (d.1.2.2.1,1,())).bind
 fun (r_2:Aa)=>
 bif bif decide (r_2.1.1<0) then true
 else decide (r_1.1.1 >= r.1.1) then some ((H0,0,false,()),())
 else (F_r04_Small_o (d.1.2.2.1,r_2.1.1,d.1.2.2.2.1,())).bind
 fun (r:Au×Unit)=>
 bif inB r_2.1.1 r.1.1.length then
 bif inB r_2.1.1 r.1.1.length then
 bif inB r_2.1.1 r.1.1.length then some (((d.1.1,d.1.2.1,r.1.1.set r_2.1.1.toNat ((r.1.1.getD r_2.1.1.toNat PG0).1,(r.1.1.getD r_2.1.1.toNat PG0).2.1,W ((r.1.1.getD r_2.1.1.toNat PG0).2.2.1+d.2.1),(r.1.1.getD r_2.1.1.toNat PG0).2.2.2.1,()),d.1.2.2.2.1,r_2.1),U (W (W (4096+W (r_2.1.1*d.1.1.1))+(r.1.1.getD r_2.1.1.toNat PG0).2.2.1)),true,()),())
 else none
 else none
 else none
 else bif inB d.1.2.2.2.2.1 (d.1.2.2.1).length then
 bif inB d.1.2.2.2.2.1 (d.1.2.2.1).length then
 bif inB d.1.2.2.2.2.1 (d.1.2.2.1).length then some (((d.1.1,d.1.2.1,(d.1.2.2.1).set d.1.2.2.2.2.1.toNat (((d.1.2.2.1).getD d.1.2.2.2.2.1.toNat PG0).1,((d.1.2.2.1).getD d.1.2.2.2.2.1.toNat PG0).2.1,W (((d.1.2.2.1).getD d.1.2.2.2.2.1.toNat PG0).2.2.1+d.2.1),((d.1.2.2.1).getD d.1.2.2.2.2.1.toNat PG0).2.2.2.1,()),d.1.2.2.2),U (W (W (4096+W (d.1.2.2.2.2.1*d.1.1.1))+((d.1.2.2.1).getD d.1.2.2.2.2.1.toNat PG0).2.2.1)),true,()),())
 else none
 else none
 else none
 else none
 else none
 else none:=by
  unfold F_r07_small
  funext d
  kernel_rfl
theorem zrk:F_r07_large=fun (d:B2)=>(F_r04_First (d.1.2.2.1,d.2.2)).bind
 fun (r:Aa)=>
 bif decide (r.1.1<0) then some ((H0,0,false,()),())
 else (F_r04_InUse (d.1.2.2.1,())).bind
 fun (r_1:Aa)=>(F_r04_Limit (d.1.1,())).bind
 fun (r_2:Aa)=>
 bif decide (W (r_1.1.1+d.2.2.1) > r_2.1.1) then some ((H0,0,false,()),())
 else (F_r04_Large (d.1.1,d.1.2.2.1,r.1.1,d.1.2.2.2.1,d.2.1,())).bind
 fun (r_3:Au×Unit)=>some (((d.1.1,d.1.2.1,r_3.1.1,d.1.2.2.2),U (W (4096+W (r.1.1*d.1.1.1))),true,()),()):=by
  unfold F_r07_large
  funext d
  kernel_rfl
theorem ztl:F_r05_Init=fun (d:A2×Int×A7×Unit)=>(F_r03_Encode d.2.2).bind
 fun (r:Ad)=>(F_r04_Proper (d.1,())).bind
 fun (r_1:A5)=>
 bif bif !r_1.1.1 then true
 else r.1.2.1 != 0 then some ((H0,1,()),())
 else bif decide (0<=d.2.2.1.2.1) then
 bif zaA ([r.1.1].length+d.2.2.1.2.1.toNat) 8 then (F_r02_Write (d.1.2.1,d.2.1,[r.1.1]++List.replicate d.2.2.1.2.1.toNat (0:Int),())).bind
 fun (r:AQ)=>
 bif r.1.2.1 != 0 then some ((H0,r.1.2),())
 else some (((d.1.1,r.1.1,d.1.2.2),0,()),())
 else none
 else none:=by
  unfold F_r05_Init
  funext d
  kernel_rfl
theorem zxC:F_r04_Of=fun (d:Ag×Int×Unit)=>(F_r04_ValidConf (d.1,())).bind
 fun (r:A5)=>
 bif !r.1.1 then some ((0,0,1,()),())
 else bif
 bif decide (d.2.1<4096) then true
 else decide (d.2.1 >= U (W (4096+W (d.1.2.1*d.1.1)))) then some ((0,0,2,()),())
 else bif !d.1.1 == 0 then
 bif !d.1.1 == 0 then some ((W ((W (U (d.2.1-4096))).tdiv d.1.1),(W (U (d.2.1-4096))).tmod d.1.1,0,()),())
 else none
 else none:=by
  unfold F_r04_Of
  funext d
  kernel_rfl
theorem zru:F_r02_Index=fun (d:A4)=>(F_r02_span (d.1,d.2.1,1,())).bind
 fun (r:AI)=>
 bif !r.1.2.1 then some ((0,2,()),())
 else some ((r.1.1,0,()),()):=by
  unfold F_r02_Index
  funext d
  kernel_rfl
theorem zrh:F_r09_class=fun (d:A2×Int×List Int×Unit)=>(rl Ap Ah (fun (x:Ap)=>
 bif decide (x.1.2.1<(d.2.2.1.length:Int)) then
 bif inB x.1.2.1 d.2.2.1.length then (F_r05_At (d.1,d.2.2.1.getD x.1.2.1.toNat 0,())).bind
 fun (r:Av×Unit)=>(F_r03_Size (r.1.1,())).bind
 fun (r_1:Aa)=>(F_r04_SmallWords (d.1.1,())).bind
 fun (r_2:Aa)=>
 bif inB d.2.1 d.1.2.2.1.length then
 bif bif (d.1.2.2.1.getD d.2.1.toNat PG0).1 == 1 then
 bif !decide (r_1.1.1<=r_2.1.1) then true
 else inB d.2.1 d.1.2.2.1.length
 else true then
 bif bif (d.1.2.2.1.getD d.2.1.toNat PG0).1 == 1 then true
 else inB d.2.1 d.1.2.2.1.length then
 bif bif
 bif (d.1.2.2.1.getD d.2.1.toNat PG0).1 == 1 then
 bif !decide (r_1.1.1<=r_2.1.1) then true
 else bif (d.1.2.2.1.getD d.2.1.toNat PG0).1 == 2 then r.1.1.1 == 0
 else false
 else bif (d.1.2.2.1.getD d.2.1.toNat PG0).1 == 2 then r.1.1.1 == 0
 else false then inB x.1.2.1 d.2.2.1.length
 else true then
 bif bif (d.1.2.2.1.getD d.2.1.toNat PG0).1 == 1 then
 bif !decide (r_1.1.1<=r_2.1.1) then true
 else bif (d.1.2.2.1.getD d.2.1.toNat PG0).1 == 2 then r.1.1.1 == 0
 else false
 else bif (d.1.2.2.1.getD d.2.1.toNat PG0).1 == 2 then r.1.1.1 == 0
 else false then some (Sum.inr (Sum.inl ((d.2.2.1.getD x.1.2.1.toNat 0,()),(),())))
 else some (Sum.inl ((x.1.1,W (x.1.2.1+1),()),(),()))
 else none
 else none
 else none
 else none
 else none
 else some (Sum.inr (Sum.inr ((x.1.1,()),(),())))) ((0,0,()),(),())).bind
 fun (r:Ah)=>Sum.elim (fun (x:Ac)=>some (x.1,())) (fun (y:Ac)=>some ((0,()),())) r:=by
  unfold F_r09_class
  funext d
  kernel_rfl
theorem ztj:F_r06_Word=fun (d:B2)=>(F_r06_word d).bind
 fun (r:Aa)=>some r:=by
  unfold F_r06_Word
  funext d
  kernel_rfl
theorem ztf:F_r09_dirt=fun (d:Ay)=>(F_r09_head d).bind
 fun (r:Aa)=>(F_r06_Page (d.1,r.1)).bind
 fun (r:AQ)=>(F_r09_used (d.1,d.2.1,r.1.1,())).bind
 fun (r:(List Bool×Unit)×Unit)=>(rl Ap Ah (fun (x:Ap)=>
 bif decide (x.1.2.1<(r.1.1.length:Int)) then
 bif inB x.1.2.1 r.1.1.length then
 bif !r.1.1.getD x.1.2.1.toNat false then (F_r06_Word (d.1,d.2.1,x.1.2)).bind
 fun (r:Aa)=>
 bif r.1.1 != 0 then (F_r09_address (d.1,d.2.1,x.1.2)).bind
 fun (r:Aa)=>some (Sum.inr (Sum.inl (r.1,(),())))
 else some (Sum.inl ((x.1.1,W (x.1.2.1+1),()),(),()))
 else some (Sum.inl ((x.1.1,W (x.1.2.1+1),()),(),()))
 else none
 else some (Sum.inr (Sum.inr ((x.1.1,()),(),())))) ((0,0,()),(),())).bind
 fun (r:Ah)=>Sum.elim (fun (x:Ac)=>some (x.1,())) (fun (y:Ac)=>some ((0,()),())) r:=by
  unfold F_r09_dirt
  funext d
  kernel_rfl
theorem ztd:F_r09_page=fun (d:Ay)=>
 bif inB d.2.1 d.1.2.2.1.length then
 bif bif (d.1.2.2.1.getD d.2.1.toNat PG0).1 != 0 then inB d.2.1 d.1.2.2.1.length
 else true then
 bif bif (d.1.2.2.1.getD d.2.1.toNat PG0).1 != 0 then (d.1.2.2.1.getD d.2.1.toNat PG0).2.1 != d.1.2.2.2.1
 else false then some (((2,d.2.1,0,()),()),())
 else (F_r06_Page d).bind
 fun (r:AQ)=>
 bif r.1.2.1 != 0 then some (((3,d.2.1,0,()),()),())
 else (F_r09_class (d.1,d.2.1,r.1.1,())).bind
 fun (r:Aa)=>
 bif r.1.1 != 0 then some (((5,d.2.1,r.1),()),())
 else (F_r09_dirt d).bind
 fun (r:Aa)=>
 bif r.1.1 != 0 then some (((4,d.2.1,r.1),()),())
 else some (((0,0,0,()),()),())
 else none
 else none:=by
  unfold F_r09_page
  funext d
  kernel_rfl
theorem ztt:F_r02_Read=fun (d:AY)=>
 bif decide (d.2.2.1<0) then some (([],1,()),())
 else (F_r02_span d).bind
 fun (r:AI)=>
 bif !r.1.2.1 then some (([],2,()),())
 else bif decide (0<=r.1.1/\r.1.1<=W (r.1.1+d.2.2.1)/\W (r.1.1+d.2.2.1)<=(d.1.length:Int)) then
 bif zaA (0+(List.drop r.1.1.toNat (List.take (W (r.1.1+d.2.2.1)).toNat d.1)).length) 8 then some (([]++List.drop r.1.1.toNat (List.take (W (r.1.1+d.2.2.1)).toNat d.1),0,()),())
 else none
 else none:=by
  unfold F_r02_Read
  funext d
  kernel_rfl
theorem zpz:F_r05_Fields=fun (d:Ay)=>(F_r05_Get d).bind
 fun (r:Av×Unit)=>
 bif r.1.2.1 != 0 then some (([],r.1.2),())
 else (F_r02_Read (d.1.2.1,U (d.2.1+1),r.1.1.2.1,())).bind
 fun (r:AQ)=>some r:=by
  unfold F_r05_Fields
  funext d
  kernel_rfl
theorem zpx:F_r09_Refers=fun (d:A2×List Int×Unit)=>(F_r09_Good (d.1,())).bind
 fun (r:A5)=>
 bif !r.1.1 then some ((false,()),())
 else (F_r06_Objects (d.1,())).bind
 fun (r:AQ)=>(rl Af A8 (fun (x:Af)=>
 bif decide (x.1.2.1<(d.2.1.length:Int)) then
 bif inB x.1.2.1 d.2.1.length then
 bif bif d.2.1.getD x.1.2.1.toNat 0 != 0 then inB x.1.2.1 d.2.1.length
 else true then
 bif d.2.1.getD x.1.2.1.toNat 0 != 0 then (F_r06_Has (r.1.1,d.2.1.getD x.1.2.1.toNat 0,())).bind
 fun (r:A5)=>
 bif !r.1.1 then some (Sum.inr (Sum.inl ((false,()),(),())))
 else some (Sum.inl ((x.1.1,W (x.1.2.1+1),()),(),()))
 else some (Sum.inl ((x.1.1,W (x.1.2.1+1),()),(),()))
 else none
 else none
 else some (Sum.inr (Sum.inr ((x.1.1,()),(),())))) ((false,0,()),(),())).bind
 fun (r:A8)=>Sum.elim (fun (x:Ai)=>some (x.1,())) (fun (y:Ai)=>some ((true,()),())) r:=by
  unfold F_r09_Refers
  funext d
  kernel_rfl
theorem zta:F_r11_Step=fun (d:Ab×Unit)=>
 bif decide (d.1.2.2.2.2.1 >= (d.1.2.2.2.1.length:Int)) then some ((d.1,false,0,()),())
 else bif inB d.1.2.2.2.2.1 d.1.2.2.2.1.length then (F_r10_Get (d.1,d.1.2.2.2.1.getD d.1.2.2.2.2.1.toNat 0,())).bind
 fun (r:AB)=>(F_r03_Pointers r.1).bind
 fun (r:A9×Unit)=>(rl (AE×Unit×A0×A0×Unit) (AW×Unit×A0×A0×Unit⊕AW×Unit×A0×A0×Unit) (fun (x:AE×Unit×A0×A0×Unit)=>
 bif decide (x.1.2.2.1<(r.1.1.length:Int)) then
 bif inB x.1.2.2.1 r.1.1.length then (F_r02_Load (x.2.2.1.2.2.1,U (U (d.1.2.2.2.1.getD d.1.2.2.2.2.1.toNat 0+1)+U (r.1.1.getD x.1.2.2.1.toNat 0)),())).bind
 fun (r_1:Ad)=>(F_r10_Forward ((((x.2.2.1.1,x.2.2.1.2.1,()),x.2.2.1.2.2.1,x.2.2.1.2.2.2.1,x.2.2.1.2.2.2.2.1,x.2.2.1.2.2.2.2.2.1,()),x.2.2.1.2.2.2.2.2.2.1,x.2.2.1.2.2.2.2.2.2.2.1,x.2.2.1.2.2.2.2.2.2.2.2.1,x.2.2.1.2.2.2.2.2.2.2.2.2.1,x.2.2.1.2.2.2.2.2.2.2.2.2.2,()),r_1.1.1,())).bind
 fun (r_2:AK)=>
 bif r_2.1.2.2.1 != 0 then some (Sum.inr (Sum.inl ((false,r_2.1.2.2),(),x.2.2.1,(0,0,[],[],0,0,[],[],[],0,0,0,0,0,0,0,()),())))
 else (F_r02_Store (r_2.1.1.1.2.1,U (U (d.1.2.2.2.1.getD d.1.2.2.2.2.1.toNat 0+1)+U (r.1.1.getD x.1.2.2.1.toNat 0)),r_2.1.2.1,())).bind
 fun (r:AQ)=>some (Sum.inl ((x.1.1,x.1.2.1,W (x.1.2.2.1+1),()),(),(r_2.1.1.1.1.1,r_2.1.1.1.1.2.1,r.1.1,r_2.1.1.1.2.2.1,r_2.1.1.1.2.2.2.1,r_2.1.1.1.2.2.2.2.1,r_2.1.1.2.1,r_2.1.1.2.2.1,r_2.1.1.2.2.2.1,r_2.1.1.2.2.2.2.1,r_2.1.1.2.2.2.2.2.1),x.2.2.2))
 else none
 else some (Sum.inr (Sum.inr ((x.1.1,x.1.2.1,()),(),x.2.2)))) ((false,0,0,()),(),(d.1.1.1.1,d.1.1.1.2.1,d.1.1.2.1,d.1.1.2.2.1,d.1.1.2.2.2.1,d.1.1.2.2.2.2.1,d.1.2.1,d.1.2.2.1,d.1.2.2.2.1,d.1.2.2.2.2.1,d.1.2.2.2.2.2.1),(0,0,[],[],0,0,[],[],[],0,0,0,0,0,0,0,()),())).bind
 fun (r_1:AW×Unit×A0×A0×Unit⊕AW×Unit×A0×A0×Unit)=>Sum.elim (fun (x:AW×Unit×A0×A0×Unit)=>some (((((x.2.2.2.1.1,x.2.2.2.1.2.1,()),x.2.2.2.1.2.2.1,x.2.2.2.1.2.2.2.1,x.2.2.2.1.2.2.2.2.1,x.2.2.2.1.2.2.2.2.2.1,()),x.2.2.2.1.2.2.2.2.2.2.1,x.2.2.2.1.2.2.2.2.2.2.2.1,x.2.2.2.1.2.2.2.2.2.2.2.2.1,x.2.2.2.1.2.2.2.2.2.2.2.2.2.1,x.2.2.2.1.2.2.2.2.2.2.2.2.2.2,()),x.1),())) (fun (y:AW×Unit×A0×A0×Unit)=>some (((((y.2.2.1.1,y.2.2.1.2.1,()),y.2.2.1.2.2.1,y.2.2.1.2.2.2.1,y.2.2.1.2.2.2.2.1,y.2.2.1.2.2.2.2.2.1,()),y.2.2.1.2.2.2.2.2.2.1,y.2.2.1.2.2.2.2.2.2.2.1,y.2.2.1.2.2.2.2.2.2.2.2.1,W (y.2.2.1.2.2.2.2.2.2.2.2.2.1+1),(y.2.2.1.2.2.2.2.2.2.2.2.2.2.1,y.2.2.1.2.2.2.2.2.2.2.2.2.2.2.1,y.2.2.1.2.2.2.2.2.2.2.2.2.2.2.2.1,y.2.2.1.2.2.2.2.2.2.2.2.2.2.2.2.2.1,y.2.2.1.2.2.2.2.2.2.2.2.2.2.2.2.2.2.1,W (W (y.2.2.1.2.2.2.2.2.2.2.2.2.2.2.2.2.2.2.1+1)+(r.1.1.length:Int)),()),()),true,0,()),())) r_1
 else none:=by
  unfold F_r11_Step
  funext d
  kernel_rfl
theorem zgd:F_made_World_Collect=fun (d:AA×Unit)=>(F_r12_Collect d.1).bind
 fun (r:AG×Unit)=>
 bif r.1.2.2.2.2.1 == 0 then some (((r.1.1,r.1.2.1,r.1.2.2.1,()),()),())
 else some (d,()):=by
  unfold F_made_World_Collect
  funext d
  kernel_rfl
theorem zif:F_made_World_Step=fun (d:AA×A4×Unit)=>(F_made_Tape_Next (d.2.1,12,())).bind
 fun (r:An)=>
 bif bif r.1.1 == 0 then r.1.1 == 0
 else bif r.1.1 == 1 then r.1.1 == 1
 else bif r.1.1 == 2 then r.1.1 == 2
 else r.1.1 == 3 then (F_made_Tape_Header (r.2.1,d.1.1.1,())).bind
 fun (r:B0×A4×Unit)=>(F_made_World_Put (d.1,r.1)).bind
 fun (r_1:Aj×Unit)=>some (r_1.1,r.2)
 else bif
 bif r.1.1 == 4 then r.1.1 == 4
 else bif r.1.1 == 5 then r.1.1 == 5
 else r.1.1 == 6 then (F_made_World_Link (d.1,r.2)).bind
 fun (r:Aj×A4×Unit)=>some r
 else bif r.1.1 == 7 then (F_made_World_Pin (d.1,r.2)).bind
 fun (r:Aj×A4×Unit)=>some r
 else bif
 bif r.1.1 == 8 then r.1.1 == 8
 else r.1.1 == 9 then (F_made_World_Drop (d.1,r.2)).bind
 fun (r:Aj×A4×Unit)=>some r
 else bif r.1.1 == 10 then (F_made_World_Collect (d.1,())).bind
 fun (r_1:Aj×Unit)=>some (r_1.1,r.2)
 else bif zaA (0+d.1.2.1.length) 8 then (F_made_World_pick (d.1,r.2)).bind
 fun (r:An)=>
 bif zaA ((d.1.2.1).length + [r.1.1].length) 8 then some (((d.1.1,d.1.2.1++[r.1.1],d.1.2.2),()),r.2)
 else none
 else none:=by
  unfold F_made_World_Step
  funext d
  kernel_rfl
theorem zjy:F_page_ValidConf=fun (d:Ad)=>(F_page_within (d.1.1,16,64,())).bind
 fun (r:A5)=>
 bif bif r.1.1 then !4 == 0
 else true then
 bif r.1.1 then
 bif d.1.1.tmod 4 == 0 then (F_page_within (d.1.2.1,8,64,())).bind
 fun (r:A5)=>some r
 else some ((false,()),())
 else some ((false,()),())
 else none:=by
  unfold F_page_ValidConf
  funext d
  kernel_rfl
theorem zmn:F_page_isSmall=fun (d:(List PgD)×Int×Unit)=>(F_page_within (d.2.1,0,W ((d.1.length:Int)-1),())).bind
 fun (r:A5)=>
 bif bif r.1.1 then inB d.2.1 d.1.length
 else true then some ((bif r.1.1 then (d.1.getD d.2.1.toNat PG0).1 == 1
 else false,()),())
 else none:=by
  unfold F_page_isSmall
  funext d
  kernel_rfl
theorem znL:F_page_isPins=fun (d:Ao)=>(F_page_within (d.1,0,2147483647,())).bind
 fun (r:A5)=>some r:=by
  unfold F_page_isPins
  funext d
  kernel_rfl
theorem znM:F_page_Proper=fun (d:B1)=>(F_page_ValidConf (d.1.1,())).bind
 fun (r:A5)=>
 bif !r.1.1 then some ((false,()),())
 else (F_page_size (d.1.1,())).bind
 fun (r:Aa)=>
 bif bif (d.1.2.1.length:Int) != r.1.1 then true
 else (d.1.2.2.1.length:Int) != d.1.1.2.1 then some ((false,()),())
 else (F_page_isSpace (d.1.2.2.2.1,())).bind
 fun (r:A5)=>
 bif !r.1.1 then some ((false,()),())
 else bif d.1.2.2.2.2.1 != -1 then (F_page_isSmall (d.1.2.2.1,d.1.2.2.2.2)).bind
 fun (r:A5)=>
 bif !r.1.1 then some ((false,()),())
 else (F_page_table_proper ((d.1.1,d.1.2.2.1,()),())).bind
 fun (r:A5)=>some r
 else (F_page_table_proper ((d.1.1,d.1.2.2.1,()),())).bind
 fun (r:A5)=>some r:=by
  unfold F_page_Proper
  funext d
  kernel_rfl
theorem znP:F_bits_Unpack=fun (d:Int×List Int×Unit)=>(F_bits_fit_c_bits_Unpack_S1 ((d.2.1.length:Int),d.2)).bind
 fun (r:AS×List Int×Unit)=>
 bif !r.1.1 then some (([],1,()),())
 else bif decide (0<=(r.2.1.length:Int)/\(r.2.1.length:Int)<=(r.2.1.length:Int)) then
 bif zaA ((r.2.1.length:Int)).toNat 8 then (rl (Ag×Unit×List Int×Unit) AT (fun (x:Ag×Unit×List Int×Unit)=>
 bif decide (x.1.2.1<(r.2.1.length:Int)) then
 bif inB x.1.2.1 r.2.1.length then (F_bits_Ones (r.2.1.getD x.1.2.1.toNat 0,())).bind
 fun (r_1:Aa)=>
 bif inB x.1.2.1 x.2.2.1.length then
 bif inB x.1.2.1 r.2.1.length then
 bif !decide (r.2.1.getD x.1.2.1.toNat 0<0) then some (Sum.inl ((x.1.1.fdiv (2 ^ min (r.2.1.getD x.1.2.1.toNat 0).toNat IntKind.u64.bits),W (x.1.2.1+1),()),(),x.2.2.1.set x.1.2.1.toNat (zcN IntKind.u64 (fun (x1 x2:BitVec IntKind.u64.bits)=>x1 &&& x2) x.1.1 r_1.1.1),()))
 else none
 else none
 else none
 else none
 else some (Sum.inr ((x.1.1,()),(),x.2.2))) ((d.1,0,()),(),List.replicate ((r.2.1.length:Int)).toNat (0:Int),())).bind
 fun (r:AT)=>
 bif r.1.1 != 0 then some (([],2,()),())
 else some ((r.2.2.1,0,()),())
 else none
 else none:=by
  unfold F_bits_Unpack
  funext d
  kernel_rfl
theorem zmp:F_header_Valid=fun (d:B0)=>
 bif d.1.1 == 1 then
 bif decide (d.1.2.1 >= 0) then
 bif decide (d.1.2.1<=32) then (F_bits_Ones (d.1.2.1,())).bind
 fun (r:Aa)=>some ((decide (U d.1.2.2.1<=r.1.1),()),())
 else some ((false,()),())
 else some ((false,()),())
 else bif
 bif d.1.1 == 0 then d.1.1 == 0
 else bif d.1.1 == 2 then d.1.1 == 2
 else d.1.1 == 3 then some ((bif decide (d.1.2.1 >= 0) then
 bif decide (d.1.2.1<=255) then (d.1.1,d.1.2.1,d.1.2.2.1,()).1 == (d.1.1,d.1.2.1,0,()).1&&((d.1.1,d.1.2.1,d.1.2.2.1,()).2.1 == (d.1.1,d.1.2.1,0,()).2.1&&((d.1.1,d.1.2.1,d.1.2.2.1,()).2.2.1 == (d.1.1,d.1.2.1,0,()).2.2.1&&true))
 else false
 else false,()),())
 else some ((false,()),()):=by
  unfold F_header_Valid
  funext d
  kernel_rfl
theorem zkZ:F_header_Decode=fun (d:Ao)=>(F_bits_Unpack (d.1,[2,2,12,32],())).bind
 fun (r:AQ)=>
 bif bif r.1.2.1 != 0 then true
 else inB 0 r.1.1.length then
 bif bif r.1.2.1 != 0 then true
 else r.1.1.getD (Int.toNat 0) 0 != 1 then some (((0,0,0,()),false,()),())
 else bif inB 1 r.1.1.length then
 bif inB 2 r.1.1.length then
 bif inB 3 r.1.1.length then (F_header_Valid ((W (r.1.1.getD (Int.toNat 1) 0),W (r.1.1.getD (Int.toNat 2) 0),U32 (r.1.1.getD (Int.toNat 3) 0),()),())).bind
 fun (r_1:A5)=>
 bif !r_1.1.1 then some (((0,0,0,()),false,()),())
 else some (((W (r.1.1.getD (Int.toNat 1) 0),W (r.1.1.getD (Int.toNat 2) 0),U32 (r.1.1.getD (Int.toNat 3) 0),()),true,()),())
 else none
 else none
 else none
 else none:=by
  unfold F_header_Decode
  funext d
  kernel_rfl
theorem znO:F_header_Size=fun (d:B0)=>(F_header_Valid d).bind
 fun (r:A5)=>
 bif !r.1.1 then some ((0,()),())
 else some ((W (d.1.2.1+1),()),()):=by
  unfold F_header_Size
  funext d
  kernel_rfl
theorem zio:F_audit_checkDirt=fun (d:A2×Int×(List AD)×Unit)=>(F_audit_span (d.1,d.2.1,())).bind
 fun (r:Ad)=>(rl Al A6 (fun (x:Al)=>
 bif decide (x.1.1<r.1.2.1) then (F_audit_word (d.1,x.1)).bind
 fun (r:Aa)=>
 bif r.1.1 == 0 then some (Sum.inl ((U (x.1.1+1),()),(),x.2.2))
 else (rl Ac (Unit×Unit×Unit⊕Unit×Unit×Unit) (fun (x_1:Ac)=>
 bif decide (x_1.1.1<(d.2.2.1.length:Int)) then
 bif inB x_1.1.1 d.2.2.1.length then (F_audit_part_uses (d.2.2.1.getD x_1.1.1.toNat (0,(0,0,0,()),()),x.1)).bind
 fun (r:A5)=>
 bif r.1.1 then some (Sum.inr (Sum.inl ((),(),())))
 else some (Sum.inl ((W (x_1.1.1+1),()),(),()))
 else none
 else some (Sum.inr (Sum.inr ((),(),())))) ((0,()),(),())).bind
 fun (r:Unit×Unit×Unit⊕Unit×Unit×Unit)=>Sum.elim (fun (x_1:Unit×Unit×Unit)=>some (Sum.inl ((U (x.1.1+1),()),(),x.2.2))) (fun (y:Unit×Unit×Unit)=>(F_audit_findingAt (d.1,4,x.1)).bind
 fun (r:AB)=>some (Sum.inr (Sum.inl ((),(),r.1)))) r
 else some (Sum.inr (Sum.inr ((),(),x.2.2)))) ((r.1.1,()),(),(0,0,0,()),())).bind
 fun (r:A6)=>Sum.elim (fun (x:Aq)=>some (x.2.2,())) (fun (y:Aq)=>some (((0,0,0,()),()),())) r:=by
  unfold F_audit_checkDirt
  funext d
  kernel_rfl
theorem zdk:F_slices_BinarySearch_uint64=fun (d:A4)=>(rl Ap Ac (fun (x:Ap)=>
 bif decide (x.1.1<x.1.2.1) then
 bif !decide (1<0) then
 bif inB (W ((U (W (x.1.1+x.1.2.1))).fdiv (2 ^ min (Int.toNat 1) IntKind.u64.bits))) d.1.length then (F_cmp_Less_uint64 (d.1.getD (W ((U (W (x.1.1+x.1.2.1))).fdiv (2 ^ min (Int.toNat 1) IntKind.u64.bits))).toNat 0,d.2)).bind
 fun (r:A5)=>some (Sum.inl ((bif r.1.1 then W (W ((U (W (x.1.1+x.1.2.1))).fdiv (2 ^ min (Int.toNat 1) IntKind.u64.bits))+1)
 else x.1.1,
 bif r.1.1 then x.1.2.1
 else W ((U (W (x.1.1+x.1.2.1))).fdiv (2 ^ min (Int.toNat 1) IntKind.u64.bits)),()),(),()))
 else none
 else none
 else some (Sum.inr ((x.1.1,()),(),()))) ((0,(d.1.length:Int),()),(),())).bind
 fun (r:Ac)=>
 bif bif decide (r.1.1<(d.1.length:Int)) then inB r.1.1 d.1.length
 else true then
 bif bif decide (r.1.1<(d.1.length:Int)) then
 bif d.1.getD r.1.1.toNat 0 == d.2.1 then true
 else inB r.1.1 d.1.length
 else true then
 bif decide (r.1.1<(d.1.length:Int)) then
 bif d.1.getD r.1.1.toNat 0 == d.2.1 then some ((r.1.1,true,()),())
 else (F_slices_isNaN_uint64 (d.1.getD r.1.1.toNat 0,())).bind
 fun (r_1:A5)=>
 bif r_1.1.1 then (F_slices_isNaN_uint64 d.2).bind
 fun (r_2:A5)=>some ((r.1.1,r_2.1),())
 else some ((r.1.1,false,()),())
 else some ((r.1.1,false,()),())
 else none
 else none:=by
  unfold F_slices_BinarySearch_uint64
  funext d
  kernel_rfl
theorem zto:F_r04_Same=fun (d:A2×A2×Unit)=>
 bif !((d.1.1.1,d.1.1.2.1,()).1 == (d.2.1.1.1,d.2.1.1.2.1,()).1&&((d.1.1.1,d.1.1.2.1,()).2.1 == (d.2.1.1.1,d.2.1.1.2.1,()).2.1&&true)) then some ((false,()),())
 else bif d.1.2.2.2.1 != d.2.1.2.2.2.1 then some ((false,()),())
 else bif d.1.2.2.2.2.1 != d.2.1.2.2.2.2.1 then some ((false,()),())
 else (F_r04_SamePages (d.1.2.2.1,d.2.1.2.2.1,())).bind
 fun (r:A5)=>
 bif bif !r.1.1 then true
 else (d.1.2.1.length:Int) != (d.2.1.2.1.length:Int) then some ((false,()),())
 else (rl Af A8 (fun (x:Af)=>
 bif decide (x.1.2.1<(d.1.2.1.length:Int)) then
 bif inB x.1.2.1 d.1.2.1.length then
 bif inB x.1.2.1 d.2.1.2.1.length then
 bif d.1.2.1.getD x.1.2.1.toNat 0 != d.2.1.2.1.getD x.1.2.1.toNat 0 then some (Sum.inr (Sum.inl ((false,()),(),())))
 else some (Sum.inl ((x.1.1,W (x.1.2.1+1),()),(),()))
 else none
 else none
 else some (Sum.inr (Sum.inr ((x.1.1,()),(),())))) ((false,0,()),(),())).bind
 fun (r:A8)=>Sum.elim (fun (x:Ai)=>some (x.1,())) (fun (y:Ai)=>some ((true,()),())) r:=by
  unfold F_r04_Same
  funext d
  kernel_rfl
theorem ztw:F_l10_same=fun (d:Ab×Ab×Unit)=>(F_r04_Same (d.1.1,d.2.1.1,())).bind
 fun (r:A5)=>
 bif r.1.1 then (F_r01_Same (d.1.2.1,d.2.1.2.1,())).bind
 fun (r:A5)=>
 bif r.1.1 then (F_r10_SameInts (d.1.2.2.1,d.2.1.2.2.1,())).bind
 fun (r:A5)=>
 bif r.1.1 then (F_r01_Same (d.1.2.2.2.1,d.2.1.2.2.2.1,())).bind
 fun (r:A5)=>some ((bif r.1.1 then
 bif d.1.2.2.2.2.1 == d.2.1.2.2.2.2.1 then (d.1.2.2.2.2.2.1.1,d.1.2.2.2.2.2.1.2.1,d.1.2.2.2.2.2.1.2.2.1,d.1.2.2.2.2.2.1.2.2.2.1,d.1.2.2.2.2.2.1.2.2.2.2.1,d.1.2.2.2.2.2.1.2.2.2.2.2.1,()).1 == (d.2.1.2.2.2.2.2.1.1,d.2.1.2.2.2.2.2.1.2.1,d.2.1.2.2.2.2.2.1.2.2.1,d.2.1.2.2.2.2.2.1.2.2.2.1,d.2.1.2.2.2.2.2.1.2.2.2.2.1,d.2.1.2.2.2.2.2.1.2.2.2.2.2.1,()).1&&((d.1.2.2.2.2.2.1.1,d.1.2.2.2.2.2.1.2.1,d.1.2.2.2.2.2.1.2.2.1,d.1.2.2.2.2.2.1.2.2.2.1,d.1.2.2.2.2.2.1.2.2.2.2.1,d.1.2.2.2.2.2.1.2.2.2.2.2.1,()).2.1 == (d.2.1.2.2.2.2.2.1.1,d.2.1.2.2.2.2.2.1.2.1,d.2.1.2.2.2.2.2.1.2.2.1,d.2.1.2.2.2.2.2.1.2.2.2.1,d.2.1.2.2.2.2.2.1.2.2.2.2.1,d.2.1.2.2.2.2.2.1.2.2.2.2.2.1,()).2.1&&((d.1.2.2.2.2.2.1.1,d.1.2.2.2.2.2.1.2.1,d.1.2.2.2.2.2.1.2.2.1,d.1.2.2.2.2.2.1.2.2.2.1,d.1.2.2.2.2.2.1.2.2.2.2.1,d.1.2.2.2.2.2.1.2.2.2.2.2.1,()).2.2.1 == (d.2.1.2.2.2.2.2.1.1,d.2.1.2.2.2.2.2.1.2.1,d.2.1.2.2.2.2.2.1.2.2.1,d.2.1.2.2.2.2.2.1.2.2.2.1,d.2.1.2.2.2.2.2.1.2.2.2.2.1,d.2.1.2.2.2.2.2.1.2.2.2.2.2.1,()).2.2.1&&((d.1.2.2.2.2.2.1.1,d.1.2.2.2.2.2.1.2.1,d.1.2.2.2.2.2.1.2.2.1,d.1.2.2.2.2.2.1.2.2.2.1,d.1.2.2.2.2.2.1.2.2.2.2.1,d.1.2.2.2.2.2.1.2.2.2.2.2.1,()).2.2.2.1 == (d.2.1.2.2.2.2.2.1.1,d.2.1.2.2.2.2.2.1.2.1,d.2.1.2.2.2.2.2.1.2.2.1,d.2.1.2.2.2.2.2.1.2.2.2.1,d.2.1.2.2.2.2.2.1.2.2.2.2.1,d.2.1.2.2.2.2.2.1.2.2.2.2.2.1,()).2.2.2.1&&((d.1.2.2.2.2.2.1.1,d.1.2.2.2.2.2.1.2.1,d.1.2.2.2.2.2.1.2.2.1,d.1.2.2.2.2.2.1.2.2.2.1,d.1.2.2.2.2.2.1.2.2.2.2.1,d.1.2.2.2.2.2.1.2.2.2.2.2.1,()).2.2.2.2.1 == (d.2.1.2.2.2.2.2.1.1,d.2.1.2.2.2.2.2.1.2.1,d.2.1.2.2.2.2.2.1.2.2.1,d.2.1.2.2.2.2.2.1.2.2.2.1,d.2.1.2.2.2.2.2.1.2.2.2.2.1,d.2.1.2.2.2.2.2.1.2.2.2.2.2.1,()).2.2.2.2.1&&((d.1.2.2.2.2.2.1.1,d.1.2.2.2.2.2.1.2.1,d.1.2.2.2.2.2.1.2.2.1,d.1.2.2.2.2.2.1.2.2.2.1,d.1.2.2.2.2.2.1.2.2.2.2.1,d.1.2.2.2.2.2.1.2.2.2.2.2.1,()).2.2.2.2.2.1 == (d.2.1.2.2.2.2.2.1.1,d.2.1.2.2.2.2.2.1.2.1,d.2.1.2.2.2.2.2.1.2.2.1,d.2.1.2.2.2.2.2.1.2.2.2.1,d.2.1.2.2.2.2.2.1.2.2.2.2.1,d.2.1.2.2.2.2.2.1.2.2.2.2.2.1,()).2.2.2.2.2.1&&true)))))
 else false
 else false,()),())
 else some ((false,()),())
 else some ((false,()),())
 else some ((false,()),()):=by
  unfold F_l10_same
  funext d
  kernel_rfl
theorem zho:F_slices_Index_int=fun (d:A4)=>(rl Ap Ah (fun (x:Ap)=>
 bif decide (x.1.2.1<(d.1.length:Int)) then
 bif inB x.1.2.1 d.1.length then
 bif d.2.1 == d.1.getD x.1.2.1.toNat 0 then some (Sum.inr (Sum.inl (x.1.2,(),())))
 else some (Sum.inl ((x.1.1,W (x.1.2.1+1),()),(),()))
 else none
 else some (Sum.inr (Sum.inr ((x.1.1,()),(),())))) ((0,0,()),(),())).bind
 fun (r:Ah)=>Sum.elim (fun (x:Ac)=>some (x.1,())) (fun (y:Ac)=>some ((-1,()),())) r:=by
  unfold F_slices_Index_int
  funext d
  kernel_rfl
theorem zik:F_evacuate_copied=fun (d:Ay)=>(F_arena_Load (d.1.2.1,d.2)).bind
 fun (r:Ad)=>
 bif r.1.2.1 != 0 then some ((0,false,()),())
 else (F_header_Target (r.1.1,())).bind
 fun (r:AI)=>some r:=by
  unfold F_evacuate_copied
  funext d
  kernel_rfl
theorem zfA:F_page_freeFrom=fun (d:(List PgD)×Int×Unit)=>(rl Ac Ac (fun (x:Ac)=>
 bif bif decide (W (d.2.1+x.1.1)<(d.1.length:Int)) then inB (W (d.2.1+x.1.1)) d.1.length
 else true then
 bif bif decide (W (d.2.1+x.1.1)<(d.1.length:Int)) then (d.1.getD (W (d.2.1+x.1.1)).toNat PG0).1 == 0
 else false then some (Sum.inl ((W (x.1.1+1),()),(),()))
 else some (Sum.inr (x.1,(),()))
 else none) ((0,()),(),())).bind
 fun (r:Ac)=>some (r.1,()):=by
  unfold F_page_freeFrom
  funext d
  kernel_rfl
theorem zkr:F_page_Runs=fun (d:(List PgD)×Unit)=>(rl (AN×AC×Unit) (AU×AC×Unit) (fun (x:AN×AC×Unit)=>
 bif decide (x.1.2.1<(d.1.length:Int)) then (F_page_freeFrom (d.1,x.1.2)).bind
 fun (r:Aa)=>
 bif bif decide (r.1.1 > 0) then zaA (x.2.1.1.length + [(x.1.2.1,r.1.1,())].length) 16
 else true then
 bif decide (r.1.1 > 0) then some (Sum.inl (((),W (W (x.1.2.1+r.1.1)+1),()),(x.2.1.1++[(x.1.2.1,r.1.1,())],()),()))
 else some (Sum.inl (((),W (W (x.1.2.1+r.1.1)+1),()),x.2))
 else none
 else some (Sum.inr (((),()),x.2))) (((),0,()),([],()),())).bind
 fun (r:AU×AC×Unit)=>some r.2:=by
  unfold F_page_Runs
  funext d
  kernel_rfl
theorem zpF:F_page_Small=fun (d:(List PgD)×Int×Int×Unit)=>(F_page_isSpace d.2.2).bind
 fun (r:A5)=>
 bif !r.1.1 then some (([],1,()),())
 else (F_page_take (d.1,d.2.1,1,(1,d.2.2.1,0,0,()),())).bind
 fun (r:Au×Unit)=>some r:=by
  unfold F_page_Small
  funext d
  kernel_rfl
theorem zen:F_evacuate_copying_place=fun (d:AH)=>(F_evacuate_copying_fits d).bind
 fun (r:AS×(A3×Int×Int×Int×Unit)×Unit)=>
 bif !r.1.1 then (F_evacuate_copying_take r.2).bind
 fun (r:Aw)=>
 bif r.1.1 != 0 then some r
 else (F_evacuate_copying_last r.2).bind
 fun (r:Aw)=>
 bif inB r.1.1 r.2.1.1.1.2.2.1.length then (F_page_Address (r.2.1.1.1.1,r.1.1,(r.2.1.1.1.2.2.1.getD r.1.1.toNat PG0).2.2.1,())).bind
 fun (r_1:Ad)=>
 bif r_1.1.2.1 != 0 then some (r_1.1.2,r.2)
 else bif inB r.1.1 r.2.1.1.1.2.2.1.length then
 bif inB r.1.1 r.2.1.1.1.2.2.1.length then some ((0,()),(((r.2.1.1.1.1,r.2.1.1.1.2.1,r.2.1.1.1.2.2.1.set r.1.1.toNat ((r.2.1.1.1.2.2.1.getD r.1.1.toNat PG0).1,(r.2.1.1.1.2.2.1.getD r.1.1.toNat PG0).2.1,W ((r.2.1.1.1.2.2.1.getD r.1.1.toNat PG0).2.2.1+r.2.1.2.1),(r.2.1.1.1.2.2.1.getD r.1.1.toNat PG0).2.2.2.1,()),r.2.1.1.1.2.2.2),r.2.1.1.2),r.2.1.2.1,r.2.1.2.2.1,r_1.1.1,()),())
 else none
 else none
 else none
 else (F_evacuate_copying_last r.2).bind
 fun (r:Aw)=>
 bif inB r.1.1 r.2.1.1.1.2.2.1.length then (F_page_Address (r.2.1.1.1.1,r.1.1,(r.2.1.1.1.2.2.1.getD r.1.1.toNat PG0).2.2.1,())).bind
 fun (r_1:Ad)=>
 bif r_1.1.2.1 != 0 then some (r_1.1.2,r.2)
 else bif inB r.1.1 r.2.1.1.1.2.2.1.length then
 bif inB r.1.1 r.2.1.1.1.2.2.1.length then some ((0,()),(((r.2.1.1.1.1,r.2.1.1.1.2.1,r.2.1.1.1.2.2.1.set r.1.1.toNat ((r.2.1.1.1.2.2.1.getD r.1.1.toNat PG0).1,(r.2.1.1.1.2.2.1.getD r.1.1.toNat PG0).2.1,W ((r.2.1.1.1.2.2.1.getD r.1.1.toNat PG0).2.2.1+r.2.1.2.1),(r.2.1.1.1.2.2.1.getD r.1.1.toNat PG0).2.2.2.1,()),r.2.1.1.1.2.2.2),r.2.1.1.2),r.2.1.2.1,r.2.1.2.2.1,r_1.1.1,()),())
 else none
 else none
 else none:=by
  unfold F_evacuate_copying_place
  funext d
  kernel_rfl
theorem zjC:F_header_Forward=fun (d:Ao)=>(F_bits_Ones (32,())).bind
 fun (r:Aa)=>
 bif decide (d.1 > r.1.1) then some ((0,1,()),())
 else (F_bits_Pack ([(2,2,()),(32,d.1,())],())).bind
 fun (r:Ad)=>some r:=by
  unfold F_header_Forward
  funext d
  kernel_rfl
theorem znS:F_arena_Store=fun (d:AY)=>(F_arena_Write (d.1,d.2.1,[d.2.2.1],())).bind
 fun (r:AQ)=>some r:=by
  unfold F_arena_Store
  funext d
  kernel_rfl
theorem zfg:F_l10_EvacuateForwards=fun (d:List Int×List Int×List Int×Unit)=>
 bif bif decide ((d.2.1.length:Int) > 20) then true
 else decide ((d.2.2.1.length:Int) > 60) then some ((true,()),())
 else (F_made_Make (d.1,())).bind
 fun (r:Aj×Unit)=>(F_evacuate_Begin (r.1.1.1,())).bind
 fun (r_1:B4)=>(F_r10_Begin (r.1.1.1,())).bind
 fun (r_2:B4)=>
 bif r_1.1.2.1 != r_2.1.2.1 then some ((false,()),())
 else (F_l10_same (r_1.1.1,r_2.1.1,())).bind
 fun (r_3:A5)=>
 bif !r_3.1.1 then some ((false,()),())
 else (F_r06_Objects (r.1.1.1,())).bind
 fun (r_4:AQ)=>
 bif zaA (r_4.1.1.length + [0].length) 8 then
 bif zaA ((r_4.1.1++[0]).length+d.2.1.length) 8 then (rl ((Bool×Int×A3×A3×Unit)×Ak×Ae×A0×Unit) (AS×Ak×Ae×A0×Unit⊕(Bool×A3×A3×Unit)×Ak×Ae×A0×Unit) (fun (x:(Bool×Int×A3×A3×Unit)×Ak×Ae×A0×Unit)=>
 bif decide (x.1.2.1<(d.2.2.1.length:Int)) then
 bif inB x.1.2.1 d.2.2.1.length then
 bif !((r_4.1.1++[0]++d.2.1).length:Int) == 0 then
 bif !((r_4.1.1++[0]++d.2.1).length:Int) == 0 then
 bif inB ((W ((d.2.2.1.getD x.1.2.1.toNat 0).tmod ((r_4.1.1++[0]++d.2.1).length:Int)+((r_4.1.1++[0]++d.2.1).length:Int))).tmod ((r_4.1.1++[0]++d.2.1).length:Int)) (r_4.1.1++[0]++d.2.1).length then (F_evacuate_Forward ((((x.2.2.1.1,x.2.2.1.2.1,()),x.2.1.1,x.2.1.2.1,x.2.2.1.2.2.2.2.1,x.2.2.1.2.2.2.2.2.1,()),x.2.1.2.2.1,x.2.1.2.2.2.1,x.2.1.2.2.2.2.1,x.2.2.1.2.2.2.2.2.2.2.2.2.1,x.2.2.1.2.2.2.2.2.2.2.2.2.2,()),(r_4.1.1++[0]++d.2.1).getD ((W ((d.2.2.1.getD x.1.2.1.toNat 0).tmod ((r_4.1.1++[0]++d.2.1).length:Int)+((r_4.1.1++[0]++d.2.1).length:Int))).tmod ((r_4.1.1++[0]++d.2.1).length:Int)).toNat 0,())).bind
 fun (r_5:AK)=>(F_r10_Forward ((((x.2.2.2.1.1,x.2.2.2.1.2.1,()),x.2.2.2.1.2.2.1,x.2.2.2.1.2.2.2.1,x.2.2.2.1.2.2.2.2.1,x.2.2.2.1.2.2.2.2.2.1,()),x.2.2.2.1.2.2.2.2.2.2.1,x.2.2.2.1.2.2.2.2.2.2.2.1,x.2.2.2.1.2.2.2.2.2.2.2.2.1,x.2.2.2.1.2.2.2.2.2.2.2.2.2.1,x.2.2.2.1.2.2.2.2.2.2.2.2.2.2,()),(r_4.1.1++[0]++d.2.1).getD ((W ((d.2.2.1.getD x.1.2.1.toNat 0).tmod ((r_4.1.1++[0]++d.2.1).length:Int)+((r_4.1.1++[0]++d.2.1).length:Int))).tmod ((r_4.1.1++[0]++d.2.1).length:Int)).toNat 0,())).bind
 fun (r_6:AK)=>
 bif r_5.1.2.2.1 != r_6.1.2.2.1 then some (Sum.inr (Sum.inl ((false,()),x.2.1,(x.2.2.1.1,x.2.2.1.2.1,(),(),x.2.2.1.2.2.2.2.1,x.2.2.1.2.2.2.2.2.1,(),(),(),x.2.2.1.2.2.2.2.2.2.2.2.2),x.2.2.2)))
 else bif r_5.1.2.1 != r_6.1.2.1 then some (Sum.inr (Sum.inl ((false,()),x.2.1,(x.2.2.1.1,x.2.2.1.2.1,(),(),x.2.2.1.2.2.2.2.1,x.2.2.1.2.2.2.2.2.1,(),(),(),x.2.2.1.2.2.2.2.2.2.2.2.2),x.2.2.2)))
 else (F_l10_same (r_5.1.1,r_6.1.1,())).bind
 fun (r_7:A5)=>
 bif !r_7.1.1 then some (Sum.inr (Sum.inl ((false,()),x.2.1,(x.2.2.1.1,x.2.2.1.2.1,(),(),x.2.2.1.2.2.2.2.1,x.2.2.1.2.2.2.2.2.1,(),(),(),x.2.2.1.2.2.2.2.2.2.2.2.2),x.2.2.2)))
 else bif r_5.1.2.2.1 != 0 then some (Sum.inl ((x.1.1,W (x.1.2.1+1),x.1.2.2),x.2.1,(x.2.2.1.1,x.2.2.1.2.1,(),(),x.2.2.1.2.2.2.2.1,x.2.2.1.2.2.2.2.2.1,(),(),(),x.2.2.1.2.2.2.2.2.2.2.2.2),x.2.2.2))
 else (rl Af A8 (fun (x:Af)=>
 bif decide (x.1.2.1<(r.1.1.1.2.2.1.length:Int)) then (F_evacuate_Promoted (r_5.1.1,x.1.2)).bind
 fun (r:A5)=>(F_r10_Promoted (r_6.1.1,x.1.2)).bind
 fun (r_8:A5)=>
 bif !r.1.1 == r_8.1.1 then some (Sum.inr (Sum.inl ((false,()),(),())))
 else some (Sum.inl ((x.1.1,W (x.1.2.1+1),()),(),()))
 else some (Sum.inr (Sum.inr ((x.1.1,()),(),())))) ((x.1.1,0,()),(),())).bind
 fun (r:A8)=>Sum.elim (fun (x:Ai)=>some (Sum.inr (Sum.inl (x.1,(r_5.1.1.1.2.1,r_5.1.1.1.2.2.1,r_5.1.1.2.1,r_5.1.1.2.2.1,r_5.1.1.2.2.2.1,()),(r_5.1.1.1.1.1,r_5.1.1.1.1.2.1,(),(),r_5.1.1.1.2.2.2.1,r_5.1.1.1.2.2.2.2.1,(),(),(),r_5.1.1.2.2.2.2.1,r_5.1.1.2.2.2.2.2.1),(r_6.1.1.1.1.1,r_6.1.1.1.1.2.1,r_6.1.1.1.2.1,r_6.1.1.1.2.2.1,r_6.1.1.1.2.2.2.1,r_6.1.1.1.2.2.2.2.1,r_6.1.1.2.1,r_6.1.1.2.2.1,r_6.1.1.2.2.2.1,r_6.1.1.2.2.2.2.1,r_6.1.1.2.2.2.2.2.1),())))) (fun (y:Ai)=>some (Sum.inl ((y.1.1,W (x.1.2.1+1),x.1.2.2),(r_5.1.1.1.2.1,r_5.1.1.1.2.2.1,r_5.1.1.2.1,r_5.1.1.2.2.1,r_5.1.1.2.2.2.1,()),(r_5.1.1.1.1.1,r_5.1.1.1.1.2.1,(),(),r_5.1.1.1.2.2.2.1,r_5.1.1.1.2.2.2.2.1,(),(),(),r_5.1.1.2.2.2.2.1,r_5.1.1.2.2.2.2.2.1),(r_6.1.1.1.1.1,r_6.1.1.1.1.2.1,r_6.1.1.1.2.1,r_6.1.1.1.2.2.1,r_6.1.1.1.2.2.2.1,r_6.1.1.1.2.2.2.2.1,r_6.1.1.2.1,r_6.1.1.2.2.1,r_6.1.1.2.2.2.1,r_6.1.1.2.2.2.2.1,r_6.1.1.2.2.2.2.2.1),()))) r
 else none
 else none
 else none
 else none
 else some (Sum.inr (Sum.inr ((x.1.1,x.1.2.2),x.2.1,(x.2.2.1.1,x.2.2.1.2.1,(),(),x.2.2.1.2.2.2.2.1,x.2.2.1.2.2.2.2.2.1,(),(),(),x.2.2.1.2.2.2.2.2.2.2.2.2),x.2.2.2)))) ((false,0,r_2.1.1,r_2.1.1,()),(r_1.1.1.1.2.1,r_1.1.1.1.2.2.1,r_1.1.1.2.1,r_1.1.1.2.2.1,r_1.1.1.2.2.2.1,()),(r_1.1.1.1.1.1,r_1.1.1.1.1.2.1,(),(),r_1.1.1.1.2.2.2.1,r_1.1.1.1.2.2.2.2.1,(),(),(),r_1.1.1.2.2.2.2.1,r_1.1.1.2.2.2.2.2.1),(r_2.1.1.1.1.1,r_2.1.1.1.1.2.1,r_2.1.1.1.2.1,r_2.1.1.1.2.2.1,r_2.1.1.1.2.2.2.1,r_2.1.1.1.2.2.2.2.1,r_2.1.1.2.1,r_2.1.1.2.2.1,r_2.1.1.2.2.2.1,r_2.1.1.2.2.2.2.1,r_2.1.1.2.2.2.2.2.1),())).bind
 fun (r:AS×Ak×Ae×A0×Unit⊕(Bool×A3×A3×Unit)×Ak×Ae×A0×Unit)=>Sum.elim (fun (x:AS×Ak×Ae×A0×Unit)=>some (x.1,())) (fun (y:(Bool×A3×A3×Unit)×Ak×Ae×A0×Unit)=>(F_l10_awake ()).bind
 fun (r:A5)=>some r) r
 else none
 else none:=by
  unfold F_l10_EvacuateForwards
  funext d
  kernel_rfl
end Go.VI
namespace Go.VI
open Go
theorem zcW:F_made_Tape_Next=fun (d:A4×Int×Unit)=>
 bif decide (d.2.1<1) then some ((0,()),d.1,())
 else bif
 bif decide (d.1.2.1<(d.1.1.length:Int)) then inB d.1.2.1 d.1.1.length
 else true then
 bif !d.2.1 == 0 then
 bif !d.2.1 == 0 then some (((W ((bif decide (d.1.2.1<(d.1.1.length:Int)) then d.1.1.getD d.1.2.1.toNat 0
 else W (W (d.1.2.1*7)+3)).tmod d.2.1+d.2.1)).tmod d.2.1,()),(d.1.1,W (d.1.2.1+1),()),())
 else none
 else none
 else none:=by
  unfold F_made_Tape_Next
  funext d
  kernel_rfl
theorem zd9:F_made_Tape_Empty=fun (d:AQ)=>(F_made_Tape_Conf d).bind
 fun (r:Ad×A4×Unit)=>(F_r04_New r.1).bind
 fun (r_1:AM)=>some (((r_1.1.1,[],[],()),()),r.2):=by
  unfold F_made_Tape_Empty
  funext d
  kernel_rfl
theorem zrm:F_r04_tails=fun (d:(List PgD)×Int×Int×Unit)=>(rl Ap Ac (fun (x:Ap)=>
 bif bif decide (x.1.2.1<(d.1.length:Int)) then inB x.1.2.1 d.1.length
 else true then
 bif bif decide (x.1.2.1<(d.1.length:Int)) then
 bif (d.1.getD x.1.2.1.toNat PG0).1 == 3 then inB x.1.2.1 d.1.length
 else true
 else true then
 bif bif decide (x.1.2.1<(d.1.length:Int)) then
 bif (d.1.getD x.1.2.1.toNat PG0).1 == 3 then (d.1.getD x.1.2.1.toNat PG0).2.1 == d.2.2.1
 else false
 else false then some (Sum.inl ((W (x.1.1+1),W (x.1.2.1+1),()),(),()))
 else some (Sum.inr ((x.1.1,()),(),()))
 else none
 else none) ((0,W (d.2.1+1),()),(),())).bind
 fun (r:Ac)=>some (r.1,()):=by
  unfold F_r04_tails
  funext d
  kernel_rfl
theorem zth:F_r07_Asks=fun (d:Ag×A7×Unit)=>(F_r03_Valid d.2).bind
 fun (r:A5)=>
 bif r.1.1 then
 bif d.2.1.1 != 0 then (F_r03_Size d.2).bind
 fun (r:Aa)=>(F_r04_Need (d.1,r.1)).bind
 fun (r:Aa)=>some ((r.1.1 != -1,()),())
 else some ((false,()),())
 else some ((false,()),()):=by
  unfold F_r07_Asks
  funext d
  kernel_rfl
theorem ztm:F_r04_take=fun (d:(List PgD)×Int×Int×PgD×PgD×Unit)=>
 bif bif decide (d.2.1<0) then true
 else bif decide (d.2.1 >= (d.1.length:Int)) then true
 else decide (d.2.2.1 > W ((d.1.length:Int)-d.2.1)) then some (([],2,()),())
 else bif zaA (0+d.1.length) 32 then (rl AJ AF (fun (x:AJ)=>
 bif decide (x.1.2.2.1<d.2.2.1) then
 bif inB (W (d.2.1+x.1.2.2.1)) x.2.2.1.length then
 bif (x.2.2.1.getD (W (d.2.1+x.1.2.2.1)).toNat PG0).1 != 0 then some (Sum.inr (Sum.inl (([],20,()),(),x.2.2)))
 else bif inB (W (d.2.1+x.1.2.2.1)) x.2.2.1.length then some (Sum.inl ((x.1.1,x.1.2.1,W (x.1.2.2.1+1),()),(),x.2.2.1.set (W (d.2.1+x.1.2.2.1)).toNat (d.2.2.2.2.1.1,d.2.2.2.2.1.2.1,d.2.2.2.2.1.2.2.1,d.2.2.2.2.1.2.2.2.1,()),()))
 else none
 else none
 else some (Sum.inr (Sum.inr ((x.1.1,x.1.2.1,()),(),x.2.2)))) (([],0,0,()),(),d.1,())).bind
 fun (r:AF)=>Sum.elim (fun (x:B9)=>some (x.1,())) (fun (y:B9)=>
 bif inB d.2.1 y.2.2.1.length then some ((y.2.2.1.set d.2.1.toNat (d.2.2.2.1.1,d.2.2.2.1.2.1,d.2.2.2.1.2.2.1,d.2.2.2.1.2.2.2.1,()),0,()),())
 else none) r
 else none:=by
  unfold F_r04_take
  funext d
  kernel_rfl
theorem zro:F_r04_Large=fun (d:Ag×(List PgD)×Int×Int×Int×Unit)=>(F_r04_Need (d.1,d.2.2.2.2)).bind
 fun (r:Aa)=>
 bif bif decide (r.1.1<1) then true
 else bif decide (d.2.2.2.1<0) then true
 else decide (d.2.2.2.1 > 1) then some (([],1,()),())
 else (F_r04_take (d.2.1,d.2.2.1,r.1.1,(2,d.2.2.2.1,d.2.2.2.2.1,0,()),(3,d.2.2.2.1,0,0,()),())).bind
 fun (r:Au×Unit)=>some r:=by
  unfold F_r04_Large
  funext d
  kernel_rfl
theorem zpE:F_r03_Decode=fun (d:Ao)=>
 bif !decide (2<0) then
 bif !decide (4<0) then
 bif !decide (16<0) then (F_r03_Encode ((W (zcN IntKind.u64 (fun (x1 x2:BitVec IntKind.u64.bits)=>x1 &&& x2) (d.1.fdiv (2 ^ min (Int.toNat 2) IntKind.u64.bits)) 3),W (zcN IntKind.u64 (fun (x1 x2:BitVec IntKind.u64.bits)=>x1 &&& x2) (d.1.fdiv (2 ^ min (Int.toNat 4) IntKind.u64.bits)) 4095),U32 (d.1.fdiv (2 ^ min (Int.toNat 16) IntKind.u64.bits)),()),())).bind
 fun (r:Ad)=>
 bif bif r.1.2.1 != 0 then true
 else r.1.1 != d.1 then some (((0,0,0,()),false,()),())
 else some (((W (zcN IntKind.u64 (fun (x1 x2:BitVec IntKind.u64.bits)=>x1 &&& x2) (d.1.fdiv (2 ^ min (Int.toNat 2) IntKind.u64.bits)) 3),W (zcN IntKind.u64 (fun (x1 x2:BitVec IntKind.u64.bits)=>x1 &&& x2) (d.1.fdiv (2 ^ min (Int.toNat 4) IntKind.u64.bits)) 4095),U32 (d.1.fdiv (2 ^ min (Int.toNat 16) IntKind.u64.bits)),()),true,()),())
 else none
 else none
 else none:=by
  unfold F_r03_Decode
  funext d
  kernel_rfl
theorem zvQ:F_r05_Get=fun (d:Ay)=>(F_r04_Proper (d.1,())).bind
 fun (r:A5)=>
 bif !r.1.1 then some (((0,0,0,()),1,()),())
 else bif d.2.1 == 0 then some (((0,0,0,()),5,()),())
 else (F_r05_At d).bind
 fun (r:Av×Unit)=>
 bif bif r.1.2.1 == 0 then r.1.1.1 == 0
 else false then some (((0,0,0,()),4,()),())
 else some r:=by
  unfold F_r05_Get
  funext d
  kernel_rfl
theorem znI:F_r03_Pointer=fun (d:Av)=>(F_r03_Valid (d.1,())).bind
 fun (r:A5)=>
 bif bif !r.1.1 then true
 else bif decide (d.2.1<0) then true
 else decide (d.2.1 >= d.1.2.1) then some ((false,()),())
 else bif
 bif d.1.1 == 2 then true
 else bif d.1.1 == 1 then !decide (U d.2.1<0)
 else true then some ((bif d.1.1 == 2 then true
 else bif d.1.1 == 1 then zcN IntKind.u32 (fun (x1 x2:BitVec IntKind.u32.bits)=>x1 &&& x2) (d.1.2.2.1.fdiv (2 ^ min (U d.2.1).toNat IntKind.u32.bits)) 1 == 1
 else false,()),())
 else none:=by
  unfold F_r03_Pointer
  funext d
  kernel_rfl
theorem zig:F_made_World_Link=fun (d:AA×A4×Unit)=>(F_made_World_pick d).bind
 fun (r:An)=>(F_made_World_pick (d.1,r.2)).bind
 fun (r_1:An)=>(F_made_Tape_Next (r_1.2.1,8,())).bind
 fun (r_2:An)=>(F_r05_Get (d.1.1,r.1)).bind
 fun (r_3:Av×Unit)=>
 bif bif r_3.1.2.1 != 0 then true
 else r_3.1.1.2.1 == 0 then some ((d.1,()),r_2.2)
 else bif !r_3.1.1.2.1 == 0 then (F_r03_Pointer (r_3.1.1,r_2.1.1.tmod r_3.1.1.2.1,())).bind
 fun (r_4:A5)=>
 bif !r_4.1.1 then (F_made_Tape_Next (r_2.2.1,1048576,())).bind
 fun (r_5:An)=>(F_r05_SetField (d.1.1,r.1.1,r_2.1.1.tmod r_3.1.1.2.1,U r_5.1.1,())).bind
 fun (r:AM)=>some (((r.1.1,d.1.2),()),r_5.2)
 else (F_r05_SetField (d.1.1,r.1.1,r_2.1.1.tmod r_3.1.1.2.1,r_1.1)).bind
 fun (r:AM)=>some (((r.1.1,d.1.2),()),r_2.2)
 else none:=by
  unfold F_made_World_Link
  funext d
  kernel_rfl
theorem zih:F_made_World_Drop=fun (d:AA×A4×Unit)=>
 bif decide ((d.1.2.1.length:Int) > 0) then (F_made_Tape_Next (d.2.1,(d.1.2.1.length:Int),())).bind
 fun (r:An)=>(F_made_Tape_Next (r.2.1,3,())).bind
 fun (r_1:An)=>
 bif bif r_1.1.1 == 0 then zaA (0+d.1.2.2.1.length) 8
 else true then
 bif bif r_1.1.1 == 0 then inB r.1.1 d.1.2.1.length
 else true then
 bif bif r_1.1.1 == 0 then zaA ((d.1.2.2.1).length + [d.1.2.1.getD r.1.1.toNat 0].length) 8
 else true then
 bif r_1.1.1 == 0 then
 bif decide ((0:Int)<=0/\0<=r.1.1/\r.1.1<=(d.1.2.1.length:Int)) then
 bif zaA (0+(List.drop (Int.toNat 0) (List.take r.1.1.toNat d.1.2.1)).length) 8 then
 bif decide (0<=W (r.1.1+1)/\W (r.1.1+1)<=(d.1.2.1.length:Int)/\(d.1.2.1.length:Int)<=(d.1.2.1.length:Int)) then
 bif zaA ((List.drop (Int.toNat 0) (List.take r.1.1.toNat d.1.2.1)).length+(List.drop (W (r.1.1+1)).toNat (List.take ((d.1.2.1.length:Int)).toNat d.1.2.1)).length) 8 then some (((d.1.1,List.drop (Int.toNat 0) (List.take r.1.1.toNat d.1.2.1)++List.drop (W (r.1.1+1)).toNat (List.take ((d.1.2.1.length:Int)).toNat d.1.2.1),d.1.2.2.1++[d.1.2.1.getD r.1.1.toNat 0],()),()),r_1.2)
 else none
 else none
 else none
 else none
 else bif decide ((0:Int)<=0/\0<=r.1.1/\r.1.1<=(d.1.2.1.length:Int)) then
 bif zaA (0+(List.drop (Int.toNat 0) (List.take r.1.1.toNat d.1.2.1)).length) 8 then
 bif decide (0<=W (r.1.1+1)/\W (r.1.1+1)<=(d.1.2.1.length:Int)/\(d.1.2.1.length:Int)<=(d.1.2.1.length:Int)) then
 bif zaA ((List.drop (Int.toNat 0) (List.take r.1.1.toNat d.1.2.1)).length+(List.drop (W (r.1.1+1)).toNat (List.take ((d.1.2.1.length:Int)).toNat d.1.2.1)).length) 8 then some (((d.1.1,List.drop (Int.toNat 0) (List.take r.1.1.toNat d.1.2.1)++List.drop (W (r.1.1+1)).toNat (List.take ((d.1.2.1.length:Int)).toNat d.1.2.1),d.1.2.2),()),r_1.2)
 else none
 else none
 else none
 else none
 else none
 else none
 else none
 else some ((d.1,()),d.2):=by
  unfold F_made_World_Drop
  funext d
  kernel_rfl
theorem zmi:F_r09_pointers=fun (d:B1)=>(F_r06_Objects d).bind
 fun (r:AQ)=>(rl Al A6 (fun (x:Al)=>
 bif decide (x.1.1<(r.1.1.length:Int)) then
 bif inB x.1.1 r.1.1.length then (F_r05_Get (d.1,r.1.1.getD x.1.1.toNat 0,())).bind
 fun (r_1:Av×Unit)=>
 bif inB x.1.1 r.1.1.length then (F_r05_Fields (d.1,r.1.1.getD x.1.1.toNat 0,())).bind
 fun (r_2:AQ)=>(rl Al A6 (fun (x_1:Al)=>
 bif decide (x_1.1.1<(r_2.1.1.length:Int)) then (F_r03_Pointer (r_1.1.1,x_1.1)).bind
 fun (r_3:A5)=>
 bif bif r_3.1.1 then inB x_1.1.1 r_2.1.1.length
 else true then
 bif bif r_3.1.1 then
 bif r_2.1.1.getD x_1.1.1.toNat 0 != 0 then inB x_1.1.1 r_2.1.1.length
 else true
 else true then
 bif r_3.1.1 then
 bif r_2.1.1.getD x_1.1.1.toNat 0 != 0 then (F_r06_Has (r.1.1,r_2.1.1.getD x_1.1.1.toNat 0,())).bind
 fun (r_4:A5)=>
 bif bif !r_4.1.1 then inB x.1.1 r.1.1.length
 else true then
 bif !r_4.1.1 then (F_r04_Of (d.1.1,U (U (r.1.1.getD x.1.1.toNat 0+1)+U x_1.1.1),())).bind
 fun (r_5:B0)=>some (Sum.inr (Sum.inl ((),(),(6,r_5.1.1,U (U (r.1.1.getD x.1.1.toNat 0+1)+U x_1.1.1),()),())))
 else some (Sum.inl ((W (x_1.1.1+1),()),(),x_1.2.2))
 else none
 else some (Sum.inl ((W (x_1.1.1+1),()),(),x_1.2.2))
 else some (Sum.inl ((W (x_1.1.1+1),()),(),x_1.2.2))
 else none
 else none
 else some (Sum.inr (Sum.inr ((),(),x_1.2.2)))) ((0,()),(),x.2.2)).bind
 fun (r:A6)=>Sum.elim (fun (x:Aq)=>some (Sum.inr (Sum.inl ((),(),x.2.2)))) (fun (y:Aq)=>some (Sum.inl ((W (x.1.1+1),()),(),y.2.2))) r
 else none
 else none
 else some (Sum.inr (Sum.inr ((),(),x.2.2)))) ((0,()),(),(0,0,0,()),())).bind
 fun (r:A6)=>Sum.elim (fun (x:Aq)=>some (x.2.2,())) (fun (y:Aq)=>some (((0,0,0,()),()),())) r:=by
  unfold F_r09_pointers
  funext d
  kernel_rfl
theorem zgb:F_r10_Begin=fun (d:B1)=>(F_r04_Proper d).bind
 fun (r:A5)=>
 bif !r.1.1 then some (((H0,[],[],[],0,(0,0,0,0,0,0,()),()),1,()),())
 else (F_r09_Good d).bind
 fun (r:A5)=>
 bif !r.1.1 then some (((H0,[],[],[],0,(0,0,0,0,0,0,()),()),19,()),())
 else (F_r06_Objects d).bind
 fun (r:AQ)=>
 bif zaA (0+d.1.2.2.1.length) 32 then (rl Ax Ar (fun (x:Ax)=>
 bif decide (x.1.1<(x.2.2.1.length:Int)) then
 bif inB x.1.1 x.2.2.1.length then
 bif bif
 bif (x.2.2.1.getD x.1.1.toNat PG0).1 == 1 then decide ((x.2.2.1.getD x.1.1.toNat PG0).2.2.2.1 > 0)
 else false then inB x.1.1 x.2.2.1.length
 else true then
 bif bif (x.2.2.1.getD x.1.1.toNat PG0).1 == 1 then decide ((x.2.2.1.getD x.1.1.toNat PG0).2.2.2.1 > 0)
 else false then some (Sum.inl ((W (x.1.1+1),()),(),x.2.2.1.set x.1.1.toNat ((x.2.2.1.getD x.1.1.toNat PG0).1,W (1-d.1.2.2.2.1),(x.2.2.1.getD x.1.1.toNat PG0).2.2.1,(x.2.2.1.getD x.1.1.toNat PG0).2.2.2.1,()),()))
 else some (Sum.inl ((W (x.1.1+1),()),(),x.2.2))
 else none
 else none
 else some (Sum.inr ((),(),x.2.2))) ((0,()),(),d.1.2.2.1,())).bind
 fun (r_1:Ar)=>some ((((d.1.1,d.1.2.1,r_1.2.2.1,d.1.2.2.2),r.1.1,[],[],0,(0,0,0,0,0,0,()),()),0,()),())
 else none:=by
  unfold F_r10_Begin
  funext d
  kernel_rfl
theorem zmh:F_r10_Promoted=fun (d:AX)=>
 bif bif decide (d.2.1<0) then true
 else decide (d.2.1 >= (d.1.1.2.2.1.length:Int)) then some ((false,()),())
 else bif inB d.2.1 d.1.1.2.2.1.length then
 bif (d.1.1.2.2.1.getD d.2.1.toNat PG0).1 == 1 then
 bif (d.1.1.2.2.1.getD d.2.1.toNat PG0).2.1 != d.1.1.2.2.2.1 then (F_r10_taken d).bind
 fun (r:A5)=>some ((!r.1.1,()),())
 else some ((false,()),())
 else some ((false,()),())
 else none:=by
  unfold F_r10_Promoted
  funext d
  kernel_rfl
theorem zem:F_r10_Forward=fun (d:AX)=>
 bif d.2.1 == 0 then some ((d.1,d.2.1,0,()),())
 else (F_r06_Has (d.1.2.2.2.1,d.2)).bind
 fun (r:A5)=>
 bif r.1.1 then some ((d.1,d.2.1,0,()),())
 else (F_r06_Has (d.1.2.1,d.2)).bind
 fun (r:A5)=>
 bif !r.1.1 then some (((H0,[],[],[],0,(0,0,0,0,0,0,()),()),0,19,()),())
 else (F_r02_Load (d.1.1.2.1,d.2)).bind
 fun (r:Ad)=>(F_r03_Target (r.1.1,())).bind
 fun (r_1:AI)=>
 bif r_1.1.2.1 then some ((d.1,r_1.1.1,0,()),())
 else (F_r04_Of (d.1.1.1,d.2)).bind
 fun (r_2:B0)=>
 bif bif r_2.1.2.2.1 != 0 then true
 else decide (r_2.1.1 >= (d.1.1.2.2.1.length:Int)) then some (((H0,[],[],[],0,(0,0,0,0,0,0,()),()),0,19,()),())
 else (F_r10_Promoted (d.1,r_2.1.1,())).bind
 fun (r_3:A5)=>
 bif r_3.1.1 then (F_r10_keep d).bind
 fun (r:AO)=>some ((r.1.1,d.2.1,0,()),())
 else bif inB r_2.1.1 d.1.1.2.2.1.length then
 bif bif (d.1.1.2.2.1.getD r_2.1.1.toNat PG0).1 == 2 then zaA (0+d.1.1.2.2.1.length) 32
 else true then
 bif bif (d.1.1.2.2.1.getD r_2.1.1.toNat PG0).1 == 2 then inB r_2.1.1 (d.1.1.2.2.1).length
 else true then
 bif (d.1.1.2.2.1.getD r_2.1.1.toNat PG0).1 == 2 then (rl Ax Ar (fun (x:Ax)=>
 bif bif decide (x.1.1<(x.2.2.1.length:Int)) then inB x.1.1 x.2.2.1.length
 else true then
 bif bif decide (x.1.1<(x.2.2.1.length:Int)) then (x.2.2.1.getD x.1.1.toNat PG0).1 == 3
 else false then
 bif inB x.1.1 x.2.2.1.length then some (Sum.inl ((W (x.1.1+1),()),(),x.2.2.1.set x.1.1.toNat ((x.2.2.1.getD x.1.1.toNat PG0).1,W (1-d.1.1.2.2.2.1),(x.2.2.1.getD x.1.1.toNat PG0).2.2.1,(x.2.2.1.getD x.1.1.toNat PG0).2.2.2.1,()),()))
 else none
 else some (Sum.inr ((),(),x.2.2))
 else none) ((W (r_2.1.1+1),()),(),(d.1.1.2.2.1).set r_2.1.1.toNat (((d.1.1.2.2.1).getD r_2.1.1.toNat PG0).1,W (1-d.1.1.2.2.2.1),((d.1.1.2.2.1).getD r_2.1.1.toNat PG0).2.2.1,((d.1.1.2.2.1).getD r_2.1.1.toNat PG0).2.2.2.1,()),())).bind
 fun (r:Ar)=>(F_r10_keep (((d.1.1.1,d.1.1.2.1,r.2.2.1,d.1.1.2.2.2),d.1.2),d.2)).bind
 fun (r:AO)=>some ((r.1.1,d.2.1,0,()),())
 else (F_r03_Decode (r.1.1,())).bind
 fun (r:(A7×Bool×Unit)×Unit)=>(F_r03_Size (r.1.1,())).bind
 fun (r:Aa)=>(F_r10_place (d.1,r.1)).bind
 fun (r_4:(A3×Int×Bool×Unit)×Unit)=>
 bif !r_4.1.2.2.1 then some (((H0,[],[],[],0,(0,0,0,0,0,0,()),()),0,3,()),())
 else (F_r02_Move (r_4.1.1.1.2.1,r_4.1.2.1,d.2.1,r.1)).bind
 fun (r:AQ)=>(F_r03_Forward (r_4.1.2.1,())).bind
 fun (r_5:Ad)=>(F_r02_Store (r.1.1,d.2.1,r_5.1.1,())).bind
 fun (r:AQ)=>
 bif zaA (0+r_4.1.1.2.2.2.1.length) 8 then
 bif zaA ((r_4.1.1.2.2.2.1).length + [r_4.1.2.1].length) 8 then some ((((r_4.1.1.1.1,r.1.1,r_4.1.1.1.2.2),r_4.1.1.2.1,r_4.1.1.2.2.1,r_4.1.1.2.2.2.1++[r_4.1.2.1],r_4.1.1.2.2.2.2.1,(W (r_4.1.1.2.2.2.2.2.1.1+1),r_4.1.1.2.2.2.2.2.1.2),()),r_4.1.2.1,0,()),())
 else none
 else none
 else none
 else none
 else none:=by
  unfold F_r10_Forward
  funext d
  kernel_rfl
theorem zre:F_r11_Roots=fun (d:Ab×List Int×Unit)=>(rl (AL×A9×A0×A0×Unit) (A4×Unit×A0×A0×Unit⊕Az×A9×A0×A0×Unit) (fun (x:AL×A9×A0×A0×Unit)=>
 bif decide (x.1.2.2.2.1<(d.2.1.length:Int)) then
 bif inB x.1.2.2.2.1 d.2.1.length then (F_r10_Forward ((((x.2.2.1.1,x.2.2.1.2.1,()),x.2.2.1.2.2.1,x.2.2.1.2.2.2.1,x.2.2.1.2.2.2.2.1,x.2.2.1.2.2.2.2.2.1,()),x.2.2.1.2.2.2.2.2.2.1,x.2.2.1.2.2.2.2.2.2.2.1,x.2.2.1.2.2.2.2.2.2.2.2.1,x.2.2.1.2.2.2.2.2.2.2.2.2.1,x.2.2.1.2.2.2.2.2.2.2.2.2.2,()),d.2.1.getD x.1.2.2.2.1.toNat 0,())).bind
 fun (r:AK)=>
 bif r.1.2.2.1 != 0 then some (Sum.inr (Sum.inl (([],r.1.2.2),(),x.2.2.1,(0,0,[],[],0,0,[],[],[],0,0,0,0,0,0,0,()),())))
 else bif zaA (x.2.1.1.length + [r.1.2.1].length) 8 then some (Sum.inl ((x.1.1,x.1.2.1,(),W (x.1.2.2.2.1+1),()),(x.2.1.1++[r.1.2.1],()),(r.1.1.1.1.1,r.1.1.1.1.2.1,r.1.1.1.2.1,r.1.1.1.2.2.1,r.1.1.1.2.2.2.1,r.1.1.1.2.2.2.2.1,r.1.1.2.1,r.1.1.2.2.1,r.1.1.2.2.2.1,r.1.1.2.2.2.2.1,r.1.1.2.2.2.2.2.1),x.2.2.2))
 else none
 else none
 else some (Sum.inr (Sum.inr ((x.1.1,x.1.2.1,(),()),x.2)))) (([],0,(),0,()),([],()),(d.1.1.1.1,d.1.1.1.2.1,d.1.1.2.1,d.1.1.2.2.1,d.1.1.2.2.2.1,d.1.1.2.2.2.2.1,d.1.2.1,d.1.2.2.1,d.1.2.2.2.1,d.1.2.2.2.2.1,d.1.2.2.2.2.2.1),(0,0,[],[],0,0,[],[],[],0,0,0,0,0,0,0,()),())).bind
 fun (r:A4×Unit×A0×A0×Unit⊕Az×A9×A0×A0×Unit)=>Sum.elim (fun (x:A4×Unit×A0×A0×Unit)=>some (((((x.2.2.2.1.1,x.2.2.2.1.2.1,()),x.2.2.2.1.2.2.1,x.2.2.2.1.2.2.2.1,x.2.2.2.1.2.2.2.2.1,x.2.2.2.1.2.2.2.2.2.1,()),x.2.2.2.1.2.2.2.2.2.2.1,x.2.2.2.1.2.2.2.2.2.2.2.1,x.2.2.2.1.2.2.2.2.2.2.2.2.1,x.2.2.2.1.2.2.2.2.2.2.2.2.2.1,x.2.2.2.1.2.2.2.2.2.2.2.2.2.2,()),x.1),())) (fun (y:Az×A9×A0×A0×Unit)=>some (((((y.2.2.1.1,y.2.2.1.2.1,()),y.2.2.1.2.2.1,y.2.2.1.2.2.2.1,y.2.2.1.2.2.2.2.1,y.2.2.1.2.2.2.2.2.1,()),y.2.2.1.2.2.2.2.2.2.1,y.2.2.1.2.2.2.2.2.2.2.1,y.2.2.1.2.2.2.2.2.2.2.2.1,y.2.2.1.2.2.2.2.2.2.2.2.2.1,y.2.2.1.2.2.2.2.2.2.2.2.2.2,()),y.2.1.1,0,()),())) r:=by
  unfold F_r11_Roots
  funext d
  kernel_rfl
theorem zvM:F_r11_All=fun (d:Ab×Unit)=>(rl (Ao×Unit×A0×A0×Unit) (Ao×Unit×A0×A0×Unit) (fun (x:Ao×Unit×A0×A0×Unit)=>(F_r11_Step ((((x.2.2.1.1,x.2.2.1.2.1,()),x.2.2.1.2.2.1,x.2.2.1.2.2.2.1,x.2.2.1.2.2.2.2.1,x.2.2.1.2.2.2.2.2.1,()),x.2.2.1.2.2.2.2.2.2.1,x.2.2.1.2.2.2.2.2.2.2.1,x.2.2.1.2.2.2.2.2.2.2.2.1,x.2.2.1.2.2.2.2.2.2.2.2.2.1,x.2.2.1.2.2.2.2.2.2.2.2.2.2,()),())).bind
 fun (r:(A3×Bool×Int×Unit)×Unit)=>
 bif r.1.2.2.1 != 0 then some (Sum.inr (r.1.2.2,(),x.2.2.1,(0,0,[],[],0,0,[],[],[],0,0,0,0,0,0,0,()),()))
 else bif !r.1.2.1 then some (Sum.inr ((0,()),(),(r.1.1.1.1.1,r.1.1.1.1.2.1,r.1.1.1.2.1,r.1.1.1.2.2.1,r.1.1.1.2.2.2.1,r.1.1.1.2.2.2.2.1,r.1.1.2.1,r.1.1.2.2.1,r.1.1.2.2.2.1,r.1.1.2.2.2.2.1,r.1.1.2.2.2.2.2.1),(r.1.1.1.1.1,r.1.1.1.1.2.1,r.1.1.1.2.1,r.1.1.1.2.2.1,r.1.1.1.2.2.2.1,r.1.1.1.2.2.2.2.1,r.1.1.2.1,r.1.1.2.2.1,r.1.1.2.2.2.1,r.1.1.2.2.2.2.1,r.1.1.2.2.2.2.2.1),()))
 else some (Sum.inl (x.1,(),(r.1.1.1.1.1,r.1.1.1.1.2.1,r.1.1.1.2.1,r.1.1.1.2.2.1,r.1.1.1.2.2.2.1,r.1.1.1.2.2.2.2.1,r.1.1.2.1,r.1.1.2.2.1,r.1.1.2.2.2.1,r.1.1.2.2.2.2.1,r.1.1.2.2.2.2.2.1),x.2.2.2))) ((0,()),(),(d.1.1.1.1,d.1.1.1.2.1,d.1.1.2.1,d.1.1.2.2.1,d.1.1.2.2.2.1,d.1.1.2.2.2.2.1,d.1.2.1,d.1.2.2.1,d.1.2.2.2.1,d.1.2.2.2.2.1,d.1.2.2.2.2.2.1),(0,0,[],[],0,0,[],[],[],0,0,0,0,0,0,0,()),())).bind
 fun (r:Ao×Unit×A0×A0×Unit)=>some (((((r.2.2.2.1.1,r.2.2.2.1.2.1,()),r.2.2.2.1.2.2.1,r.2.2.2.1.2.2.2.1,r.2.2.2.1.2.2.2.2.1,r.2.2.2.1.2.2.2.2.2.1,()),r.2.2.2.1.2.2.2.2.2.2.1,r.2.2.2.1.2.2.2.2.2.2.2.1,r.2.2.2.1.2.2.2.2.2.2.2.2.1,r.2.2.2.1.2.2.2.2.2.2.2.2.2.1,r.2.2.2.1.2.2.2.2.2.2.2.2.2.2,()),r.1),()):=by
  unfold F_r11_All
  funext d
  kernel_rfl
theorem zrv:F_page_size=fun (d:Ad)=>some ((W (d.1.1*d.1.2.1),()),()):=by
 unfold F_page_size
 funext d
 kernel_rfl
theorem zia:F_page_table_free=fun (d:AR)=>
 bif inB d.2.1 d.1.2.1.length then some ((((d.1.2.1.getD d.2.1.toNat PG0).1,(d.1.2.1.getD d.2.1.toNat PG0).2.1,(d.1.2.1.getD d.2.1.toNat PG0).2.2.1,(d.1.2.1.getD d.2.1.toNat PG0).2.2.2.1,()).1 == PG0.1&&(((d.1.2.1.getD d.2.1.toNat PG0).1,(d.1.2.1.getD d.2.1.toNat PG0).2.1,(d.1.2.1.getD d.2.1.toNat PG0).2.2.1,(d.1.2.1.getD d.2.1.toNat PG0).2.2.2.1,()).2.1 == PG0.2.1&&(((d.1.2.1.getD d.2.1.toNat PG0).1,(d.1.2.1.getD d.2.1.toNat PG0).2.1,(d.1.2.1.getD d.2.1.toNat PG0).2.2.1,(d.1.2.1.getD d.2.1.toNat PG0).2.2.2.1,()).2.2.1 == PG0.2.2.1&&(((d.1.2.1.getD d.2.1.toNat PG0).1,(d.1.2.1.getD d.2.1.toNat PG0).2.1,(d.1.2.1.getD d.2.1.toNat PG0).2.2.1,(d.1.2.1.getD d.2.1.toNat PG0).2.2.2.1,()).2.2.2.1 == PG0.2.2.2.1&&true))),()),())
 else none:=by
  unfold F_page_table_free
  funext d
  kernel_rfl
theorem zhp:F_page_table_small=fun (d:AR)=>
 bif inB d.2.1 d.1.2.1.length then (F_page_isSpace ((d.1.2.1.getD d.2.1.toNat PG0).2.1,())).bind
 fun (r:A5)=>
 bif r.1.1 then (F_page_within ((d.1.2.1.getD d.2.1.toNat PG0).2.2.1,0,d.1.1.1,())).bind
 fun (r:A5)=>
 bif r.1.1 then (F_page_isPins (d.1.2.1.getD d.2.1.toNat PG0).2.2.2).bind
 fun (r:A5)=>some r
 else some ((false,()),())
 else some ((false,()),())
 else none:=by
  unfold F_page_table_small
  funext d
  kernel_rfl
theorem zib:F_page_SmallWords=fun (d:Ad)=>(F_page_ValidConf d).bind
 fun (r:A5)=>
 bif !r.1.1 then some ((0,()),())
 else bif !4 == 0 then some ((W (d.1.1.tdiv 4),()),())
 else none:=by
  unfold F_page_SmallWords
  funext d
  kernel_rfl
theorem zhr:F_page_table_large=fun (d:AR)=>
 bif inB d.2.1 d.1.2.1.length then (F_page_Need (d.1.1,(d.1.2.1.getD d.2.1.toNat PG0).2.2.1,())).bind
 fun (r:Aa)=>(F_page_isSpace ((d.1.2.1.getD d.2.1.toNat PG0).2.1,())).bind
 fun (r_1:A5)=>
 bif !r_1.1.1 then some ((false,()),())
 else bif decide (r.1.1<1) then some ((false,()),())
 else (F_page_isPins (d.1.2.1.getD d.2.1.toNat PG0).2.2.2).bind
 fun (r_2:A5)=>
 bif bif !r_2.1.1 then true
 else decide (W (d.2.1+r.1.1) > (d.1.2.1.length:Int)) then some ((false,()),())
 else bif decide (0<=W (d.2.1+1)/\W (d.2.1+1)<=W (d.2.1+r.1.1)/\W (d.2.1+r.1.1)<=(d.1.2.1.length:Int)) then (rl Af A8 (fun (x:Af)=>
 bif decide (x.1.2.1<((List.drop (W (d.2.1+1)).toNat (List.take (W (d.2.1+r.1.1)).toNat d.1.2.1)).length:Int)) then
 bif inB x.1.2.1 (List.drop (W (d.2.1+1)).toNat (List.take (W (d.2.1+r.1.1)).toNat d.1.2.1)).length then
 bif bif ((List.drop (W (d.2.1+1)).toNat (List.take (W (d.2.1+r.1.1)).toNat d.1.2.1)).getD x.1.2.1.toNat PG0).1 != 3 then true
 else ((List.drop (W (d.2.1+1)).toNat (List.take (W (d.2.1+r.1.1)).toNat d.1.2.1)).getD x.1.2.1.toNat PG0).2.1 != (d.1.2.1.getD d.2.1.toNat PG0).2.1 then some (Sum.inr (Sum.inl ((false,()),(),())))
 else some (Sum.inl ((x.1.1,W (x.1.2.1+1),()),(),()))
 else none
 else some (Sum.inr (Sum.inr ((x.1.1,()),(),())))) ((false,0,()),(),())).bind
 fun (r:A8)=>Sum.elim (fun (x:Ai)=>some (x.1,())) (fun (y:Ai)=>some ((true,()),())) r
 else none
 else none:=by
  unfold F_page_table_large
  funext d
  kernel_rfl
theorem zvS:F_page_Of=fun (d:Ag×Int×Unit)=>(F_page_ValidConf (d.1,())).bind
 fun (r:A5)=>
 bif !r.1.1 then some ((0,0,1,()),())
 else bif decide (d.2.1<4096) then some ((0,0,2,()),())
 else (F_page_size (d.1,())).bind
 fun (r:Aa)=>
 bif decide (U (d.2.1-4096) >= U r.1.1) then some ((0,0,2,()),())
 else bif !d.1.1 == 0 then
 bif !d.1.1 == 0 then some ((W ((W (U (d.2.1-4096))).tdiv d.1.1),(W (U (d.2.1-4096))).tmod d.1.1,0,()),())
 else none
 else none:=by
  unfold F_page_Of
  funext d
  kernel_rfl
theorem zkX:F_object_reader=fun (d:B1)=>some ((d,()),()):=by
 unfold F_object_reader
 funext d
 kernel_rfl
theorem zmr:F_arena_locate=fun (d:AY)=>
 bif decide (d.2.2.1<0) then some ((0,1,()),())
 else bif decide (d.2.1<4096) then some ((0,2,()),())
 else bif
 bif decide (U (d.2.1-4096) > U (d.1.length:Int)) then true
 else decide (U d.2.2.1 > U (U (d.1.length:Int)-U (d.2.1-4096))) then some ((0,2,()),())
 else some ((W (U (d.2.1-4096)),0,()),()):=by
  unfold F_arena_locate
  funext d
  kernel_rfl
theorem znT:F_arena_Index=fun (d:A4)=>(F_arena_locate (d.1,d.2.1,1,())).bind
 fun (r:Ad)=>some r:=by
  unfold F_arena_Index
  funext d
  kernel_rfl
theorem zpM:F_arena_Load=fun (d:A4)=>(F_arena_Index d).bind
 fun (r:Ad)=>
 bif r.1.2.1 != 0 then some ((0,r.1.2),())
 else bif inB r.1.1 d.1.length then some ((d.1.getD r.1.1.toNat 0,0,()),())
 else none:=by
  unfold F_arena_Load
  funext d
  kernel_rfl
theorem zgc:F_object_reader_S1_c=fun (d:Int×A2×Unit)=>(F_arena_Load (d.2.1.2.1,d.1,())).bind
 fun (r:Ad)=>some (r.1,d.2):=by
  unfold F_object_reader_S1_c
  funext d
  kernel_rfl
theorem zhu:F_bits_Unpack_S1_c=fun (d:Int×List Int×Unit)=>
 bif inB d.1 d.2.1.length then some ((d.2.1.getD d.1.toNat 0,()),d.2)
 else none:=by
  unfold F_bits_Unpack_S1_c
  funext d
  kernel_rfl
theorem zrA:F_bits_Ones=fun (d:Ao)=>
 bif decide (d.1<0) then some ((0,()),())
 else bif !decide (d.1<0) then some ((U (U (1*2 ^ min d.1.toNat IntKind.u64.bits)-1),()),())
 else none:=by
  unfold F_bits_Ones
  funext d
  kernel_rfl
theorem zrx:F_object_At=fun (d:Ay)=>(F_page_Proper (d.1,())).bind
 fun (r:A5)=>
 bif !r.1.1 then some (((0,0,0,()),1,()),())
 else (F_page_Of (d.1.1,d.2)).bind
 fun (r:B0)=>
 bif r.1.2.2.1 != 0 then some (((0,0,0,()),r.1.2.2),())
 else (F_object_reader (d.1,())).bind
 fun (r_1:((HpD×Unit)×Unit)×Unit)=>(F_object_reader_S1_c (d.2.1,r_1.1.1)).bind
 fun (r_2:Ag×HpD×Unit)=>
 bif r_2.1.2.1 != 0 then some (((0,0,0,()),r_2.1.2),())
 else (F_header_Decode (r_2.1.1,())).bind
 fun (r_3:(A7×Bool×Unit)×Unit)=>
 bif bif !r_3.1.2.1 then true
 else inB r.1.1 d.1.2.2.1.length then
 bif !r_3.1.2.1 then some (((0,0,0,()),19,()),())
 else (F_header_Size (r_3.1.1,())).bind
 fun (r_4:Aa)=>(F_object_fits (d.1.2.2.1.getD r.1.1.toNat PG0,r.1.2.1,r_4.1)).bind
 fun (r:A5)=>
 bif !r.1.1 then some (((0,0,0,()),19,()),())
 else some ((r_3.1.1,0,()),())
 else none:=by
  unfold F_object_At
  funext d
  kernel_rfl
theorem zfB:F_audit_partsOf=fun (d:Ay)=>(F_walk_Page d).bind
 fun (r:AQ)=>
 bif r.1.2.1 != 0 then some (([],r.1.2),())
 else (rl ((List AD×Int×Unit×Int×Unit)×(List AD×Unit)×Unit) ((List AD×Int×Unit)×Unit×Unit⊕(List AD×Int×Unit×Unit)×(List AD×Unit)×Unit) (fun (x:(List AD×Int×Unit×Int×Unit)×(List AD×Unit)×Unit)=>
 bif decide (x.1.2.2.2.1<(r.1.1.length:Int)) then
 bif inB x.1.2.2.2.1 r.1.1.length then (F_object_At (d.1,r.1.1.getD x.1.2.2.2.1.toNat 0,())).bind
 fun (r_1:Av×Unit)=>
 bif r_1.1.2.1 != 0 then some (Sum.inr (Sum.inl (([],r_1.1.2),(),())))
 else bif zaA (x.2.1.1.length + [(r.1.1.getD x.1.2.2.2.1.toNat 0,(r_1.1.1.1,r_1.1.1.2.1,r_1.1.1.2.2.1,()),())].length) 32 then some (Sum.inl ((x.1.1,x.1.2.1,(),W (x.1.2.2.2.1+1),()),(x.2.1.1++[(r.1.1.getD x.1.2.2.2.1.toNat 0,(r_1.1.1.1,r_1.1.1.2.1,r_1.1.1.2.2.1,()),())],()),()))
 else none
 else none
 else some (Sum.inr (Sum.inr ((x.1.1,x.1.2.1,(),()),x.2)))) (([],0,(),0,()),([],()),())).bind
 fun (r:(List AD×Int×Unit)×Unit×Unit⊕(List AD×Int×Unit×Unit)×(List AD×Unit)×Unit)=>Sum.elim (fun (x:(List AD×Int×Unit)×Unit×Unit)=>some (x.1,())) (fun (y:(List AD×Int×Unit×Unit)×(List AD×Unit)×Unit)=>some ((y.2.1.1,0,()),())) r:=by
  unfold F_audit_partsOf
  funext d
  kernel_rfl
theorem zbF:F_cmp_Or_audit_Finding=fun (d:(List A7)×Unit)=>(rl Al A6 (fun (x:Al)=>
 bif decide (x.1.1<(d.1.length:Int)) then
 bif inB x.1.1 d.1.length then
 bif !(((d.1.getD x.1.1.toNat (0,0,0,())).1,(d.1.getD x.1.1.toNat (0,0,0,())).2.1,(d.1.getD x.1.1.toNat (0,0,0,())).2.2.1,()).1 == (0,0,0,()).1&&(((d.1.getD x.1.1.toNat (0,0,0,())).1,(d.1.getD x.1.1.toNat (0,0,0,())).2.1,(d.1.getD x.1.1.toNat (0,0,0,())).2.2.1,()).2.1 == (0,0,0,()).2.1&&(((d.1.getD x.1.1.toNat (0,0,0,())).1,(d.1.getD x.1.1.toNat (0,0,0,())).2.1,(d.1.getD x.1.1.toNat (0,0,0,())).2.2.1,()).2.2.1 == (0,0,0,()).2.2.1&&true))) then some (Sum.inr (Sum.inl ((),(),d.1.getD x.1.1.toNat (0,0,0,()),())))
 else some (Sum.inl ((W (x.1.1+1),()),(),x.2.2))
 else none
 else some (Sum.inr (Sum.inr ((),(),x.2.2)))) ((0,()),(),(0,0,0,()),())).bind
 fun (r:A6)=>Sum.elim (fun (x:Aq)=>some (x.2.2,())) (fun (y:Aq)=>some (((0,0,0,()),()),())) r:=by
  unfold F_cmp_Or_audit_Finding
  funext d
  kernel_rfl
theorem zmf:F_walk_Objects=fun (d:B1)=>(F_walk_inHeap d).bind
 fun (r:((HpD×Unit)×Unit)×Unit)=>(F_walk_list_c_walk_inHeap_S1_walk_isObject r.1.1).bind
 fun (r:A4×HpD×Unit)=>some (r.1,()):=by
  unfold F_walk_Objects
  funext d
  kernel_rfl
theorem zil:F_cmp_Less_uint64=fun (d:Ag)=>(F_cmp_isNaN_uint64 (d.1,())).bind
 fun (r:A5)=>
 bif r.1.1 then (F_cmp_isNaN_uint64 d.2).bind
 fun (r:A5)=>some ((bif !r.1.1 then true
 else decide (d.1<d.2.1),()),())
 else some ((decide (d.1<d.2.1),()),()):=by
  unfold F_cmp_Less_uint64
  funext d
  kernel_rfl
theorem zfM:F_slices_isNaN_uint64=fun (d:Ao)=>some ((d.1 != d.1,()),()):=by
 unfold F_slices_isNaN_uint64
 funext d
 kernel_rfl
theorem znQ:F_audit_Check=fun (d:B1)=>(F_page_Proper d).bind
 fun (r:A5)=>
 bif !r.1.1 then some (((1,0,0,()),()),())
 else (rl Al A6 (fun (x:Al)=>
 bif decide (x.1.1<(d.1.2.2.1.length:Int)) then (F_audit_checkPage (d.1,x.1)).bind
 fun (r:AB)=>
 bif !((r.1.1.1,r.1.1.2.1,r.1.1.2.2.1,()).1 == (0,0,0,()).1&&((r.1.1.1,r.1.1.2.1,r.1.1.2.2.1,()).2.1 == (0,0,0,()).2.1&&((r.1.1.1,r.1.1.2.1,r.1.1.2.2.1,()).2.2.1 == (0,0,0,()).2.2.1&&true))) then some (Sum.inr (Sum.inl ((),(),r.1)))
 else some (Sum.inl ((W (x.1.1+1),()),(),x.2.2))
 else some (Sum.inr (Sum.inr ((),(),x.2.2)))) ((0,()),(),(0,0,0,()),())).bind
 fun (r:A6)=>Sum.elim (fun (x:Aq)=>some (x.2.2,())) (fun (y:Aq)=>(F_audit_checkPointers d).bind
 fun (r:AB)=>(F_audit_checkCrowd d).bind
 fun (r_1:AB)=>(F_cmp_Or_audit_Finding ([(r.1.1.1,r.1.1.2.1,r.1.1.2.2.1,()),(r_1.1.1.1,r_1.1.1.2.1,r_1.1.1.2.2.1,())],())).bind
 fun (r:AB)=>some r) r:=by
  unfold F_audit_Check
  funext d
  kernel_rfl
theorem zpK:F_audit_Good=fun (d:B1)=>(F_audit_Check d).bind
 fun (r:AB)=>some (((r.1.1.1,r.1.1.2.1,r.1.1.2.2.1,()).1 == (0,0,0,()).1&&((r.1.1.1,r.1.1.2.1,r.1.1.2.2.1,()).2.1 == (0,0,0,()).2.1&&((r.1.1.1,r.1.1.2.1,r.1.1.2.2.1,()).2.2.1 == (0,0,0,()).2.2.1&&true)),()),()):=by
  unfold F_audit_Good
  funext d
  kernel_rfl
theorem zkW:F_r04_SamePages=fun (d:(List PgD)×(List PgD)×Unit)=>
 bif (d.1.length:Int) != (d.2.1.length:Int) then some ((false,()),())
 else (rl Af A8 (fun (x:Af)=>
 bif decide (x.1.2.1<(d.1.length:Int)) then
 bif inB x.1.2.1 d.1.length then
 bif inB x.1.2.1 d.2.1.length then
 bif !(((d.1.getD x.1.2.1.toNat PG0).1,(d.1.getD x.1.2.1.toNat PG0).2.1,(d.1.getD x.1.2.1.toNat PG0).2.2.1,(d.1.getD x.1.2.1.toNat PG0).2.2.2.1,()).1 == ((d.2.1.getD x.1.2.1.toNat PG0).1,(d.2.1.getD x.1.2.1.toNat PG0).2.1,(d.2.1.getD x.1.2.1.toNat PG0).2.2.1,(d.2.1.getD x.1.2.1.toNat PG0).2.2.2.1,()).1&&(((d.1.getD x.1.2.1.toNat PG0).1,(d.1.getD x.1.2.1.toNat PG0).2.1,(d.1.getD x.1.2.1.toNat PG0).2.2.1,(d.1.getD x.1.2.1.toNat PG0).2.2.2.1,()).2.1 == ((d.2.1.getD x.1.2.1.toNat PG0).1,(d.2.1.getD x.1.2.1.toNat PG0).2.1,(d.2.1.getD x.1.2.1.toNat PG0).2.2.1,(d.2.1.getD x.1.2.1.toNat PG0).2.2.2.1,()).2.1&&(((d.1.getD x.1.2.1.toNat PG0).1,(d.1.getD x.1.2.1.toNat PG0).2.1,(d.1.getD x.1.2.1.toNat PG0).2.2.1,(d.1.getD x.1.2.1.toNat PG0).2.2.2.1,()).2.2.1 == ((d.2.1.getD x.1.2.1.toNat PG0).1,(d.2.1.getD x.1.2.1.toNat PG0).2.1,(d.2.1.getD x.1.2.1.toNat PG0).2.2.1,(d.2.1.getD x.1.2.1.toNat PG0).2.2.2.1,()).2.2.1&&(((d.1.getD x.1.2.1.toNat PG0).1,(d.1.getD x.1.2.1.toNat PG0).2.1,(d.1.getD x.1.2.1.toNat PG0).2.2.1,(d.1.getD x.1.2.1.toNat PG0).2.2.2.1,()).2.2.2.1 == ((d.2.1.getD x.1.2.1.toNat PG0).1,(d.2.1.getD x.1.2.1.toNat PG0).2.1,(d.2.1.getD x.1.2.1.toNat PG0).2.2.1,(d.2.1.getD x.1.2.1.toNat PG0).2.2.2.1,()).2.2.2.1&&true)))) then some (Sum.inr (Sum.inl ((false,()),(),())))
 else some (Sum.inl ((x.1.1,W (x.1.2.1+1),()),(),()))
 else none
 else none
 else some (Sum.inr (Sum.inr ((x.1.1,()),(),())))) ((false,0,()),(),())).bind
 fun (r:A8)=>Sum.elim (fun (x:Ai)=>some (x.1,())) (fun (y:Ai)=>some ((true,()),())) r:=by
  unfold F_r04_SamePages
  funext d
  kernel_rfl
theorem zcP:F_slices_Index_uint64=fun (d:A4)=>(rl Ap Ah (fun (x:Ap)=>
 bif decide (x.1.2.1<(d.1.length:Int)) then
 bif inB x.1.2.1 d.1.length then
 bif d.2.1 == d.1.getD x.1.2.1.toNat 0 then some (Sum.inr (Sum.inl (x.1.2,(),())))
 else some (Sum.inl ((x.1.1,W (x.1.2.1+1),()),(),()))
 else none
 else some (Sum.inr (Sum.inr ((x.1.1,()),(),())))) ((0,0,()),(),())).bind
 fun (r:Ah)=>Sum.elim (fun (x:Ac)=>some (x.1,())) (fun (y:Ac)=>some ((-1,()),())) r:=by
  unfold F_slices_Index_uint64
  funext d
  kernel_rfl
theorem zkY:F_header_Target=fun (d:Ao)=>(F_bits_Unpack (d.1,[2,32],())).bind
 fun (r:AQ)=>
 bif bif r.1.2.1 != 0 then true
 else inB 0 r.1.1.length then
 bif bif r.1.2.1 != 0 then true
 else r.1.1.getD (Int.toNat 0) 0 != 2 then some ((0,false,()),())
 else bif inB 1 r.1.1.length then some ((r.1.1.getD (Int.toNat 1) 0,true,()),())
 else none
 else none:=by
  unfold F_header_Target
  funext d
  kernel_rfl
theorem zgW:F_evacuate_setSpace=fun (d:Ay)=>(F_evacuate_newSpace (d.1,())).bind
 fun (r:Aa)=>
 bif inB d.2.1 d.1.2.2.1.length then (rl Ax Ar (fun (x:Ax)=>(F_evacuate_isPage ((d.1.1,d.1.2.1,x.2.2.1,d.1.2.2.2),x.1)).bind
 fun (r:A5)=>
 bif bif r.1.1 then inB x.1.1 x.2.2.1.length
 else true then
 bif bif r.1.1 then (x.2.2.1.getD x.1.1.toNat PG0).1 == 3
 else false then (F_evacuate_newSpace ((d.1.1,d.1.2.1,x.2.2.1,d.1.2.2.2),())).bind
 fun (r:Aa)=>
 bif inB x.1.1 x.2.2.1.length then some (Sum.inl ((W (x.1.1+1),()),(),x.2.2.1.set x.1.1.toNat ((x.2.2.1.getD x.1.1.toNat PG0).1,r.1.1,(x.2.2.1.getD x.1.1.toNat PG0).2.2.1,(x.2.2.1.getD x.1.1.toNat PG0).2.2.2.1,()),()))
 else none
 else some (Sum.inr ((),(),x.2.2))
 else none) ((W (d.2.1+1),()),(),d.1.2.2.1.set d.2.1.toNat ((d.1.2.2.1.getD d.2.1.toNat PG0).1,r.1.1,(d.1.2.2.1.getD d.2.1.toNat PG0).2.2.1,(d.1.2.2.1.getD d.2.1.toNat PG0).2.2.2.1,()),())).bind
 fun (r:Ar)=>some ((),(d.1.1,d.1.2.1,r.2.2.1,d.1.2.2.2),())
 else none:=by
  unfold F_evacuate_setSpace
  funext d
  kernel_rfl
theorem zeQ:F_evacuate_copying_last=fun (d:AH)=>
 bif (d.1.1.2.2.1.length:Int) == 0 then some ((-1,()),d)
 else bif inB (W ((d.1.1.2.2.1.length:Int)-1)) d.1.1.2.2.1.length then some ((d.1.1.2.2.1.getD (W ((d.1.1.2.2.1.length:Int)-1)).toNat 0,()),d)
 else none:=by
  unfold F_evacuate_copying_last
  funext d
  kernel_rfl
theorem zeR:F_evacuate_copying_fits=fun (d:AH)=>(F_evacuate_copying_last d).bind
 fun (r:Aw)=>(F_evacuate_isPage (r.2.1.1.1,r.1)).bind
 fun (r_1:A5)=>
 bif bif r_1.1.1 then inB r.1.1 r.2.1.1.1.2.2.1.length
 else true then some ((bif r_1.1.1 then decide (W ((r.2.1.1.1.2.2.1.getD r.1.1.toNat PG0).2.2.1+r.2.1.2.1)<=r.2.1.1.1.1.1)
 else false,()),r.2)
 else none:=by
  unfold F_evacuate_copying_fits
  funext d
  kernel_rfl
theorem zic:F_page_First=fun (d:(List PgD)×Int×Unit)=>
 bif decide (d.2.1<1) then some ((-1,()),())
 else (F_page_Runs (d.1,())).bind
 fun (r:AC×Unit)=>(rl Ap Ah (fun (x:Ap)=>
 bif decide (x.1.2.1<(r.1.1.length:Int)) then
 bif inB x.1.2.1 r.1.1.length then
 bif decide ((r.1.1.getD x.1.2.1.toNat (0,0,())).2.1 >= d.2.1) then some (Sum.inr (Sum.inl (((r.1.1.getD x.1.2.1.toNat (0,0,())).1,()),(),())))
 else some (Sum.inl ((x.1.1,W (x.1.2.1+1),()),(),()))
 else none
 else some (Sum.inr (Sum.inr ((x.1.1,()),(),())))) ((0,0,()),(),())).bind
 fun (r:Ah)=>Sum.elim (fun (x:Ac)=>some (x.1,())) (fun (y:Ac)=>some ((-1,()),())) r:=by
  unfold F_page_First
  funext d
  kernel_rfl
theorem ziq:F_arena_duplicate=fun (d:A9)=>
 bif decide (0<=(d.1.length:Int)/\(d.1.length:Int)<=(d.1.length:Int)) then
 bif zaA ((d.1.length:Int)).toNat 8 then some ((List.take (List.replicate ((d.1.length:Int)).toNat (0:Int)).length d.1++List.drop d.1.length (List.replicate ((d.1.length:Int)).toNat (0:Int)),()),())
 else none
 else none:=by
  unfold F_arena_duplicate
  funext d
  kernel_rfl
theorem zpL:F_arena_Move=fun (d:List Int×Int×Int×Int×Unit)=>(F_arena_locate (d.1,d.2.1,d.2.2.2)).bind
 fun (r:Ad)=>
 bif r.1.2.1 != 0 then some (([],r.1.2),())
 else (F_arena_locate (d.1,d.2.2)).bind
 fun (r_1:Ad)=>
 bif r_1.1.2.1 != 0 then some (([],r_1.1.2),())
 else (F_arena_duplicate (d.1,())).bind
 fun (r_2:A9×Unit)=>
 bif decide (0<=r.1.1/\r.1.1<=(r_2.1.1.length:Int)/\(r_2.1.1.length:Int)<=(r_2.1.1.length:Int)) then
 bif decide (0<=r_1.1.1/\r_1.1.1<=W (r_1.1.1+d.2.2.2.1)/\W (r_1.1.1+d.2.2.2.1)<=(r_2.1.1.length:Int)) then some ((List.take r.1.1.toNat r_2.1.1++(List.take ((r_2.1.1.length:Int)-r.1.1).toNat (List.take (W (r_1.1.1+d.2.2.2.1)-r_1.1.1).toNat (List.drop r_1.1.1.toNat r_2.1.1))++List.drop (r.1.1.toNat+min (List.take (W (r_1.1.1+d.2.2.2.1)-r_1.1.1).toNat (List.drop r_1.1.1.toNat r_2.1.1)).length ((r_2.1.1.length:Int)-r.1.1).toNat) r_2.1.1),0,()),())
 else none
 else none:=by
  unfold F_arena_Move
  funext d
  kernel_rfl
theorem zjF:F_bits_Pack_S1_c=fun (d:Int×(List Ag)×Unit)=>
 bif inB d.1 d.2.1.length then some (((d.2.1.getD d.1.toNat (0,0,())).1,()),d.2)
 else none:=by
  unfold F_bits_Pack_S1_c
  funext d
  kernel_rfl
theorem zbE:F_evacuate_Forward=fun (d:AX)=>
 bif d.2.1 == 0 then (F_evacuate_owned (d.1,())).bind
 fun (r:AO)=>some ((r.1.1,d.2.1,0,()),())
 else (F_slices_Contains_uint64 (d.1.2.2.2.1,d.2)).bind
 fun (r:A5)=>
 bif r.1.1 then (F_evacuate_owned (d.1,())).bind
 fun (r:AO)=>some ((r.1.1,d.2.1,0,()),())
 else (F_slices_Contains_uint64 (d.1.2.1,d.2)).bind
 fun (r:A5)=>
 bif !r.1.1 then some (((H0,[],[],[],0,(0,0,0,0,0,0,()),()),0,19,()),())
 else (F_evacuate_copied (d.1.1,d.2)).bind
 fun (r:AI)=>
 bif r.1.2.1 then (F_evacuate_owned (d.1,())).bind
 fun (r_1:AO)=>some ((r_1.1.1,r.1.1,0,()),())
 else (F_object_At (d.1.1,d.2)).bind
 fun (r:Av×Unit)=>
 bif r.1.2.1 != 0 then some (((H0,[],[],[],0,(0,0,0,0,0,0,()),()),0,19,()),())
 else (F_evacuate_owned (d.1,())).bind
 fun (r_1:AO)=>(F_header_Size (r.1.1,())).bind
 fun (r:Aa)=>(F_evacuate_see (r_1.1.1,d.2.1,r.1)).bind
 fun (r:AK)=>some r:=by
  unfold F_evacuate_Forward
  funext d
  kernel_rfl
end Go.VI
namespace Go.VI
open Go
theorem zkV:F_r04_ValidConf=fun (d:Ad)=>
 bif bif decide (d.1.1 >= 16) then
 bif decide (d.1.1<=64) then !4 == 0
 else true
 else true then some ((bif decide (d.1.1 >= 16) then
 bif decide (d.1.1<=64) then
 bif d.1.1.tmod 4 == 0 then
 bif decide (d.1.2.1 >= 8) then decide (d.1.2.1<=64)
 else false
 else false
 else false
 else false,()),())
 else none:=by
  unfold F_r04_ValidConf
  funext d
  kernel_rfl
theorem zpD:F_r03_Encode=fun (d:B0)=>(F_r03_Valid d).bind
 fun (r:A5)=>
 bif !r.1.1 then some ((0,1,()),())
 else bif !decide (16<0) then some ((U (U (U (1+U (4*U d.1.1))+U (16*U d.1.2.1))+U (U d.1.2.2.1*2 ^ min (Int.toNat 16) IntKind.u64.bits)),0,()),())
 else none:=by
  unfold F_r03_Encode
  funext d
  kernel_rfl
theorem zts:F_r02_span=fun (d:AY)=>
 bif bif decide (d.2.1<4096) then true
 else decide (d.2.1 > U (4096+U (d.1.length:Int))) then some ((0,false,()),())
 else some ((W (U (d.2.1-4096)),decide (d.2.2.1<=W ((d.1.length:Int)-W (U (d.2.1-4096)))),()),()):=by
  unfold F_r02_span
  funext d
  kernel_rfl
theorem zvO:F_r07_New=fun (d:A2×A7×Unit)=>(F_r04_Proper (d.1,())).bind
 fun (r:A5)=>
 bif !r.1.1 then some ((H0,0,1,()),())
 else (F_r07_Asks (d.1.1,d.2)).bind
 fun (r:A5)=>
 bif !r.1.1 then some ((H0,0,1,()),())
 else (F_r03_Size d.2).bind
 fun (r:Aa)=>(F_r04_Need (d.1.1,r.1)).bind
 fun (r_1:Aa)=>(F_r07_small (d.1,r.1)).bind
 fun (r_2:(HpD×Int×Bool×Unit)×Unit)=>
 bif decide (r_1.1.1 > 0) then (F_r07_large (d.1,r.1.1,r_1.1)).bind
 fun (r:(HpD×Int×Bool×Unit)×Unit)=>
 bif !r.1.2.2.1 then some ((H0,0,3,()),())
 else (F_r05_Init (r.1.1,r.1.2.1,d.2)).bind
 fun (r_3:AM)=>some ((r_3.1.1,r.1.2.1,0,()),())
 else bif !r_2.1.2.2.1 then some ((H0,0,3,()),())
 else (F_r05_Init (r_2.1.1,r_2.1.2.1,d.2)).bind
 fun (r:AM)=>some ((r.1.1,r_2.1.2.1,0,()),()):=by
  unfold F_r07_New
  funext d
  kernel_rfl
theorem zeM:F_made_World_Put=fun (d:AA×A7×Unit)=>(F_r07_New (d.1.1,d.2)).bind
 fun (r:(HpD×Int×Int×Unit)×Unit)=>
 bif bif r.1.2.2.1 == 0 then zaA (0+d.1.2.1.length) 8
 else true then
 bif bif r.1.2.2.1 == 0 then zaA ((d.1.2.1).length + [r.1.2.1].length) 8
 else true then
 bif r.1.2.2.1 == 0 then some (((r.1.1,d.1.2.1++[r.1.2.1],d.1.2.2),()),())
 else some ((d.1,()),())
 else none
 else none:=by
  unfold F_made_World_Put
  funext d
  kernel_rfl
theorem zxB:F_r05_At=fun (d:Ay)=>(F_r04_Proper (d.1,())).bind
 fun (r:A5)=>
 bif !r.1.1 then some (((0,0,0,()),1,()),())
 else (F_r04_Of (d.1.1,d.2)).bind
 fun (r:B0)=>
 bif r.1.2.2.1 != 0 then some (((0,0,0,()),2,()),())
 else bif inB r.1.1 d.1.2.2.1.length then (F_r02_Load (d.1.2.1,d.2)).bind
 fun (r_1:Ad)=>(F_r03_Decode (r_1.1.1,())).bind
 fun (r_2:(A7×Bool×Unit)×Unit)=>
 bif bif (d.1.2.2.1.getD r.1.1.toNat PG0).1 != 1 then
 bif (d.1.2.2.1.getD r.1.1.toNat PG0).1 != 2 then true
 else bif decide (r.1.2.1 >= (d.1.2.2.1.getD r.1.1.toNat PG0).2.2.1) then true
 else !r_2.1.2.1
 else bif decide (r.1.2.1 >= (d.1.2.2.1.getD r.1.1.toNat PG0).2.2.1) then true
 else !r_2.1.2.1 then some (((0,0,0,()),19,()),())
 else (F_r03_Size (r_2.1.1,())).bind
 fun (r_3:Aa)=>
 bif bif (d.1.2.2.1.getD r.1.1.toNat PG0).1 == 1 then
 bif decide (W (r.1.2.1+r_3.1.1) > (d.1.2.2.1.getD r.1.1.toNat PG0).2.2.1) then true
 else bif (d.1.2.2.1.getD r.1.1.toNat PG0).1 == 2 then
 bif r.1.2.1 != 0 then true
 else r_3.1.1 != (d.1.2.2.1.getD r.1.1.toNat PG0).2.2.1
 else false
 else bif (d.1.2.2.1.getD r.1.1.toNat PG0).1 == 2 then
 bif r.1.2.1 != 0 then true
 else r_3.1.1 != (d.1.2.2.1.getD r.1.1.toNat PG0).2.2.1
 else false then some (((0,0,0,()),19,()),())
 else some ((r_2.1.1,0,()),())
 else none:=by
  unfold F_r05_At
  funext d
  kernel_rfl
theorem zrt:F_r02_Store=fun (d:AY)=>(F_r02_Write (d.1,d.2.1,[d.2.2.1],())).bind
 fun (r:AQ)=>some r:=by
  unfold F_r02_Store
  funext d
  kernel_rfl
theorem zte:F_r09_head=fun (d:Ay)=>(rl Ac Ac (fun (x:Ac)=>
 bif inB x.1.1 d.1.2.2.1.length then
 bif (d.1.2.2.1.getD x.1.1.toNat PG0).1 == 3 then some (Sum.inl ((W (x.1.1-1),()),(),()))
 else some (Sum.inr (x.1,(),()))
 else none) (d.2,(),())).bind
 fun (r:Ac)=>some (r.1,()):=by
  unfold F_r09_head
  funext d
  kernel_rfl
theorem ztc:F_r09_used=fun (d:A2×Int×List Int×Unit)=>
 bif decide (0<=d.1.1.1/\d.1.1.1<=d.1.1.1) then
 bif zaA d.1.1.1.toNat 1 then (rl B7 B3 (fun (x:B7)=>
 bif decide (x.1.1<(d.2.2.1.length:Int)) then
 bif inB x.1.1 d.2.2.1.length then (F_r05_At (d.1,d.2.2.1.getD x.1.1.toNat 0,())).bind
 fun (r:Av×Unit)=>(F_r03_Size (r.1.1,())).bind
 fun (r_1:Aa)=>(rl B7 B3 (fun (x_1:B7)=>
 bif decide (x_1.1.1 <
 bif r.1.1.1 == 0 then 1
 else r_1.1.1) then
 bif inB x.1.1 d.2.2.1.length then
 bif bif
 bif decide (W (W (W (W (d.2.2.1.getD x.1.1.toNat 0)-4096)+x_1.1.1)-W (d.2.1*d.1.1.1)) >= 0) then decide (W (W (W (W (d.2.2.1.getD x.1.1.toNat 0)-4096)+x_1.1.1)-W (d.2.1*d.1.1.1))<(x_1.2.2.1.length:Int))
 else false then inB (W (W (W (W (d.2.2.1.getD x.1.1.toNat 0)-4096)+x_1.1.1)-W (d.2.1*d.1.1.1))) x_1.2.2.1.length
 else true then
 bif bif decide (W (W (W (W (d.2.2.1.getD x.1.1.toNat 0)-4096)+x_1.1.1)-W (d.2.1*d.1.1.1)) >= 0) then decide (W (W (W (W (d.2.2.1.getD x.1.1.toNat 0)-4096)+x_1.1.1)-W (d.2.1*d.1.1.1))<(x_1.2.2.1.length:Int))
 else false then some (Sum.inl ((W (x_1.1.1+1),()),(),x_1.2.2.1.set (W (W (W (W (d.2.2.1.getD x.1.1.toNat 0)-4096)+x_1.1.1)-W (d.2.1*d.1.1.1))).toNat true,()))
 else some (Sum.inl ((W (x_1.1.1+1),()),(),x_1.2.2))
 else none
 else none
 else some (Sum.inr ((),(),x_1.2.2))) ((0,()),(),x.2.2)).bind
 fun (r:B3)=>some (Sum.inl ((W (x.1.1+1),()),(),r.2.2))
 else none
 else some (Sum.inr ((),(),x.2.2))) ((0,()),(),List.replicate d.1.1.1.toNat false,())).bind
 fun (r:B3)=>some (r.2.2,())
 else none
 else none:=by
  unfold F_r09_used
  funext d
  kernel_rfl
theorem znE:F_r09_address=fun (d:B2)=>some ((U (W (W (4096+W (d.2.1*d.1.1.1))+d.2.2.1)),()),()):=by
 unfold F_r09_address
 funext d
 kernel_rfl
theorem zvP:F_r06_Has=fun (d:A4)=>(rl Af A8 (fun (x:Af)=>
 bif decide (x.1.2.1<(d.1.length:Int)) then
 bif inB x.1.2.1 d.1.length then
 bif d.1.getD x.1.2.1.toNat 0 == d.2.1 then some (Sum.inr (Sum.inl ((true,()),(),())))
 else some (Sum.inl ((x.1.1,W (x.1.2.1+1),()),(),()))
 else none
 else some (Sum.inr (Sum.inr ((x.1.1,()),(),())))) ((false,0,()),(),())).bind
 fun (r:A8)=>Sum.elim (fun (x:Ai)=>some (x.1,())) (fun (y:Ai)=>some ((false,()),())) r:=by
  unfold F_r06_Has
  funext d
  kernel_rfl
theorem zri:F_r09_Check=fun (d:B1)=>(F_r04_Proper d).bind
 fun (r:A5)=>
 bif !r.1.1 then some (((1,0,0,()),()),())
 else (rl Al A6 (fun (x:Al)=>
 bif decide (x.1.1<(d.1.2.2.1.length:Int)) then (F_r09_page (d.1,x.1)).bind
 fun (r:AB)=>
 bif r.1.1.1 != 0 then some (Sum.inr (Sum.inl ((),(),r.1)))
 else some (Sum.inl ((W (x.1.1+1),()),(),x.2.2))
 else some (Sum.inr (Sum.inr ((),(),x.2.2)))) ((0,()),(),(0,0,0,()),())).bind
 fun (r:A6)=>Sum.elim (fun (x:Aq)=>some (x.2.2,())) (fun (y:Aq)=>(F_r09_pointers d).bind
 fun (r:AB)=>
 bif r.1.1.1 != 0 then some r
 else (rl Ap Ac (fun (x:Ap)=>
 bif decide (x.1.2.1<(d.1.2.2.1.length:Int)) then
 bif inB x.1.2.1 d.1.2.2.1.length then
 bif bif (d.1.2.2.1.getD x.1.2.1.toNat PG0).1 == 1 then inB x.1.2.1 d.1.2.2.1.length
 else true then some (Sum.inl ((bif
 bif (d.1.2.2.1.getD x.1.2.1.toNat PG0).1 == 1 then decide ((d.1.2.2.1.getD x.1.2.1.toNat PG0).2.2.2.1 > 0)
 else false then W (x.1.1+1)
 else x.1.1,W (x.1.2.1+1),()),(),()))
 else none
 else none
 else some (Sum.inr ((x.1.1,()),(),()))) ((0,0,()),(),())).bind
 fun (r:Ac)=>
 bif !4 == 0 then
 bif decide (r.1.1 > W (d.1.1.2.1.tdiv 4)) then some (((7,0,0,()),()),())
 else some (((0,0,0,()),()),())
 else none) r:=by
  unfold F_r09_Check
  funext d
  kernel_rfl
theorem ztg:F_r09_Good=fun (d:B1)=>(F_r09_Check d).bind
 fun (r:AB)=>some (((r.1.1.1,r.1.1.2.1,r.1.1.2.2.1,()).1 == (0,0,0,()).1&&((r.1.1.1,r.1.1.2.1,r.1.1.2.2.1,()).2.1 == (0,0,0,()).2.1&&((r.1.1.1,r.1.1.2.1,r.1.1.2.2.1,()).2.2.1 == (0,0,0,()).2.2.1&&true)),()),()):=by
  unfold F_r09_Good
  funext d
  kernel_rfl
theorem zrf:F_r10_taken=fun (d:AX)=>(rl Af A8 (fun (x:Af)=>
 bif decide (x.1.2.1<(d.1.2.2.1.length:Int)) then
 bif inB x.1.2.1 d.1.2.2.1.length then
 bif d.1.2.2.1.getD x.1.2.1.toNat 0 == d.2.1 then some (Sum.inr (Sum.inl ((true,()),(),())))
 else some (Sum.inl ((x.1.1,W (x.1.2.1+1),()),(),()))
 else none
 else some (Sum.inr (Sum.inr ((x.1.1,()),(),())))) ((false,0,()),(),())).bind
 fun (r:A8)=>Sum.elim (fun (x:Ai)=>some (x.1,())) (fun (y:Ai)=>some ((false,()),())) r:=by
  unfold F_r10_taken
  funext d
  kernel_rfl
theorem zrg:F_r10_place=fun (d:AX)=>
 bif zaA (0+d.1.1.2.2.1.length) 32 then
 bif bif decide ((d.1.2.2.1.length:Int) > 0) then inB (W ((d.1.2.2.1.length:Int)-1)) d.1.2.2.1.length
 else true then
 bif bif decide ((d.1.2.2.1.length:Int) > 0) then inB (d.1.2.2.1.getD (W ((d.1.2.2.1.length:Int)-1)).toNat 0) (d.1.1.2.2.1).length
 else true then
 bif bif
 bif decide ((d.1.2.2.1.length:Int) > 0) then decide (W (((d.1.1.2.2.1).getD (d.1.2.2.1.getD (W ((d.1.2.2.1.length:Int)-1)).toNat 0).toNat PG0).2.2.1+d.2.1)<=d.1.1.1.1)
 else false then inB (W ((d.1.2.2.1.length:Int)-1)) d.1.2.2.1.length
 else true then
 bif bif decide ((d.1.2.2.1.length:Int) > 0) then decide (W (((d.1.1.2.2.1).getD (d.1.2.2.1.getD (W ((d.1.2.2.1.length:Int)-1)).toNat 0).toNat PG0).2.2.1+d.2.1)<=d.1.1.1.1)
 else false then
 bif inB (d.1.2.2.1.getD (W ((d.1.2.2.1.length:Int)-1)).toNat 0) (d.1.1.2.2.1).length then
 bif inB (d.1.2.2.1.getD (W ((d.1.2.2.1.length:Int)-1)).toNat 0) (d.1.1.2.2.1).length then
 bif inB (d.1.2.2.1.getD (W ((d.1.2.2.1.length:Int)-1)).toNat 0) (d.1.1.2.2.1).length then some ((((d.1.1.1,d.1.1.2.1,(d.1.1.2.2.1).set (d.1.2.2.1.getD (W ((d.1.2.2.1.length:Int)-1)).toNat 0).toNat (((d.1.1.2.2.1).getD (d.1.2.2.1.getD (W ((d.1.2.2.1.length:Int)-1)).toNat 0).toNat PG0).1,((d.1.1.2.2.1).getD (d.1.2.2.1.getD (W ((d.1.2.2.1.length:Int)-1)).toNat 0).toNat PG0).2.1,W (((d.1.1.2.2.1).getD (d.1.2.2.1.getD (W ((d.1.2.2.1.length:Int)-1)).toNat 0).toNat PG0).2.2.1+d.2.1),((d.1.1.2.2.1).getD (d.1.2.2.1.getD (W ((d.1.2.2.1.length:Int)-1)).toNat 0).toNat PG0).2.2.2.1,()),d.1.1.2.2.2),d.1.2),U (W (W (4096+W (d.1.2.2.1.getD (W ((d.1.2.2.1.length:Int)-1)).toNat 0*d.1.1.1.1))+((d.1.1.2.2.1).getD (d.1.2.2.1.getD (W ((d.1.2.2.1.length:Int)-1)).toNat 0).toNat PG0).2.2.1)),true,()),())
 else none
 else none
 else none
 else (F_r04_First (d.1.1.2.2.1,1,())).bind
 fun (r:Aa)=>
 bif decide (r.1.1<0) then some (((H0,[],[],[],0,(0,0,0,0,0,0,()),()),0,false,()),())
 else (F_r04_Small_o (d.1.1.2.2.1,r.1.1,W (1-d.1.1.2.2.2.1),())).bind
 fun (r_1:Au×Unit)=>
 bif zaA (0+d.1.2.2.1.length) 8 then
 bif zaA ((d.1.2.2.1).length + [r.1.1].length) 8 then
 bif inB r.1.1 r_1.1.1.length then
 bif inB r.1.1 r_1.1.1.length then
 bif inB r.1.1 r_1.1.1.length then some ((((d.1.1.1,d.1.1.2.1,r_1.1.1.set r.1.1.toNat ((r_1.1.1.getD r.1.1.toNat PG0).1,(r_1.1.1.getD r.1.1.toNat PG0).2.1,W ((r_1.1.1.getD r.1.1.toNat PG0).2.2.1+d.2.1),(r_1.1.1.getD r.1.1.toNat PG0).2.2.2.1,()),d.1.1.2.2.2),d.1.2.1,d.1.2.2.1++[r.1.1],d.1.2.2.2),U (W (W (4096+W (r.1.1*d.1.1.1.1))+(r_1.1.1.getD r.1.1.toNat PG0).2.2.1)),true,()),())
 else none
 else none
 else none
 else none
 else none
 else none
 else none
 else none
 else none:=by
  unfold F_r10_place
  funext d
  kernel_rfl
theorem ztu:F_r02_Move=fun (d:List Int×Int×Int×Int×Unit)=>(F_r02_Read (d.1,d.2.2)).bind
 fun (r:AQ)=>
 bif r.1.2.1 != 0 then some (([],r.1.2),())
 else (F_r02_Write (d.1,d.2.1,r.1.1,())).bind
 fun (r:AQ)=>some r:=by
  unfold F_r02_Move
  funext d
  kernel_rfl
theorem znJ:F_r03_Forward=fun (d:Ao)=>
 bif decide (d.1 >= 4294967296) then some ((0,1,()),())
 else some ((U (U (4*d.1)+2),0,()),()):=by
  unfold F_r03_Forward
  funext d
  kernel_rfl
theorem zrd:F_r12_after=fun (d:AX)=>(F_r06_Has (d.1.2.2.2.1,d.2)).bind
 fun (r:A5)=>
 bif r.1.1 then some (d.2,())
 else (F_r02_Load (d.1.1.2.1,d.2)).bind
 fun (r:Ad)=>(F_r03_Target (r.1.1,())).bind
 fun (r:AI)=>some ((r.1.1,()),()):=by
  unfold F_r12_after
  funext d
  kernel_rfl
theorem zs9:F_r12_fill=fun (d:Ab×Unit)=>(rl (Ao×Unit×A0×Unit) (Unit×Unit×A0×Unit) (fun (x:Ao×Unit×A0×Unit)=>
 bif decide (x.1.1<(x.2.2.1.2.2.2.2.2.2.1.length:Int)) then
 bif inB x.1.1 x.2.2.1.2.2.2.2.2.2.1.length then (F_r04_Of ((x.2.2.1.1,x.2.2.1.2.1,()),x.2.2.1.2.2.2.2.2.2.1.getD x.1.1.toNat 0,())).bind
 fun (r:B0)=>(F_r10_Promoted ((((x.2.2.1.1,x.2.2.1.2.1,()),x.2.2.1.2.2.1,x.2.2.1.2.2.2.1,x.2.2.1.2.2.2.2.1,x.2.2.1.2.2.2.2.2.1,()),x.2.2.1.2.2.2.2.2.2.1,x.2.2.1.2.2.2.2.2.2.2.1,x.2.2.1.2.2.2.2.2.2.2.2.1,x.2.2.1.2.2.2.2.2.2.2.2.2.1,x.2.2.1.2.2.2.2.2.2.2.2.2.2,()),r.1.1,())).bind
 fun (r:A5)=>
 bif bif !r.1.1 then true
 else inB x.1.1 x.2.2.1.2.2.2.2.2.2.1.length then
 bif !r.1.1 then some (Sum.inl ((W (x.1.1+1),()),(),x.2.2))
 else (F_r06_Has (x.2.2.1.2.2.2.2.2.2.2.2.1,x.2.2.1.2.2.2.2.2.2.1.getD x.1.1.toNat 0,())).bind
 fun (r:A5)=>
 bif r.1.1 then some (Sum.inl ((W (x.1.1+1),()),(),x.2.2))
 else bif inB x.1.1 x.2.2.1.2.2.2.2.2.2.1.length then (F_r10_Get ((((x.2.2.1.1,x.2.2.1.2.1,()),x.2.2.1.2.2.1,x.2.2.1.2.2.2.1,x.2.2.1.2.2.2.2.1,x.2.2.1.2.2.2.2.2.1,()),x.2.2.1.2.2.2.2.2.2.1,x.2.2.1.2.2.2.2.2.2.2.1,x.2.2.1.2.2.2.2.2.2.2.2.1,x.2.2.1.2.2.2.2.2.2.2.2.2.1,x.2.2.1.2.2.2.2.2.2.2.2.2.2,()),x.2.2.1.2.2.2.2.2.2.1.getD x.1.1.toNat 0,())).bind
 fun (r:AB)=>(F_r03_Encode ((0,r.1.1.2.1,0,()),())).bind
 fun (r_1:Ad)=>
 bif inB x.1.1 x.2.2.1.2.2.2.2.2.2.1.length then
 bif decide (0<=r.1.1.2.1) then
 bif zaA ([r_1.1.1].length+r.1.1.2.1.toNat) 8 then (F_r02_Write (x.2.2.1.2.2.1,x.2.2.1.2.2.2.2.2.2.1.getD x.1.1.toNat 0,[r_1.1.1]++List.replicate r.1.1.2.1.toNat (0:Int),())).bind
 fun (r:AQ)=>some (Sum.inl ((W (x.1.1+1),()),(),(x.2.2.1.1,x.2.2.1.2.1,r.1.1,x.2.2.1.2.2.2.1,x.2.2.1.2.2.2.2.1,x.2.2.1.2.2.2.2.2.1,x.2.2.1.2.2.2.2.2.2.1,x.2.2.1.2.2.2.2.2.2.2.1,x.2.2.1.2.2.2.2.2.2.2.2.1,x.2.2.1.2.2.2.2.2.2.2.2.2.1,x.2.2.1.2.2.2.2.2.2.2.2.2.2.1,x.2.2.1.2.2.2.2.2.2.2.2.2.2.2.1,W (x.2.2.1.2.2.2.2.2.2.2.2.2.2.2.2.1+1),x.2.2.1.2.2.2.2.2.2.2.2.2.2.2.2.2),()))
 else none
 else none
 else none
 else none
 else none
 else none
 else some (Sum.inr ((),(),x.2.2))) ((0,()),(),(d.1.1.1.1,d.1.1.1.2.1,d.1.1.2.1,d.1.1.2.2.1,d.1.1.2.2.2.1,d.1.1.2.2.2.2.1,d.1.2.1,d.1.2.2.1,d.1.2.2.2.1,d.1.2.2.2.2.1,d.1.2.2.2.2.2.1),())).bind
 fun (r:Unit×Unit×A0×Unit)=>some (((((r.2.2.1.1,r.2.2.1.2.1,()),r.2.2.1.2.2.1,r.2.2.1.2.2.2.1,r.2.2.1.2.2.2.2.1,r.2.2.1.2.2.2.2.2.1,()),r.2.2.1.2.2.2.2.2.2.1,r.2.2.1.2.2.2.2.2.2.2.1,r.2.2.1.2.2.2.2.2.2.2.2.1,r.2.2.1.2.2.2.2.2.2.2.2.2.1,r.2.2.1.2.2.2.2.2.2.2.2.2.2,()),()),()):=by
  unfold F_r12_fill
  funext d
  kernel_rfl
theorem zrw:F_page_Need=fun (d:Ag×Int×Unit)=>(F_page_ValidConf (d.1,())).bind
 fun (r:A5)=>
 bif !r.1.1 then some ((-1,()),())
 else (F_page_within (d.2.1,1,W (4*d.1.1),())).bind
 fun (r:A5)=>
 bif !r.1.1 then some ((-1,()),())
 else (F_page_SmallWords (d.1,())).bind
 fun (r:Aa)=>
 bif decide (d.2.1<=r.1.1) then some ((0,()),())
 else bif !d.1.1 == 0 then some ((W ((W (W (d.2.1+d.1.1)-1)).tdiv d.1.1),()),())
 else none:=by
  unfold F_page_Need
  funext d
  kernel_rfl
theorem zhq:F_page_table_owned=fun (d:AR)=>(rl Af A8 (fun (x:Af)=>
 bif decide (x.1.2.1<=d.2.1) then
 bif inB (W (d.2.1-x.1.2.1)) d.1.2.1.length then
 bif (d.1.2.1.getD (W (d.2.1-x.1.2.1)).toNat PG0).1 == 2 then (F_page_Need (d.1.1,(d.1.2.1.getD (W (d.2.1-x.1.2.1)).toNat PG0).2.2.1,())).bind
 fun (r:Aa)=>some (Sum.inr (Sum.inl ((decide (x.1.2.1<r.1.1),()),(),())))
 else some (Sum.inl ((x.1.1,W (x.1.2.1+1),()),(),()))
 else none
 else some (Sum.inr (Sum.inr ((x.1.1,()),(),())))) ((false,1,()),(),())).bind
 fun (r:A8)=>Sum.elim (fun (x:Ai)=>some (x.1,())) (fun (y:Ai)=>some ((false,()),())) r:=by
  unfold F_page_table_owned
  funext d
  kernel_rfl
theorem zgV:F_page_table_proper=fun (d:(Ag×(List PgD)×Unit)×Unit)=>(rl Af A8 (fun (x:Af)=>
 bif decide (x.1.2.1<(d.1.2.1.length:Int)) then
 bif inB x.1.2.1 d.1.2.1.length then (F_page_within ((d.1.2.1.getD x.1.2.1.toNat PG0).1,0,3,())).bind
 fun (r:A5)=>
 bif !r.1.1 then some (Sum.inr (Sum.inl ((false,()),(),())))
 else bif decide ((d.1.2.1.getD x.1.2.1.toNat PG0).1=(0:Int)) then (F_page_table_free (d.1,x.1.2)).bind
 fun (r:A5)=>
 bif !r.1.1 then some (Sum.inr (Sum.inl ((false,()),(),())))
 else some (Sum.inl ((x.1.1,W (x.1.2.1+1),()),(),()))
 else bif decide ((d.1.2.1.getD x.1.2.1.toNat PG0).1=(1:Int)) then (F_page_table_small (d.1,x.1.2)).bind
 fun (r:A5)=>
 bif !r.1.1 then some (Sum.inr (Sum.inl ((false,()),(),())))
 else some (Sum.inl ((x.1.1,W (x.1.2.1+1),()),(),()))
 else bif decide ((d.1.2.1.getD x.1.2.1.toNat PG0).1=(2:Int)) then (F_page_table_large (d.1,x.1.2)).bind
 fun (r:A5)=>
 bif !r.1.1 then some (Sum.inr (Sum.inl ((false,()),(),())))
 else some (Sum.inl ((x.1.1,W (x.1.2.1+1),()),(),()))
 else bif decide ((d.1.2.1.getD x.1.2.1.toNat PG0).1=(3:Int)) then (F_page_table_tail (d.1,x.1.2)).bind
 fun (r:A5)=>
 bif !r.1.1 then some (Sum.inr (Sum.inl ((false,()),(),())))
 else some (Sum.inl ((x.1.1,W (x.1.2.1+1),()),(),()))
 else bif false then none
 else none
 else none
 else some (Sum.inr (Sum.inr ((x.1.1,()),(),())))) ((false,0,()),(),())).bind
 fun (r:A8)=>Sum.elim (fun (x:Ai)=>some (x.1,())) (fun (y:Ai)=>some ((true,()),())) r:=by
  unfold F_page_table_proper
  funext d
  kernel_rfl
theorem zbP:F_walk_list_c_walk_inPage_S1_walk_isAny=fun (d:Ay)=>((listP d).bind
 fun (L:List (Int×Av×Unit))=>fg Am Am (Int×Av×Unit) (fun (y:Int×Av×Unit) (x:Am)=>
 bif y.2.1.2.1 != 0 then some (Sum.inr ((),x.2.1,([],()),y.2.1.2,((),()),()))
 else (F_walk_isAny (y.2.1.1,())).bind
 fun (r:A5)=>
 bif bif r.1.1 then zaA (x.2.1.1.length + [y.1].length) 8
 else true then
 bif r.1.1 then some (Sum.inl ((),(x.2.1.1++[y.1],()),x.2.2.1,x.2.2.2.1,((),()),()))
 else some (Sum.inl ((),x.2.1,x.2.2.1,x.2.2.2.1,((),()),()))
 else none) L ((),([],()),([],()),(0,()),((),()),())).bind
 fun (r:Unit×A9×A9×Ao×AU×Unit⊕Unit×A9×A9×Ao×AU×Unit)=>Sum.elim (fun (x:Am)=>some ((x.2.1.1,0,()),d)) (fun (y:Am)=>some ((y.2.2.1.1,y.2.2.2.1),d)) r:=by
  unfold F_walk_list_c_walk_inPage_S1_walk_isAny
  funext d
  kernel_rfl
theorem zrc:F_walk_Page=fun (d:Ay)=>(F_page_Proper (d.1,())).bind
 fun (r:A5)=>
 bif !r.1.1 then some (([],1,()),())
 else bif
 bif decide (d.2.1<0) then true
 else decide (d.2.1 >= (d.1.2.2.1.length:Int)) then some (([],2,()),())
 else (F_walk_inPage d).bind
 fun (r:AM×Unit)=>(F_walk_list_c_walk_inPage_S1_walk_isAny r.1.1).bind
 fun (r:A4×HpD×Int×Unit)=>some (r.1,()):=by
  unfold F_walk_Page
  funext d
  kernel_rfl
theorem znN:F_object_fits=fun (d:PgD×Int×Int×Unit)=>
 bif d.1.1 == 1 then some ((decide (W (d.2.1+d.2.2.1)<=d.1.2.2.1),()),())
 else bif d.1.1 == 2 then some ((bif d.2.1 == 0 then d.2.2.1 == d.1.2.2.1
 else false,()),())
 else some ((false,()),()):=by
  unfold F_object_fits
  funext d
  kernel_rfl
theorem zge:F_audit_checkClasses=fun (d:A2×Int×(List AD)×Unit)=>(rl Al A6 (fun (x:Al)=>
 bif decide (x.1.1<(d.2.2.1.length:Int)) then
 bif inB x.1.1 d.2.2.1.length then
 bif inB d.2.1 d.1.2.2.1.length then (F_audit_belongs (d.1.1,(d.1.2.2.1.getD d.2.1.toNat PG0).1,(d.2.2.1.getD x.1.1.toNat (0,(0,0,0,()),())).2)).bind
 fun (r:A5)=>
 bif !r.1.1 then some (Sum.inr (Sum.inl ((),(),(5,d.2.1,(d.2.2.1.getD x.1.1.toNat (0,(0,0,0,()),())).1,()),())))
 else some (Sum.inl ((W (x.1.1+1),()),(),x.2.2))
 else none
 else none
 else some (Sum.inr (Sum.inr ((),(),x.2.2)))) ((0,()),(),(0,0,0,()),())).bind
 fun (r:A6)=>Sum.elim (fun (x:Aq)=>some (x.2.2,())) (fun (y:Aq)=>some (((0,0,0,()),()),())) r:=by
  unfold F_audit_checkClasses
  funext d
  kernel_rfl
theorem zim:F_audit_part_uses=fun (d:AD×Int×Unit)=>some ((bif decide (d.2.1 >= d.1.1) then decide (U (d.2.1-d.1.1)<=U (bif d.1.2.1.1 != 0 then d.1.2.1.2.1
 else 0))
 else false,()),()):=by
  unfold F_audit_part_uses
  funext d
  kernel_rfl
theorem znC:F_walk_inHeap=fun (d:B1)=>some ((d,()),()):=by
 unfold F_walk_inHeap
 funext d
 kernel_rfl
theorem zkU:F_walk_isObject=fun (d:B0)=>some ((d.1.1 != 0,()),()):=by
 unfold F_walk_isObject
 funext d
 kernel_rfl
theorem zjB:F_header_Pointer=fun (d:Av)=>(F_header_Valid (d.1,())).bind
 fun (r:A5)=>
 bif bif !r.1.1 then true
 else bif decide (d.2.1<0) then true
 else decide (d.2.1 >= d.1.2.1) then some ((false,()),())
 else bif
 bif d.1.1 == 2 then true
 else bif d.1.1 == 1 then !decide (d.2.1<0)
 else true then some ((bif d.1.1 == 2 then true
 else bif d.1.1 == 1 then zcN IntKind.u32 (fun (x1 x2:BitVec IntKind.u32.bits)=>x1 &&& x2) (d.1.2.2.1.fdiv (2 ^ min d.2.1.toNat IntKind.u32.bits)) 1 == 1
 else false,()),())
 else none:=by
  unfold F_header_Pointer
  funext d
  kernel_rfl
theorem zii:F_header_Pointers=fun (d:B0)=>(F_header_Valid d).bind
 fun (r:A5)=>
 bif !r.1.1 then some (([],()),())
 else (rl (AN×A9×Unit) (AU×A9×Unit) (fun (x:AN×A9×Unit)=>
 bif decide (x.1.2.1<d.1.2.1) then (F_header_Pointer (d.1,x.1.2)).bind
 fun (r:A5)=>
 bif bif r.1.1 then zaA (x.2.1.1.length + [x.1.2.1].length) 8
 else true then
 bif r.1.1 then some (Sum.inl (((),W (x.1.2.1+1),()),(x.2.1.1++[x.1.2.1],()),()))
 else some (Sum.inl (((),W (x.1.2.1+1),()),x.2))
 else none
 else some (Sum.inr (((),()),x.2))) (((),0,()),([],()),())).bind
 fun (r:AU×A9×Unit)=>some r.2:=by
  unfold F_header_Pointers
  funext d
  kernel_rfl
theorem zht:F_cmp_isNaN_uint64=fun (d:Ao)=>some ((d.1 != d.1,()),()):=by
 unfold F_cmp_isNaN_uint64
 funext d
 kernel_rfl
theorem zgZ:F_audit_isReference=fun (d:A4)=>(F_slices_BinarySearch_uint64 d).bind
 fun (r:AI)=>some ((bif r.1.2.1 then true
 else d.2.1 == 0,()),()):=by
  unfold F_audit_isReference
  funext d
  kernel_rfl
theorem zfP:F_audit_checkPointers=fun (d:B1)=>(F_walk_Objects d).bind
 fun (r:AQ)=>(rl Al A6 (fun (x:Al)=>
 bif decide (x.1.1<(r.1.1.length:Int)) then
 bif inB x.1.1 r.1.1.length then (F_object_Get (d.1,r.1.1.getD x.1.1.toNat 0,())).bind
 fun (r_1:Av×Unit)=>(F_header_Pointers (r_1.1.1,())).bind
 fun (r_2:A9×Unit)=>(rl Al A6 (fun (x_1:Al)=>
 bif decide (x_1.1.1<(r_2.1.1.length:Int)) then
 bif inB x_1.1.1 r_2.1.1.length then (F_audit_word (d.1,U (U (r.1.1.getD x.1.1.toNat 0+1)+U (r_2.1.1.getD x_1.1.1.toNat 0)),())).bind
 fun (r_3:Aa)=>(F_audit_isReference (r.1.1,r_3.1)).bind
 fun (r_4:A5)=>
 bif !r_4.1.1 then (F_audit_findingAt (d.1,6,U (U (r.1.1.getD x.1.1.toNat 0+1)+U (r_2.1.1.getD x_1.1.1.toNat 0)),())).bind
 fun (r:AB)=>some (Sum.inr (Sum.inl ((),(),r.1)))
 else some (Sum.inl ((W (x_1.1.1+1),()),(),x_1.2.2))
 else none
 else some (Sum.inr (Sum.inr ((),(),x_1.2.2)))) ((0,()),(),x.2.2)).bind
 fun (r:A6)=>Sum.elim (fun (x:Aq)=>some (Sum.inr (Sum.inl ((),(),x.2.2)))) (fun (y:Aq)=>some (Sum.inl ((W (x.1.1+1),()),(),y.2.2))) r
 else none
 else some (Sum.inr (Sum.inr ((),(),x.2.2)))) ((0,()),(),(0,0,0,()),())).bind
 fun (r:A6)=>Sum.elim (fun (x:Aq)=>some (x.2.2,())) (fun (y:Aq)=>some (((0,0,0,()),()),())) r:=by
  unfold F_audit_checkPointers
  funext d
  kernel_rfl
theorem zdS:F_audit_checkCrowd=fun (d:B1)=>(rl Ap Ac (fun (x:Ap)=>
 bif decide (x.1.2.1<(d.1.2.2.1.length:Int)) then
 bif inB x.1.2.1 d.1.2.2.1.length then some (Sum.inl ((bif
 bif (d.1.2.2.1.getD x.1.2.1.toNat PG0).1 == 1 then decide ((d.1.2.2.1.getD x.1.2.1.toNat PG0).2.2.2.1 > 0)
 else false then W (x.1.1+1)
 else x.1.1,W (x.1.2.1+1),()),(),()))
 else none
 else some (Sum.inr ((x.1.1,()),(),()))) ((0,0,()),(),())).bind
 fun (r:Ac)=>
 bif !4 == 0 then
 bif decide (r.1.1 > W (d.1.1.2.1.tdiv 4)) then some (((7,0,0,()),()),())
 else some (((0,0,0,()),()),())
 else none:=by
  unfold F_audit_checkCrowd
  funext d
  kernel_rfl
theorem zml:F_r01_Same=fun (d:List Int×List Int×Unit)=>
 bif (d.1.length:Int) != (d.2.1.length:Int) then some ((false,()),())
 else (rl Af A8 (fun (x:Af)=>
 bif decide (x.1.2.1<(d.1.length:Int)) then
 bif inB x.1.2.1 d.1.length then
 bif inB x.1.2.1 d.2.1.length then
 bif d.1.getD x.1.2.1.toNat 0 != d.2.1.getD x.1.2.1.toNat 0 then some (Sum.inr (Sum.inl ((false,()),(),())))
 else some (Sum.inl ((x.1.1,W (x.1.2.1+1),()),(),()))
 else none
 else none
 else some (Sum.inr (Sum.inr ((x.1.1,()),(),())))) ((false,0,()),(),())).bind
 fun (r:A8)=>Sum.elim (fun (x:Ai)=>some (x.1,())) (fun (y:Ai)=>some ((true,()),())) r:=by
  unfold F_r01_Same
  funext d
  kernel_rfl
theorem zij:F_evacuate_isPage=fun (d:Ay)=>some ((bif decide (d.2.1 >= 0) then decide (d.2.1<(d.1.2.2.1.length:Int))
 else false,()),()):=by
  unfold F_evacuate_isPage
  funext d
  kernel_rfl
theorem zgY:F_evacuate_Promoted=fun (d:AX)=>(F_evacuate_isPage (d.1.1,d.2)).bind
 fun (r:A5)=>
 bif !r.1.1 then some ((false,()),())
 else (F_slices_Contains_int (d.1.2.2.1,d.2)).bind
 fun (r:A5)=>
 bif r.1.1 then some ((false,()),())
 else bif inB d.2.1 d.1.1.2.2.1.length then
 bif (d.1.1.2.2.1.getD d.2.1.toNat PG0).1 == 1 then (F_evacuate_newSpace (d.1.1,())).bind
 fun (r:Aa)=>some (((d.1.1.2.2.1.getD d.2.1.toNat PG0).2.1 == r.1.1,()),())
 else some ((false,()),())
 else none:=by
  unfold F_evacuate_Promoted
  funext d
  kernel_rfl
theorem zel:F_slices_Contains_uint64=fun (d:A4)=>(F_slices_Index_uint64 d).bind
 fun (r:Aa)=>some ((decide (r.1.1 >= 0),()),()):=by
  unfold F_slices_Contains_uint64
  funext d
  kernel_rfl
theorem zk0:F_evacuate_keep=fun (d:AX)=>
 bif zaA (d.1.2.2.2.1.length + [d.2.1].length) 8 then some (((d.1.1,d.1.2.1,d.1.2.2.1,d.1.2.2.2.1++[d.2.1],d.1.2.2.2.2.1,(d.1.2.2.2.2.2.1.1,W (d.1.2.2.2.2.2.1.2.1+1),d.1.2.2.2.2.2.1.2.2),()),()),())
 else none:=by
  unfold F_evacuate_keep
  funext d
  kernel_rfl
theorem zkq:F_page_take=fun (d:(List PgD)×Int×Int×PgD×Unit)=>(F_page_within (d.2.1,0,W ((d.1.length:Int)-d.2.2.1),())).bind
 fun (r:A5)=>
 bif !r.1.1 then some (([],2,()),())
 else bif decide (0<=d.2.1/\d.2.1<=W (d.2.1+d.2.2.1)/\W (d.2.1+d.2.2.1)<=(d.1.length:Int)) then (F_page_InUse (List.drop d.2.1.toNat (List.take (W (d.2.1+d.2.2.1)).toNat d.1),())).bind
 fun (r:Aa)=>
 bif decide (r.1.1 > 0) then some (([],20,()),())
 else (F_slices_Clone_api_Page (d.1,())).bind
 fun (r:(List PgD×Unit)×Unit)=>
 bif inB d.2.1 r.1.1.length then (rl Ax Ar (fun (x:Ax)=>
 bif decide (x.1.1<W (d.2.1+d.2.2.1)) then
 bif inB x.1.1 x.2.2.1.length then some (Sum.inl ((W (x.1.1+1),()),(),x.2.2.1.set x.1.1.toNat (3,d.2.2.2.1.2.1,0,0,()),()))
 else none
 else some (Sum.inr ((),(),x.2.2))) ((W (d.2.1+1),()),(),r.1.1.set d.2.1.toNat (d.2.2.2.1.1,d.2.2.2.1.2.1,d.2.2.2.1.2.2.1,d.2.2.2.1.2.2.2.1,()),())).bind
 fun (r:Ar)=>some ((r.2.2.1,0,()),())
 else none
 else none:=by
  unfold F_page_take
  funext d
  kernel_rfl
theorem zeO:F_evacuate_copying_take=fun (d:AH)=>(F_page_First (d.1.1.1.2.2.1,1,())).bind
 fun (r:Aa)=>(F_evacuate_newSpace (d.1.1.1,())).bind
 fun (r_1:Aa)=>(F_page_Small (d.1.1.1.2.2.1,r.1.1,r_1.1)).bind
 fun (r_2:Au×Unit)=>
 bif r_2.1.2.1 != 0 then some ((3,()),d)
 else bif zaA (d.1.1.2.2.1.length + [r.1.1].length) 8 then some ((0,()),(((d.1.1.1.1,d.1.1.1.2.1,r_2.1.1,d.1.1.1.2.2.2),d.1.1.2.1,d.1.1.2.2.1++[r.1.1],d.1.1.2.2.2),d.1.2),())
 else none:=by
  unfold F_evacuate_copying_take
  funext d
  kernel_rfl
theorem zrz:F_bits_Pack=fun (d:(List Ag)×Unit)=>(F_bits_fit_c_bits_Pack_S1 ((d.1.length:Int),d)).bind
 fun (r:AS×List Ag×Unit)=>
 bif !r.1.1 then some ((0,1,()),())
 else (rl (PgD×Unit×Unit) (Ag×Unit×Unit⊕A7×Unit×Unit) (fun (x:PgD×Unit×Unit)=>
 bif decide (x.1.2.2.2.1<(r.2.1.length:Int)) then
 bif inB (W (W ((r.2.1.length:Int)-1)-x.1.2.2.2.1)) r.2.1.length then (F_bits_Ones ((r.2.1.getD (W (W ((r.2.1.length:Int)-1)-x.1.2.2.2.1)).toNat (0,0,())).1,())).bind
 fun (r_1:Aa)=>
 bif decide ((r.2.1.getD (W (W ((r.2.1.length:Int)-1)-x.1.2.2.2.1)).toNat (0,0,())).2.1 > r_1.1.1) then some (Sum.inr (Sum.inl ((0,2,()),(),())))
 else bif !decide ((r.2.1.getD (W (W ((r.2.1.length:Int)-1)-x.1.2.2.2.1)).toNat (0,0,())).1<0) then some (Sum.inl ((x.1.1,x.1.2.1,zcN IntKind.u64 (fun (x1 x2:BitVec IntKind.u64.bits)=>x1 ||| x2) (U (x.1.2.2.1*2 ^ min (r.2.1.getD (W (W ((r.2.1.length:Int)-1)-x.1.2.2.2.1)).toNat (0,0,())).1.toNat IntKind.u64.bits)) (r.2.1.getD (W (W ((r.2.1.length:Int)-1)-x.1.2.2.2.1)).toNat (0,0,())).2.1,W (x.1.2.2.2.1+1),()),(),()))
 else none
 else none
 else some (Sum.inr (Sum.inr ((x.1.1,x.1.2.1,x.1.2.2.1,()),(),())))) (PG0,(),())).bind
 fun (r:Ag×Unit×Unit⊕A7×Unit×Unit)=>Sum.elim (fun (x:Ap)=>some (x.1,())) (fun (y:A7×Unit×Unit)=>some ((y.1.2.2.1,0,()),())) r:=by
  unfold F_bits_Pack
  funext d
  kernel_rfl
theorem znR:F_arena_Write=fun (d:List Int×Int×List Int×Unit)=>(F_arena_locate (d.1,d.2.1,(d.2.2.1.length:Int),())).bind
 fun (r:Ad)=>
 bif r.1.2.1 != 0 then some (([],r.1.2),())
 else (F_arena_duplicate (d.1,())).bind
 fun (r_1:A9×Unit)=>
 bif decide (0<=r.1.1/\r.1.1<=(r_1.1.1.length:Int)/\(r_1.1.1.length:Int)<=(r_1.1.1.length:Int)) then some ((List.take r.1.1.toNat r_1.1.1++(List.take ((r_1.1.1.length:Int)-r.1.1).toNat d.2.2.1++List.drop (r.1.1.toNat+min d.2.2.1.length ((r_1.1.1.length:Int)-r.1.1).toNat) r_1.1.1),0,()),())
 else none:=by
  unfold F_arena_Write
  funext d
  kernel_rfl
theorem zmq:F_evacuate_see=fun (d:Ab×Int×Int×Unit)=>(F_page_Of (d.1.1.1,d.2.1,())).bind
 fun (r:B0)=>(F_evacuate_Promoted (d.1,r.1.1,())).bind
 fun (r_1:A5)=>
 bif r_1.1.1 then (F_evacuate_keep (d.1,d.2.1,())).bind
 fun (r:AO)=>some ((r.1.1,d.2.1,0,()),())
 else bif inB r.1.1 d.1.1.2.2.1.length then
 bif (d.1.1.2.2.1.getD r.1.1.toNat PG0).1 == 2 then (F_evacuate_setSpace (d.1.1,r.1.1,())).bind
 fun (r:Unit×HpD×Unit)=>(F_evacuate_keep (((d.1.1.1,r.2.1.2.1,r.2.1.2.2.1,d.1.1.2.2.2),d.1.2),d.2.1,())).bind
 fun (r:AO)=>some ((r.1.1,d.2.1,0,()),())
 else (F_evacuate_copying_do ((d.1,d.2.2.1,d.2.1,0,()),())).bind
 fun (r:Aw)=>
 bif r.1.1 != 0 then some (((H0,[],[],[],0,(0,0,0,0,0,0,()),()),0,r.1),())
 else some ((r.2.1.1,r.2.1.2.2.2.1,0,()),())
 else none:=by
  unfold F_evacuate_see
  funext d
  kernel_rfl
theorem zry:F_l10_awake=fun (d:Unit)=>(F_made_Make ([],())).bind
 fun (r:Aj×Unit)=>(F_made_World_Put ((r.1.1.1,[],[],()),(3,1,0,()),())).bind
 fun (r:Aj×Unit)=>(F_evacuate_Begin (r.1.1.1,())).bind
 fun (r_1:B4)=>
 bif bif r_1.1.2.1 != 0 then true
 else (r.1.1.2.1.length:Int) != 1 then some ((false,()),())
 else bif inB 0 r.1.1.2.1.length then (F_evacuate_Forward (r_1.1.1,r.1.1.2.1.getD (Int.toNat 0) 0,())).bind
 fun (r_2:AK)=>
 bif inB 0 r.1.1.2.1.length then (F_evacuate_Forward (r_2.1.1,r.1.1.2.1.getD (Int.toNat 0) 0,())).bind
 fun (r:AK)=>some ((bif r_2.1.2.2.1 == 0 then
 bif r.1.2.2.1 == 0 then
 bif r_2.1.2.1 == r.1.2.1 then
 bif r_2.1.2.1 != 0 then r.1.1.2.2.2.2.2.1.1 == 1
 else false
 else false
 else false
 else false,()),())
 else none
 else none:=by
  unfold F_l10_awake
  funext d
  kernel_rfl
end Go.VI
