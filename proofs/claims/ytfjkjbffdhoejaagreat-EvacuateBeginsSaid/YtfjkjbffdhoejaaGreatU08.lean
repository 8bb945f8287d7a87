import Derived.Test.YtfjkjbffdhoejaaGreatU01
import Derived.Test.YtfjkjbffdhoejaaGreatU03
import Derived.Test.YtfjkjbffdhoejaaGreatU07
import Derived.Laws.Bits64
set_option linter.unusedSimpArgs false
set_option linter.unusedVariables false
set_option maxRecDepth 100000
set_option maxHeartbeats 4000000
noncomputable section
namespace Go.VI
abbrev rl(X Y:Type)(f:X->Option (X⊕Y))(x:X):Option Y:=runLoop f x
abbrev fg(X Y V:Type)(f:V->X->Option (X⊕Y))(L:List V)(x:X):Option (X⊕Y):=ziw f L x
end Go.VI
namespace Go.VI
open Go
abbrev W(n:Int):Int:=IntKind.i64.wrap n
abbrev U(n:Int):Int:=IntKind.u64.wrap n
abbrev U32(n:Int):Int:=IntKind.u32.wrap n
abbrev CfD:=Int×Int×Unit
abbrev PgD:=Int×Int×Int×Int×Unit
abbrev HpD:=CfD×List Int×List PgD×Int×Int×Unit
abbrev PG0:PgD:=(0,0,0,0,())
abbrev H0:HpD:=((0,0,()),[],[],0,0,())
def Tot{α:Type}(Q:α->Prop)(o:Option α):Prop:=∃ r,o=some r/\Q r
theorem Tot.mono{α:Type}{P Q:α->Prop}{o:Option α}(h:Tot P o)(f:∀ r,P r->Q r):Tot Q o:=h.imp fun _ k=>⟨k.1,f _ k.2⟩
theorem zad{α β:Type}{P:α->Prop}{Q:β->Prop}{o:Option α}{f:α->Option β}(h:Tot P o)(k:∀ r,P r->Tot Q (f r)):Tot Q (o.bind f):=by
 obtain ⟨r,rfl,hr⟩:=h;exact k r hr
theorem zac{α:Type}{Q:α->Prop}{c:Bool}{a b:Option α}(h:c=true->Tot Q a)(k:c=false->Tot Q b):Tot Q (cond c a b):=by
 cases c
 . exact k rfl
 . exact h rfl
theorem zae{α:Type}{Q:α->Prop}{c:Bool}{a:Option α}(h:c=true)(k:Tot Q a):Tot Q (cond c a none):=by
 subst h;exact k
theorem zab{α:Type}{Q:α->Prop}{r:α}(h:Q r):Tot Q (some r):=⟨r,rfl,h⟩
theorem zaQ{α β γ:Type}{Q:γ->Prop}{y:α⊕β}{l:α->Option γ}{r:β->Option γ}(h:∀ a,y = .inl a->Tot Q (l a))(k:∀ b,y = .inr b->Tot Q (r b)):Tot Q (Sum.elim l r y):=by
 cases y
 . exact h _ rfl
 . exact k _ rfl
theorem zai{X Y:Type}{f:X->Option (X⊕Y)}{x:X}(Inv:X->Prop)(μ:X->Nat){Q:Y->Prop}(h0:Inv x)(h:∀ x,Inv x->Tot (Sum.elim (fun x'=>Inv x'/\μ x'<μ x) Q) (f x)):Tot Q (runLoop f x):=by
 have key:∀ (n:Nat) (x:X),μ x<=n->Inv x->∃ k y,iter f k x=some y/\Q y:=by
  intro n;induction n with
  | zero=>
   intro x hx hi;obtain ⟨r,hr,hq⟩:=h x hi;cases r with
   | inl x'=>have:=hq.2;omega
   | inr y=>exact ⟨1,y,by simp [iter,hr],hq⟩
  | succ n ih=>
   intro x hx hi;obtain ⟨r,hr,hq⟩:=h x hi;cases r with
   | inl x'=>
    obtain ⟨k,y,h1,h2⟩:=ih x' (by have:=hq.2;omega) hq.1
    exact ⟨k+1,y,by simp [iter,hr,h1],h2⟩
   | inr y=>exact ⟨1,y,by simp [iter,hr],hq⟩
 obtain ⟨k,y,h1,h2⟩:=key (μ x) x (qan _) h0;exact ⟨y,zog h1,h2⟩
theorem W_id{n:Int}(h : -9223372036854775808<=n/\n<9223372036854775808):W n=n:=by rw [W,IntKind.wrap_i64];omega
theorem zyc(n:Int):0<=U n/\U n<18446744073709551616:=by rw [U,IntKind.wrap_u64];omega
theorem U_id{n:Int}(h:0<=n/\n<18446744073709551616):U n=n:=by rw [U,IntKind.wrap_u64];omega
theorem zaf{i:Int}{n:Nat}:inB i n=true↔0<=i/\i<n:=by simp [inB]
theorem zak{n b:Nat}:zaA n b=true↔n*b<=140737488355328:=by simp [zaA]
end Go.VI
namespace Go.VI
open Go
theorem zeJ:F_made_Tape_Conf=fun (d:AN)=>(F_made_Tape_Next (d.1,4,())).bind
 fun (r:Ag)=>
 bif inB r.1.1 [16,16,20,32].length then (F_made_Tape_Next (r.2.1,5,())).bind
 fun (r_1:Ag)=>
 bif inB r_1.1.1 [8,12,16,20,24].length then some ((([16,16,20,32].getD r.1.1.toNat 0,[8,12,16,20,24].getD r_1.1.1.toNat 0,()),()),r_1.2)
 else none
 else none:=by
  unfold F_made_Tape_Conf
  funext d
  kernel_rfl
theorem zjA:F_made_Tape_Done=fun (d:AN)=>some ((decide (d.1.2.1 >= (d.1.1.length:Int)),()),d):=by
 unfold F_made_Tape_Done
 funext d
 kernel_rfl
theorem zjx:F_r04_SmallWords=fun (d:Ae)=>(F_r04_ValidConf d).bind
 fun (r:A5)=>
 bif !r.1.1 then some ((0,()),())
 else bif !4 == 0 then some ((W (d.1.1.tdiv 4),()),())
 else none:=by
  unfold F_r04_SmallWords
  funext d
  kernel_rfl
theorem zhl:F_made_Tape_Header=fun (d:A4×Ah×Unit)=>(F_r04_SmallWords d.2).bind
 fun (r:Aa)=>(F_made_Tape_Next (d.1,r.1)).bind
 fun (r_1:Ag)=>(F_made_Tape_Next (r_1.2.1,12,())).bind
 fun (r_2:Ag)=>
 bif r_2.1.1 == 0 then (F_made_Tape_Next (r_2.2.1,d.2.1.1,())).bind
 fun (r_3:Ag)=>(F_made_Tape_Next (r_3.2.1,4,())).bind
 fun (r_4:Ag)=>
 bif r_4.1.1 == 0 then some (((2,W (r.1.1+r_3.1.1),0,()),()),r_4.2)
 else bif r_4.1.1 == 1 then some (((3,W (r.1.1+r_3.1.1),0,()),()),r_4.2)
 else bif !decide (U (if 12<if 32<W (r.1.1+r_3.1.1) then 32
 else W (r.1.1+r_3.1.1) then 12
 else if 32<W (r.1.1+r_3.1.1) then 32
 else W (r.1.1+r_3.1.1))<0) then (F_made_Tape_Next (r_4.2.1,W (1*2 ^ min (U (if 12<if 32<W (r.1.1+r_3.1.1) then 32
 else W (r.1.1+r_3.1.1) then 12
 else if 32<W (r.1.1+r_3.1.1) then 32
 else W (r.1.1+r_3.1.1))).toNat IntKind.i64.bits),())).bind
 fun (r_5:Ag)=>some (((1,if 32<W (r.1.1+r_3.1.1) then 32
 else W (r.1.1+r_3.1.1),U32 r_5.1.1,()),()),r_5.2)
 else none
 else (F_made_Tape_Next (r_2.2.1,4,())).bind
 fun (r:Ag)=>
 bif r.1.1 == 0 then some (((2,r_1.1.1,0,()),()),r.2)
 else bif r.1.1 == 1 then some (((3,r_1.1.1,0,()),()),r.2)
 else bif !decide (U (if 12<if 32<r_1.1.1 then 32
 else r_1.1.1 then 12
 else if 32<r_1.1.1 then 32
 else r_1.1.1)<0) then (F_made_Tape_Next (r.2.1,W (1*2 ^ min (U (if 12<if 32<r_1.1.1 then 32
 else r_1.1.1 then 12
 else if 32<r_1.1.1 then 32
 else r_1.1.1)).toNat IntKind.i64.bits),())).bind
 fun (r:Ag)=>some (((1,if 32<r_1.1.1 then 32
 else r_1.1.1,U32 r.1.1,()),()),r.2)
 else none:=by
  unfold F_made_Tape_Header
  funext d
  kernel_rfl
theorem zti:F_r04_pins=fun (d:Aw)=>some ((bif decide (d.1 >= 0) then decide (d.1<=2147483647)
 else false,()),()):=by
  unfold F_r04_pins
  funext d
  kernel_rfl
theorem ztl:F_r04_Need=fun (d:Ah×Int×Unit)=>(F_r04_ValidConf (d.1,())).bind
 fun (r:A5)=>
 bif bif !r.1.1 then true
 else decide (d.2.1<1) then some ((-1,()),())
 else (F_r04_SmallWords (d.1,())).bind
 fun (r:Aa)=>
 bif decide (d.2.1<=r.1.1) then some ((0,()),())
 else (rl Ap Ai (fun (x:Ap)=>
 bif decide (x.1.2.1<=4) then
 bif decide (W (x.1.2.1*d.1.1) >= d.2.1) then some (Sum.inr (Sum.inl (x.1.2,(),())))
 else some (Sum.inl ((x.1.1,W (x.1.2.1+1),()),(),()))
 else some (Sum.inr (Sum.inr ((x.1.1,()),(),())))) ((0,1,()),(),())).bind
 fun (r:Ai)=>Sum.elim (fun (x:Ad)=>some (x.1,())) (fun (y:Ad)=>some ((-1,()),())) r:=by
  unfold F_r04_Need
  funext d
  kernel_rfl
theorem zpw:F_r04_Proper=fun (d:AY)=>(F_r04_ValidConf (d.1.1,())).bind
 fun (r:A5)=>
 bif bif !r.1.1 then true
 else bif (d.1.2.1.length:Int) != W (d.1.1.2.1*d.1.1.1) then true
 else bif (d.1.2.2.1.length:Int) != d.1.1.2.1 then true
 else bif decide (d.1.2.2.2.1<0) then true
 else decide (d.1.2.2.2.1 > 1) then some ((false,()),())
 else bif
 bif d.1.2.2.2.2.1 != -1 then
 bif decide (d.1.2.2.2.2.1<0) then true
 else bif decide (d.1.2.2.2.2.1 >= (d.1.2.2.1.length:Int)) then true
 else inB d.1.2.2.2.2.1 d.1.2.2.1.length
 else true then
 bif bif d.1.2.2.2.2.1 != -1 then
 bif decide (d.1.2.2.2.2.1<0) then true
 else bif decide (d.1.2.2.2.2.1 >= (d.1.2.2.1.length:Int)) then true
 else (d.1.2.2.1.getD d.1.2.2.2.2.1.toNat PG0).1 != 1
 else false then some ((false,()),())
 else (rl (AD×Unit×Unit) A8 (fun (x:AD×Unit×Unit)=>
 bif decide (x.1.2.2.1<(d.1.2.2.1.length:Int)) then
 bif inB x.1.2.2.1 d.1.2.2.1.length then
 bif !((d.1.2.2.1.getD x.1.2.2.1.toNat PG0).1 == 3) == decide (x.1.2.1 > 0) then some (Sum.inr (Sum.inl ((false,()),(),())))
 else bif decide ((d.1.2.2.1.getD x.1.2.2.1.toNat PG0).2.1<0) then some (Sum.inr (Sum.inl ((false,()),(),())))
 else bif decide ((d.1.2.2.1.getD x.1.2.2.1.toNat PG0).2.1 > 1) then some (Sum.inr (Sum.inl ((false,()),(),())))
 else (F_r04_pins (d.1.2.2.1.getD x.1.2.2.1.toNat PG0).2.2.2).bind
 fun (r:A5)=>
 bif !r.1.1 then some (Sum.inr (Sum.inl ((false,()),(),())))
 else bif (d.1.2.2.1.getD x.1.2.2.1.toNat PG0).1 == 0 then
 bif !(((d.1.2.2.1.getD x.1.2.2.1.toNat PG0).1,(d.1.2.2.1.getD x.1.2.2.1.toNat PG0).2.1,(d.1.2.2.1.getD x.1.2.2.1.toNat PG0).2.2.1,(d.1.2.2.1.getD x.1.2.2.1.toNat PG0).2.2.2.1,()).1 == PG0.1&&(((d.1.2.2.1.getD x.1.2.2.1.toNat PG0).1,(d.1.2.2.1.getD x.1.2.2.1.toNat PG0).2.1,(d.1.2.2.1.getD x.1.2.2.1.toNat PG0).2.2.1,(d.1.2.2.1.getD x.1.2.2.1.toNat PG0).2.2.2.1,()).2.1 == PG0.2.1&&(((d.1.2.2.1.getD x.1.2.2.1.toNat PG0).1,(d.1.2.2.1.getD x.1.2.2.1.toNat PG0).2.1,(d.1.2.2.1.getD x.1.2.2.1.toNat PG0).2.2.1,(d.1.2.2.1.getD x.1.2.2.1.toNat PG0).2.2.2.1,()).2.2.1 == PG0.2.2.1&&(((d.1.2.2.1.getD x.1.2.2.1.toNat PG0).1,(d.1.2.2.1.getD x.1.2.2.1.toNat PG0).2.1,(d.1.2.2.1.getD x.1.2.2.1.toNat PG0).2.2.1,(d.1.2.2.1.getD x.1.2.2.1.toNat PG0).2.2.2.1,()).2.2.2.1 == PG0.2.2.2.1&&true)))) then some (Sum.inr (Sum.inl ((false,()),(),())))
 else some (Sum.inl ((x.1.1,if W (x.1.2.1-1) > 0 then W (x.1.2.1-1)
 else 0,W (x.1.2.2.1+1),()),(),()))
 else bif (d.1.2.2.1.getD x.1.2.2.1.toNat PG0).1 == 1 then
 bif bif decide ((d.1.2.2.1.getD x.1.2.2.1.toNat PG0).2.2.1<0) then true
 else decide ((d.1.2.2.1.getD x.1.2.2.1.toNat PG0).2.2.1 > d.1.1.1) then some (Sum.inr (Sum.inl ((false,()),(),())))
 else some (Sum.inl ((x.1.1,if W (x.1.2.1-1) > 0 then W (x.1.2.1-1)
 else 0,W (x.1.2.2.1+1),()),(),()))
 else bif (d.1.2.2.1.getD x.1.2.2.1.toNat PG0).1 == 2 then (F_r04_Need (d.1.1,(d.1.2.2.1.getD x.1.2.2.1.toNat PG0).2.2.1,())).bind
 fun (r:Aa)=>
 bif decide (r.1.1<1) then some (Sum.inr (Sum.inl ((false,()),(),())))
 else (F_r04_tails (d.1.2.2.1,x.1.2.2.1,(d.1.2.2.1.getD x.1.2.2.1.toNat PG0).2.1,())).bind
 fun (r_1:Aa)=>
 bif decide (r_1.1.1<W (r.1.1-1)) then some (Sum.inr (Sum.inl ((false,()),(),())))
 else some (Sum.inl ((x.1.1,if W (r.1.1-1) > 0 then W (r.1.1-1)
 else 0,W (x.1.2.2.1+1),()),(),()))
 else bif (d.1.2.2.1.getD x.1.2.2.1.toNat PG0).1 == 3 then
 bif bif (d.1.2.2.1.getD x.1.2.2.1.toNat PG0).2.2.1 != 0 then true
 else (d.1.2.2.1.getD x.1.2.2.1.toNat PG0).2.2.2.1 != 0 then some (Sum.inr (Sum.inl ((false,()),(),())))
 else some (Sum.inl ((x.1.1,if W (x.1.2.1-1) > 0 then W (x.1.2.1-1)
 else 0,W (x.1.2.2.1+1),()),(),()))
 else some (Sum.inr (Sum.inl ((false,()),(),())))
 else none
 else some (Sum.inr (Sum.inr ((x.1.1,()),(),())))) ((false,0,0,()),(),())).bind
 fun (r:A8)=>Sum.elim (fun (x:Af)=>some (x.1,())) (fun (y:Af)=>some ((true,()),())) r
 else none:=by
  unfold F_r04_Proper
  funext d
  kernel_rfl
theorem zrm:F_r03_Valid=fun (d:B0)=>
 bif bif decide (d.1.1<0) then true
 else bif decide (d.1.1 > 3) then true
 else bif decide (d.1.2.1<0) then true
 else decide (d.1.2.1 > 255) then some ((false,()),())
 else bif d.1.1 != 1 then some ((d.1.2.2.1 == 0,()),())
 else bif
 bif decide (d.1.2.1<=32) then !decide (U d.1.2.1<0)
 else true then some ((bif decide (d.1.2.1<=32) then decide (U d.1.2.2.1<U (1*2 ^ min (U d.1.2.1).toNat IntKind.u64.bits))
 else false,()),())
 else none:=by
  unfold F_r03_Valid
  funext d
  kernel_rfl
theorem zri:F_r04_Limit=fun (d:Ae)=>(F_r04_ValidConf d).bind
 fun (r:A5)=>
 bif !r.1.1 then some ((0,()),())
 else bif !4 == 0 then some ((W (d.1.2.1.tdiv 4),()),())
 else none:=by
  unfold F_r04_Limit
  funext d
  kernel_rfl
theorem zrk:F_r04_InUse=fun (d:(List PgD)×Unit)=>(rl Ap Ad (fun (x:Ap)=>
 bif decide (x.1.2.1<(d.1.length:Int)) then
 bif inB x.1.2.1 d.1.length then some (Sum.inl ((bif (d.1.getD x.1.2.1.toNat PG0).1 != 0 then W (x.1.1+1)
 else x.1.1,W (x.1.2.1+1),()),(),()))
 else none
 else some (Sum.inr ((x.1.1,()),(),()))) ((0,0,()),(),())).bind
 fun (r:Ad)=>some (r.1,()):=by
  unfold F_r04_InUse
  funext d
  kernel_rfl
theorem zpv:F_r04_take_o=fun (d:(List PgD)×Int×Int×PgD×PgD×Unit)=>
 bif bif decide (d.2.1<0) then true
 else bif decide (d.2.1 >= (d.1.length:Int)) then true
 else decide (d.2.2.1 > W ((d.1.length:Int)-d.2.1)) then some (([],2,()),())
 else bif zaA (0+d.1.length) 32 then (rl AH AA (fun (x:AH)=>
 bif decide (x.1.2.2.1<d.2.2.1) then
 bif inB (W (d.2.1+x.1.2.2.1)) x.2.2.1.length then
 bif (x.2.2.1.getD (W (d.2.1+x.1.2.2.1)).toNat PG0).1 != 0 then some (Sum.inr (Sum.inl (([],20,()),(),x.2.2)))
 else bif inB (W (d.2.1+x.1.2.2.1)) x.2.2.1.length then some (Sum.inl ((x.1.1,x.1.2.1,W (x.1.2.2.1+1),()),(),x.2.2.1.set (W (d.2.1+x.1.2.2.1)).toNat (d.2.2.2.2.1.1,d.2.2.2.2.1.2.1,d.2.2.2.2.1.2.2.1,d.2.2.2.2.1.2.2.2.1,()),()))
 else none
 else none
 else some (Sum.inr (Sum.inr ((x.1.1,x.1.2.1,()),(),x.2.2)))) (([],0,0,()),(),d.1,())).bind
 fun (r:AA)=>Sum.elim (fun (x:B7)=>none) (fun (y:B7)=>
 bif inB d.2.1 y.2.2.1.length then some ((y.2.2.1.set d.2.1.toNat (d.2.2.2.1.1,d.2.2.2.1.2.1,d.2.2.2.1.2.2.1,d.2.2.2.1.2.2.2.1,()),0,()),())
 else none) r
 else none:=by
  unfold F_r04_take_o
  funext d
  kernel_rfl
theorem zre:F_r07_small=fun (d:AB)=>
 bif zaA (0+d.1.2.2.1.length) 32 then (F_r04_Limit (d.1.1,())).bind
 fun (r:Aa)=>(F_r04_InUse (d.1.2.2.1,())).bind
 fun (r_1:Aa)=>
 bif bif decide (d.1.2.2.2.2.1<0) then true
 else inB d.1.2.2.2.2.1 (d.1.2.2.1).length then
 bif bif decide (d.1.2.2.2.2.1<0) then true
 else bif ((d.1.2.2.1).getD d.1.2.2.2.2.1.toNat PG0).2.1 != d.1.2.2.2.1 then true
 else inB d.1.2.2.2.2.1 (d.1.2.2.1).length then
 bif bif decide (d.1.2.2.2.2.1<0) then true
 else bif ((d.1.2.2.1).getD d.1.2.2.2.2.1.toNat PG0).2.1 != d.1.2.2.2.1 then true
 else bif decide (W (((d.1.2.2.1).getD d.1.2.2.2.2.1.toNat PG0).2.2.1+d.2.1) > d.1.1.1) then true
 else decide (r_1.1.1 > r.1.1) then (F_r04_First (d.1.2.2.1,1,())).bind
 fun (r_2:Aa)=>
 bif bif decide (r_2.1.1<0) then true
 else decide (r_1.1.1 >= r.1.1) then some ((H0,0,false,()),())
 else (F_r04_Small_o (d.1.2.2.1,r_2.1.1,d.1.2.2.2.1,())).bind
 fun (r:Ar×Unit)=>
 bif inB r_2.1.1 r.1.1.length then
 bif inB r_2.1.1 r.1.1.length then
 bif inB r_2.1.1 r.1.1.length then some (((d.1.1,d.1.2.1,r.1.1.set r_2.1.1.toNat ((r.1.1.getD r_2.1.1.toNat PG0).1,(r.1.1.getD r_2.1.1.toNat PG0).2.1,W ((r.1.1.getD r_2.1.1.toNat PG0).2.2.1+d.2.1),(r.1.1.getD r_2.1.1.toNat PG0).2.2.2.1,()),d.1.2.2.2.1,r_2.1),U (W (W (4096+W (r_2.1.1*d.1.1.1))+(r.1.1.getD r_2.1.1.toNat PG0).2.2.1)),true,()),())
 else none
 else none
 else none
 else bif inB d.1.2.2.2.2.1 (d.1.2.2.1).length then
 bif inB d.1.2.2.2.2.1 (d.1.2.2.1).length then
 bif inB d.1.2.2.2.2.1 (d.1.2.2.1).length then some (((d.1.1,d.1.2.1,(d.1.2.2.1).set d.1.2.2.2.2.1.toNat (((d.1.2.2.1).getD d.1.2.2.2.2.1.toNat PG0).1,((d.1.2.2.1).getD d.1.2.2.2.2.1.toNat PG0).2.1,W (((d.1.2.2.1).getD d.1.2.2.2.2.1.toNat PG0).2.2.1+d.2.1),((d.1.2.2.1).getD d.1.2.2.2.2.1.toNat PG0).2.2.2.1,()),d.1.2.2.2),U (W (W (4096+W (d.1.2.2.2.2.1*d.1.1.1))+((d.1.2.2.1).getD d.1.2.2.2.2.1.toNat PG0).2.2.1)),true,()),())
 else none
 else none
 else none
 else none
 else none
 else none:=by
  unfold F_r07_small
  funext d
  kernel_rfl
theorem zrf:F_r07_large=fun (d:B1)=>(F_r04_First (d.1.2.2.1,d.2.2)).bind
 fun (r:Aa)=>
 bif decide (r.1.1<0) then some ((H0,0,false,()),())
 else (F_r04_InUse (d.1.2.2.1,())).bind
 fun (r_1:Aa)=>(F_r04_Limit (d.1.1,())).bind
 fun (r_2:Aa)=>
 bif decide (W (r_1.1.1+d.2.2.1) > r_2.1.1) then some ((H0,0,false,()),())
 else (F_r04_Large (d.1.1,d.1.2.2.1,r.1.1,d.1.2.2.2.1,d.2.1,())).bind
 fun (r_3:Ar×Unit)=>some (((d.1.1,d.1.2.1,r_3.1.1,d.1.2.2.2),U (W (4096+W (r.1.1*d.1.1.1))),true,()),()):=by
  unfold F_r07_large
  funext d
  kernel_rfl
theorem ztg:F_r05_Init=fun (d:A2×Int×A7×Unit)=>(F_r03_Encode d.2.2).bind
 fun (r:Ae)=>(F_r04_Proper (d.1,())).bind
 fun (r_1:A5)=>
 bif bif !r_1.1.1 then true
 else r.1.2.1 != 0 then some ((H0,1,()),())
 else bif decide (0<=d.2.2.1.2.1) then
 bif zaA ([r.1.1].length+d.2.2.1.2.1.toNat) 8 then (F_r02_Write (d.1.2.1,d.2.1,[r.1.1]++List.replicate d.2.2.1.2.1.toNat (0:Int),())).bind
 fun (r:AN)=>
 bif r.1.2.1 != 0 then some ((H0,r.1.2),())
 else some (((d.1.1,r.1.1,d.1.2.2),0,()),())
 else none
 else none:=by
  unfold F_r05_Init
  funext d
  kernel_rfl
theorem zxy:F_r04_Of=fun (d:Ah×Int×Unit)=>(F_r04_ValidConf (d.1,())).bind
 fun (r:A5)=>
 bif !r.1.1 then some ((0,0,1,()),())
 else bif
 bif decide (d.2.1<4096) then true
 else decide (d.2.1 >= U (W (4096+W (d.1.2.1*d.1.1)))) then some ((0,0,2,()),())
 else bif !d.1.1 == 0 then
 bif !d.1.1 == 0 then some ((W ((W (U (d.2.1-4096))).tdiv d.1.1),(W (U (d.2.1-4096))).tmod d.1.1,0,()),())
 else none
 else none:=by
  unfold F_r04_Of
  funext d
  kernel_rfl
theorem zrp:F_r02_Index=fun (d:A4)=>(F_r02_span (d.1,d.2.1,1,())).bind
 fun (r:AG)=>
 bif !r.1.2.1 then some ((0,2,()),())
 else some ((r.1.1,0,()),()):=by
  unfold F_r02_Index
  funext d
  kernel_rfl
theorem zrc:F_r09_class=fun (d:A2×Int×List Int×Unit)=>(rl Ap Ai (fun (x:Ap)=>
 bif decide (x.1.2.1<(d.2.2.1.length:Int)) then
 bif inB x.1.2.1 d.2.2.1.length then (F_r05_At (d.1,d.2.2.1.getD x.1.2.1.toNat 0,())).bind
 fun (r:Au×Unit)=>(F_r03_Size (r.1.1,())).bind
 fun (r_1:Aa)=>(F_r04_SmallWords (d.1.1,())).bind
 fun (r_2:Aa)=>
 bif inB d.2.1 d.1.2.2.1.length then
 bif bif (d.1.2.2.1.getD d.2.1.toNat PG0).1 == 1 then
 bif !decide (r_1.1.1<=r_2.1.1) then true
 else inB d.2.1 d.1.2.2.1.length
 else true then
 bif bif (d.1.2.2.1.getD d.2.1.toNat PG0).1 == 1 then true
 else inB d.2.1 d.1.2.2.1.length then
 bif bif
 bif (d.1.2.2.1.getD d.2.1.toNat PG0).1 == 1 then
 bif !decide (r_1.1.1<=r_2.1.1) then true
 else bif (d.1.2.2.1.getD d.2.1.toNat PG0).1 == 2 then r.1.1.1 == 0
 else false
 else bif (d.1.2.2.1.getD d.2.1.toNat PG0).1 == 2 then r.1.1.1 == 0
 else false then inB x.1.2.1 d.2.2.1.length
 else true then
 bif bif (d.1.2.2.1.getD d.2.1.toNat PG0).1 == 1 then
 bif !decide (r_1.1.1<=r_2.1.1) then true
 else bif (d.1.2.2.1.getD d.2.1.toNat PG0).1 == 2 then r.1.1.1 == 0
 else false
 else bif (d.1.2.2.1.getD d.2.1.toNat PG0).1 == 2 then r.1.1.1 == 0
 else false then some (Sum.inr (Sum.inl ((d.2.2.1.getD x.1.2.1.toNat 0,()),(),())))
 else some (Sum.inl ((x.1.1,W (x.1.2.1+1),()),(),()))
 else none
 else none
 else none
 else none
 else none
 else some (Sum.inr (Sum.inr ((x.1.1,()),(),())))) ((0,0,()),(),())).bind
 fun (r:Ai)=>Sum.elim (fun (x:Ad)=>some (x.1,())) (fun (y:Ad)=>some ((0,()),())) r:=by
  unfold F_r09_class
  funext d
  kernel_rfl
theorem zte:F_r06_Word=fun (d:B1)=>(F_r06_word d).bind
 fun (r:Aa)=>some r:=by
  unfold F_r06_Word
  funext d
  kernel_rfl
theorem zta:F_r09_dirt=fun (d:AB)=>(F_r09_head d).bind
 fun (r:Aa)=>(F_r06_Page (d.1,r.1)).bind
 fun (r:AN)=>(F_r09_used (d.1,d.2.1,r.1.1,())).bind
 fun (r:(List Bool×Unit)×Unit)=>(rl Ap Ai (fun (x:Ap)=>
 bif decide (x.1.2.1<(r.1.1.length:Int)) then
 bif inB x.1.2.1 r.1.1.length then
 bif !r.1.1.getD x.1.2.1.toNat false then (F_r06_Word (d.1,d.2.1,x.1.2)).bind
 fun (r:Aa)=>
 bif r.1.1 != 0 then (F_r09_address (d.1,d.2.1,x.1.2)).bind
 fun (r:Aa)=>some (Sum.inr (Sum.inl (r.1,(),())))
 else some (Sum.inl ((x.1.1,W (x.1.2.1+1),()),(),()))
 else some (Sum.inl ((x.1.1,W (x.1.2.1+1),()),(),()))
 else none
 else some (Sum.inr (Sum.inr ((x.1.1,()),(),())))) ((0,0,()),(),())).bind
 fun (r:Ai)=>Sum.elim (fun (x:Ad)=>some (x.1,())) (fun (y:Ad)=>some ((0,()),())) r:=by
  unfold F_r09_dirt
  funext d
  kernel_rfl
theorem zs8:F_r09_page=fun (d:AB)=>
 bif inB d.2.1 d.1.2.2.1.length then
 bif bif (d.1.2.2.1.getD d.2.1.toNat PG0).1 != 0 then inB d.2.1 d.1.2.2.1.length
 else true then
 bif bif (d.1.2.2.1.getD d.2.1.toNat PG0).1 != 0 then (d.1.2.2.1.getD d.2.1.toNat PG0).2.1 != d.1.2.2.2.1
 else false then some (((2,d.2.1,0,()),()),())
 else (F_r06_Page d).bind
 fun (r:AN)=>
 bif r.1.2.1 != 0 then some (((3,d.2.1,0,()),()),())
 else (F_r09_class (d.1,d.2.1,r.1.1,())).bind
 fun (r:Aa)=>
 bif r.1.1 != 0 then some (((5,d.2.1,r.1),()),())
 else (F_r09_dirt d).bind
 fun (r:Aa)=>
 bif r.1.1 != 0 then some (((4,d.2.1,r.1),()),())
 else some (((0,0,0,()),()),())
 else none
 else none:=by
  unfold F_r09_page
  funext d
  kernel_rfl
theorem zto:F_r02_Read=fun (d:AX)=>
 bif decide (d.2.2.1<0) then some (([],1,()),())
 else (F_r02_span d).bind
 fun (r:AG)=>
 bif !r.1.2.1 then some (([],2,()),())
 else bif decide (0<=r.1.1/\r.1.1<=W (r.1.1+d.2.2.1)/\W (r.1.1+d.2.2.1)<=(d.1.length:Int)) then
 bif zaA (0+(List.drop r.1.1.toNat (List.take (W (r.1.1+d.2.2.1)).toNat d.1)).length) 8 then some (([]++List.drop r.1.1.toNat (List.take (W (r.1.1+d.2.2.1)).toNat d.1),0,()),())
 else none
 else none:=by
  unfold F_r02_Read
  funext d
  kernel_rfl
theorem zpu:F_r05_Fields=fun (d:AB)=>(F_r05_Get d).bind
 fun (r:Au×Unit)=>
 bif r.1.2.1 != 0 then some (([],r.1.2),())
 else (F_r02_Read (d.1.2.1,U (d.2.1+1),r.1.1.2.1,())).bind
 fun (r:AN)=>some r:=by
  unfold F_r05_Fields
  funext d
  kernel_rfl
theorem zps:F_r09_Refers=fun (d:A2×List Int×Unit)=>(F_r09_Good (d.1,())).bind
 fun (r:A5)=>
 bif !r.1.1 then some ((false,()),())
 else (F_r06_Objects (d.1,())).bind
 fun (r:AN)=>(rl Ab A8 (fun (x:Ab)=>
 bif decide (x.1.2.1<(d.2.1.length:Int)) then
 bif inB x.1.2.1 d.2.1.length then
 bif bif d.2.1.getD x.1.2.1.toNat 0 != 0 then inB x.1.2.1 d.2.1.length
 else true then
 bif d.2.1.getD x.1.2.1.toNat 0 != 0 then (F_r06_Has (r.1.1,d.2.1.getD x.1.2.1.toNat 0,())).bind
 fun (r:A5)=>
 bif !r.1.1 then some (Sum.inr (Sum.inl ((false,()),(),())))
 else some (Sum.inl ((x.1.1,W (x.1.2.1+1),()),(),()))
 else some (Sum.inl ((x.1.1,W (x.1.2.1+1),()),(),()))
 else none
 else none
 else some (Sum.inr (Sum.inr ((x.1.1,()),(),())))) ((false,0,()),(),())).bind
 fun (r:A8)=>Sum.elim (fun (x:Af)=>some (x.1,())) (fun (y:Af)=>some ((true,()),())) r:=by
  unfold F_r09_Refers
  funext d
  kernel_rfl
theorem zs5:F_r11_Step=fun (d:Ac×Unit)=>
 bif decide (d.1.2.2.2.2.1 >= (d.1.2.2.2.1.length:Int)) then some ((d.1,false,0,()),())
 else bif inB d.1.2.2.2.2.1 d.1.2.2.2.1.length then (F_r10_Get (d.1,d.1.2.2.2.1.getD d.1.2.2.2.2.1.toNat 0,())).bind
 fun (r:Ax)=>(F_r03_Pointers r.1).bind
 fun (r:A9×Unit)=>(rl (AD×Unit×A0×A0×Unit) (AS×Unit×A0×A0×Unit⊕AS×Unit×A0×A0×Unit) (fun (x:AD×Unit×A0×A0×Unit)=>
 bif decide (x.1.2.2.1<(r.1.1.length:Int)) then
 bif inB x.1.2.2.1 r.1.1.length then (F_r02_Load (x.2.2.1.2.2.1,U (U (d.1.2.2.2.1.getD d.1.2.2.2.2.1.toNat 0+1)+U (r.1.1.getD x.1.2.2.1.toNat 0)),())).bind
 fun (r_1:Ae)=>(F_r10_Forward ((((x.2.2.1.1,x.2.2.1.2.1,()),x.2.2.1.2.2.1,x.2.2.1.2.2.2.1,x.2.2.1.2.2.2.2.1,x.2.2.1.2.2.2.2.2.1,()),x.2.2.1.2.2.2.2.2.2.1,x.2.2.1.2.2.2.2.2.2.2.1,x.2.2.1.2.2.2.2.2.2.2.2.1,x.2.2.1.2.2.2.2.2.2.2.2.2.1,x.2.2.1.2.2.2.2.2.2.2.2.2.2,()),r_1.1.1,())).bind
 fun (r_2:AU)=>
 bif r_2.1.2.2.1 != 0 then some (Sum.inr (Sum.inl ((false,r_2.1.2.2),(),x.2.2.1,(0,0,[],[],0,0,[],[],[],0,0,0,0,0,0,0,()),())))
 else (F_r02_Store (r_2.1.1.1.2.1,U (U (d.1.2.2.2.1.getD d.1.2.2.2.2.1.toNat 0+1)+U (r.1.1.getD x.1.2.2.1.toNat 0)),r_2.1.2.1,())).bind
 fun (r:AN)=>some (Sum.inl ((x.1.1,x.1.2.1,W (x.1.2.2.1+1),()),(),(r_2.1.1.1.1.1,r_2.1.1.1.1.2.1,r.1.1,r_2.1.1.1.2.2.1,r_2.1.1.1.2.2.2.1,r_2.1.1.1.2.2.2.2.1,r_2.1.1.2.1,r_2.1.1.2.2.1,r_2.1.1.2.2.2.1,r_2.1.1.2.2.2.2.1,r_2.1.1.2.2.2.2.2.1),x.2.2.2))
 else none
 else some (Sum.inr (Sum.inr ((x.1.1,x.1.2.1,()),(),x.2.2)))) ((false,0,0,()),(),(d.1.1.1.1,d.1.1.1.2.1,d.1.1.2.1,d.1.1.2.2.1,d.1.1.2.2.2.1,d.1.1.2.2.2.2.1,d.1.2.1,d.1.2.2.1,d.1.2.2.2.1,d.1.2.2.2.2.1,d.1.2.2.2.2.2.1),(0,0,[],[],0,0,[],[],[],0,0,0,0,0,0,0,()),())).bind
 fun (r_1:AS×Unit×A0×A0×Unit⊕AS×Unit×A0×A0×Unit)=>Sum.elim (fun (x:AS×Unit×A0×A0×Unit)=>some (((((x.2.2.2.1.1,x.2.2.2.1.2.1,()),x.2.2.2.1.2.2.1,x.2.2.2.1.2.2.2.1,x.2.2.2.1.2.2.2.2.1,x.2.2.2.1.2.2.2.2.2.1,()),x.2.2.2.1.2.2.2.2.2.2.1,x.2.2.2.1.2.2.2.2.2.2.2.1,x.2.2.2.1.2.2.2.2.2.2.2.2.1,x.2.2.2.1.2.2.2.2.2.2.2.2.2.1,x.2.2.2.1.2.2.2.2.2.2.2.2.2.2,()),x.1),())) (fun (y:AS×Unit×A0×A0×Unit)=>some (((((y.2.2.1.1,y.2.2.1.2.1,()),y.2.2.1.2.2.1,y.2.2.1.2.2.2.1,y.2.2.1.2.2.2.2.1,y.2.2.1.2.2.2.2.2.1,()),y.2.2.1.2.2.2.2.2.2.1,y.2.2.1.2.2.2.2.2.2.2.1,y.2.2.1.2.2.2.2.2.2.2.2.1,W (y.2.2.1.2.2.2.2.2.2.2.2.2.1+1),(y.2.2.1.2.2.2.2.2.2.2.2.2.2.1,y.2.2.1.2.2.2.2.2.2.2.2.2.2.2.1,y.2.2.1.2.2.2.2.2.2.2.2.2.2.2.2.1,y.2.2.1.2.2.2.2.2.2.2.2.2.2.2.2.2.1,y.2.2.1.2.2.2.2.2.2.2.2.2.2.2.2.2.2.1,W (W (y.2.2.1.2.2.2.2.2.2.2.2.2.2.2.2.2.2.2.1+1)+(r.1.1.length:Int)),()),()),true,0,()),())) r_1
 else none:=by
  unfold F_r11_Step
  funext d
  kernel_rfl
theorem zf6:F_made_World_Collect=fun (d:Av×Unit)=>(F_r12_Collect d.1).bind
 fun (r:AE×Unit)=>
 bif r.1.2.2.2.2.1 == 0 then some (((r.1.1,r.1.2.1,r.1.2.2.1,()),()),())
 else some (d,()):=by
  unfold F_made_World_Collect
  funext d
  kernel_rfl
theorem zh9:F_made_World_Step=fun (d:Av×A4×Unit)=>(F_made_Tape_Next (d.2.1,12,())).bind
 fun (r:Ag)=>
 bif bif r.1.1 == 0 then r.1.1 == 0
 else bif r.1.1 == 1 then r.1.1 == 1
 else bif r.1.1 == 2 then r.1.1 == 2
 else r.1.1 == 3 then (F_made_Tape_Header (r.2.1,d.1.1.1,())).bind
 fun (r:B0×A4×Unit)=>(F_made_World_Put (d.1,r.1)).bind
 fun (r_1:Aj×Unit)=>some (r_1.1,r.2)
 else bif
 bif r.1.1 == 4 then r.1.1 == 4
 else bif r.1.1 == 5 then r.1.1 == 5
 else r.1.1 == 6 then (F_made_World_Link (d.1,r.2)).bind
 fun (r:Aj×A4×Unit)=>some r
 else bif r.1.1 == 7 then (F_made_World_Pin (d.1,r.2)).bind
 fun (r:Aj×A4×Unit)=>some r
 else bif
 bif r.1.1 == 8 then r.1.1 == 8
 else r.1.1 == 9 then (F_made_World_Drop (d.1,r.2)).bind
 fun (r:Aj×A4×Unit)=>some r
 else bif r.1.1 == 10 then (F_made_World_Collect (d.1,())).bind
 fun (r_1:Aj×Unit)=>some (r_1.1,r.2)
 else bif zaA (0+d.1.2.1.length) 8 then (F_made_World_pick (d.1,r.2)).bind
 fun (r:Ag)=>
 bif zaA ((d.1.2.1).length + [r.1.1].length) 8 then some (((d.1.1,d.1.2.1++[r.1.1],d.1.2.2),()),r.2)
 else none
 else none:=by
  unfold F_made_World_Step
  funext d
  kernel_rfl
theorem zjy:F_page_ValidConf=fun (d:Ae)=>(F_page_within (d.1.1,16,64,())).bind
 fun (r:A5)=>
 bif bif r.1.1 then !4 == 0
 else true then
 bif r.1.1 then
 bif d.1.1.tmod 4 == 0 then (F_page_within (d.1.2.1,8,64,())).bind
 fun (r:A5)=>some r
 else some ((false,()),())
 else some ((false,()),())
 else none:=by
  unfold F_page_ValidConf
  funext d
  kernel_rfl
theorem zmk:F_page_isSmall=fun (d:(List PgD)×Int×Unit)=>(F_page_within (d.2.1,0,W ((d.1.length:Int)-1),())).bind
 fun (r:A5)=>
 bif bif r.1.1 then inB d.2.1 d.1.length
 else true then some ((bif r.1.1 then (d.1.getD d.2.1.toNat PG0).1 == 1
 else false,()),())
 else none:=by
  unfold F_page_isSmall
  funext d
  kernel_rfl
theorem znN:F_page_isPins=fun (d:Aw)=>(F_page_within (d.1,0,2147483647,())).bind
 fun (r:A5)=>some r:=by
  unfold F_page_isPins
  funext d
  kernel_rfl
theorem znO:F_page_Proper=fun (d:AY)=>(F_page_ValidConf (d.1.1,())).bind
 fun (r:A5)=>
 bif !r.1.1 then some ((false,()),())
 else (F_page_size (d.1.1,())).bind
 fun (r:Aa)=>
 bif bif (d.1.2.1.length:Int) != r.1.1 then true
 else (d.1.2.2.1.length:Int) != d.1.1.2.1 then some ((false,()),())
 else (F_page_isSpace (d.1.2.2.2.1,())).bind
 fun (r:A5)=>
 bif !r.1.1 then some ((false,()),())
 else bif d.1.2.2.2.2.1 != -1 then (F_page_isSmall (d.1.2.2.1,d.1.2.2.2.2)).bind
 fun (r:A5)=>
 bif !r.1.1 then some ((false,()),())
 else (F_page_table_proper ((d.1.1,d.1.2.2.1,()),())).bind
 fun (r:A5)=>some r
 else (F_page_table_proper ((d.1.1,d.1.2.2.1,()),())).bind
 fun (r:A5)=>some r:=by
  unfold F_page_Proper
  funext d
  kernel_rfl
theorem znR:F_bits_Unpack=fun (d:Int×List Int×Unit)=>(F_bits_fit_c_bits_Unpack_S1 ((d.2.1.length:Int),d.2)).bind
 fun (r:AO×List Int×Unit)=>
 bif !r.1.1 then some (([],1,()),())
 else bif decide (0<=(r.2.1.length:Int)/\(r.2.1.length:Int)<=(r.2.1.length:Int)) then
 bif zaA ((r.2.1.length:Int)).toNat 8 then (rl (Ah×Unit×List Int×Unit) AR (fun (x:Ah×Unit×List Int×Unit)=>
 bif decide (x.1.2.1<(r.2.1.length:Int)) then
 bif inB x.1.2.1 r.2.1.length then (F_bits_Ones (r.2.1.getD x.1.2.1.toNat 0,())).bind
 fun (r_1:Aa)=>
 bif inB x.1.2.1 x.2.2.1.length then
 bif inB x.1.2.1 r.2.1.length then
 bif !decide (r.2.1.getD x.1.2.1.toNat 0<0) then some (Sum.inl ((x.1.1.fdiv (2 ^ min (r.2.1.getD x.1.2.1.toNat 0).toNat IntKind.u64.bits),W (x.1.2.1+1),()),(),x.2.2.1.set x.1.2.1.toNat (zcg IntKind.u64 (fun (x1 x2:BitVec IntKind.u64.bits)=>x1 &&& x2) x.1.1 r_1.1.1),()))
 else none
 else none
 else none
 else none
 else some (Sum.inr ((x.1.1,()),(),x.2.2))) ((d.1,0,()),(),List.replicate ((r.2.1.length:Int)).toNat (0:Int),())).bind
 fun (r:AR)=>
 bif r.1.1 != 0 then some (([],2,()),())
 else some ((r.2.2.1,0,()),())
 else none
 else none:=by
  unfold F_bits_Unpack
  funext d
  kernel_rfl
theorem zmm:F_header_Valid=fun (d:B0)=>
 bif d.1.1 == 1 then
 bif decide (d.1.2.1 >= 0) then
 bif decide (d.1.2.1<=32) then (F_bits_Ones (d.1.2.1,())).bind
 fun (r:Aa)=>some ((decide (U d.1.2.2.1<=r.1.1),()),())
 else some ((false,()),())
 else some ((false,()),())
 else bif
 bif d.1.1 == 0 then d.1.1 == 0
 else bif d.1.1 == 2 then d.1.1 == 2
 else d.1.1 == 3 then some ((bif decide (d.1.2.1 >= 0) then
 bif decide (d.1.2.1<=255) then (d.1.1,d.1.2.1,d.1.2.2.1,()).1 == (d.1.1,d.1.2.1,0,()).1&&((d.1.1,d.1.2.1,d.1.2.2.1,()).2.1 == (d.1.1,d.1.2.1,0,()).2.1&&((d.1.1,d.1.2.1,d.1.2.2.1,()).2.2.1 == (d.1.1,d.1.2.1,0,()).2.2.1&&true))
 else false
 else false,()),())
 else some ((false,()),()):=by
  unfold F_header_Valid
  funext d
  kernel_rfl
theorem zkZ:F_header_Decode=fun (d:Aw)=>(F_bits_Unpack (d.1,[2,2,12,32],())).bind
 fun (r:AN)=>
 bif bif r.1.2.1 != 0 then true
 else inB 0 r.1.1.length then
 bif bif r.1.2.1 != 0 then true
 else r.1.1.getD (Int.toNat 0) 0 != 1 then some (((0,0,0,()),false,()),())
 else bif inB 1 r.1.1.length then
 bif inB 2 r.1.1.length then
 bif inB 3 r.1.1.length then (F_header_Valid ((W (r.1.1.getD (Int.toNat 1) 0),W (r.1.1.getD (Int.toNat 2) 0),U32 (r.1.1.getD (Int.toNat 3) 0),()),())).bind
 fun (r_1:A5)=>
 bif !r_1.1.1 then some (((0,0,0,()),false,()),())
 else some (((W (r.1.1.getD (Int.toNat 1) 0),W (r.1.1.getD (Int.toNat 2) 0),U32 (r.1.1.getD (Int.toNat 3) 0),()),true,()),())
 else none
 else none
 else none
 else none:=by
  unfold F_header_Decode
  funext d
  kernel_rfl
theorem znQ:F_header_Size=fun (d:B0)=>(F_header_Valid d).bind
 fun (r:A5)=>
 bif !r.1.1 then some ((0,()),())
 else some ((W (d.1.2.1+1),()),()):=by
  unfold F_header_Size
  funext d
  kernel_rfl
theorem zii:F_audit_checkDirt=fun (d:A2×Int×(List Az)×Unit)=>(F_audit_span (d.1,d.2.1,())).bind
 fun (r:Ae)=>(rl Ak A6 (fun (x:Ak)=>
 bif decide (x.1.1<r.1.2.1) then (F_audit_word (d.1,x.1)).bind
 fun (r:Aa)=>
 bif r.1.1 == 0 then some (Sum.inl ((U (x.1.1+1),()),(),x.2.2))
 else (rl Ad (Unit×Unit×Unit⊕Unit×Unit×Unit) (fun (x_1:Ad)=>
 bif decide (x_1.1.1<(d.2.2.1.length:Int)) then
 bif inB x_1.1.1 d.2.2.1.length then (F_audit_part_uses (d.2.2.1.getD x_1.1.1.toNat (0,(0,0,0,()),()),x.1)).bind
 fun (r:A5)=>
 bif r.1.1 then some (Sum.inr (Sum.inl ((),(),())))
 else some (Sum.inl ((W (x_1.1.1+1),()),(),()))
 else none
 else some (Sum.inr (Sum.inr ((),(),())))) ((0,()),(),())).bind
 fun (r:Unit×Unit×Unit⊕Unit×Unit×Unit)=>Sum.elim (fun (x_1:Unit×Unit×Unit)=>some (Sum.inl ((U (x.1.1+1),()),(),x.2.2))) (fun (y:Unit×Unit×Unit)=>(F_audit_findingAt (d.1,4,x.1)).bind
 fun (r:Ax)=>some (Sum.inr (Sum.inl ((),(),r.1)))) r
 else some (Sum.inr (Sum.inr ((),(),x.2.2)))) ((r.1.1,()),(),(0,0,0,()),())).bind
 fun (r:A6)=>Sum.elim (fun (x:Aq)=>some (x.2.2,())) (fun (y:Aq)=>some (((0,0,0,()),()),())) r:=by
  unfold F_audit_checkDirt
  funext d
  kernel_rfl
theorem zdh:F_slices_BinarySearch_uint64=fun (d:A4)=>(rl Ap Ad (fun (x:Ap)=>
 bif decide (x.1.1<x.1.2.1) then
 bif !decide (1<0) then
 bif inB (W ((U (W (x.1.1+x.1.2.1))).fdiv (2 ^ min (Int.toNat 1) IntKind.u64.bits))) d.1.length then (F_cmp_Less_uint64 (d.1.getD (W ((U (W (x.1.1+x.1.2.1))).fdiv (2 ^ min (Int.toNat 1) IntKind.u64.bits))).toNat 0,d.2)).bind
 fun (r:A5)=>some (Sum.inl ((bif r.1.1 then W (W ((U (W (x.1.1+x.1.2.1))).fdiv (2 ^ min (Int.toNat 1) IntKind.u64.bits))+1)
 else x.1.1,
 bif r.1.1 then x.1.2.1
 else W ((U (W (x.1.1+x.1.2.1))).fdiv (2 ^ min (Int.toNat 1) IntKind.u64.bits)),()),(),()))
 else none
 else none
 else some (Sum.inr ((x.1.1,()),(),()))) ((0,(d.1.length:Int),()),(),())).bind
 fun (r:Ad)=>
 bif bif decide (r.1.1<(d.1.length:Int)) then inB r.1.1 d.1.length
 else true then
 bif bif decide (r.1.1<(d.1.length:Int)) then
 bif d.1.getD r.1.1.toNat 0 == d.2.1 then true
 else inB r.1.1 d.1.length
 else true then
 bif decide (r.1.1<(d.1.length:Int)) then
 bif d.1.getD r.1.1.toNat 0 == d.2.1 then some ((r.1.1,true,()),())
 else (F_slices_isNaN_uint64 (d.1.getD r.1.1.toNat 0,())).bind
 fun (r_1:A5)=>
 bif r_1.1.1 then (F_slices_isNaN_uint64 d.2).bind
 fun (r_2:A5)=>some ((r.1.1,r_2.1),())
 else some ((r.1.1,false,()),())
 else some ((r.1.1,false,()),())
 else none
 else none:=by
  unfold F_slices_BinarySearch_uint64
  funext d
  kernel_rfl
theorem ztj:F_r04_Same=fun (d:A2×A2×Unit)=>
 bif !((d.1.1.1,d.1.1.2.1,()).1 == (d.2.1.1.1,d.2.1.1.2.1,()).1&&((d.1.1.1,d.1.1.2.1,()).2.1 == (d.2.1.1.1,d.2.1.1.2.1,()).2.1&&true)) then some ((false,()),())
 else bif d.1.2.2.2.1 != d.2.1.2.2.2.1 then some ((false,()),())
 else bif d.1.2.2.2.2.1 != d.2.1.2.2.2.2.1 then some ((false,()),())
 else (F_r04_SamePages (d.1.2.2.1,d.2.1.2.2.1,())).bind
 fun (r:A5)=>
 bif bif !r.1.1 then true
 else (d.1.2.1.length:Int) != (d.2.1.2.1.length:Int) then some ((false,()),())
 else (rl Ab A8 (fun (x:Ab)=>
 bif decide (x.1.2.1<(d.1.2.1.length:Int)) then
 bif inB x.1.2.1 d.1.2.1.length then
 bif inB x.1.2.1 d.2.1.2.1.length then
 bif d.1.2.1.getD x.1.2.1.toNat 0 != d.2.1.2.1.getD x.1.2.1.toNat 0 then some (Sum.inr (Sum.inl ((false,()),(),())))
 else some (Sum.inl ((x.1.1,W (x.1.2.1+1),()),(),()))
 else none
 else none
 else some (Sum.inr (Sum.inr ((x.1.1,()),(),())))) ((false,0,()),(),())).bind
 fun (r:A8)=>Sum.elim (fun (x:Af)=>some (x.1,())) (fun (y:Af)=>some ((true,()),())) r:=by
  unfold F_r04_Same
  funext d
  kernel_rfl
theorem ztr:F_l10_same=fun (d:Ac×Ac×Unit)=>(F_r04_Same (d.1.1,d.2.1.1,())).bind
 fun (r:A5)=>
 bif r.1.1 then (F_r01_Same (d.1.2.1,d.2.1.2.1,())).bind
 fun (r:A5)=>
 bif r.1.1 then (F_r10_SameInts (d.1.2.2.1,d.2.1.2.2.1,())).bind
 fun (r:A5)=>
 bif r.1.1 then (F_r01_Same (d.1.2.2.2.1,d.2.1.2.2.2.1,())).bind
 fun (r:A5)=>some ((bif r.1.1 then
 bif d.1.2.2.2.2.1 == d.2.1.2.2.2.2.1 then (d.1.2.2.2.2.2.1.1,d.1.2.2.2.2.2.1.2.1,d.1.2.2.2.2.2.1.2.2.1,d.1.2.2.2.2.2.1.2.2.2.1,d.1.2.2.2.2.2.1.2.2.2.2.1,d.1.2.2.2.2.2.1.2.2.2.2.2.1,()).1 == (d.2.1.2.2.2.2.2.1.1,d.2.1.2.2.2.2.2.1.2.1,d.2.1.2.2.2.2.2.1.2.2.1,d.2.1.2.2.2.2.2.1.2.2.2.1,d.2.1.2.2.2.2.2.1.2.2.2.2.1,d.2.1.2.2.2.2.2.1.2.2.2.2.2.1,()).1&&((d.1.2.2.2.2.2.1.1,d.1.2.2.2.2.2.1.2.1,d.1.2.2.2.2.2.1.2.2.1,d.1.2.2.2.2.2.1.2.2.2.1,d.1.2.2.2.2.2.1.2.2.2.2.1,d.1.2.2.2.2.2.1.2.2.2.2.2.1,()).2.1 == (d.2.1.2.2.2.2.2.1.1,d.2.1.2.2.2.2.2.1.2.1,d.2.1.2.2.2.2.2.1.2.2.1,d.2.1.2.2.2.2.2.1.2.2.2.1,d.2.1.2.2.2.2.2.1.2.2.2.2.1,d.2.1.2.2.2.2.2.1.2.2.2.2.2.1,()).2.1&&((d.1.2.2.2.2.2.1.1,d.1.2.2.2.2.2.1.2.1,d.1.2.2.2.2.2.1.2.2.1,d.1.2.2.2.2.2.1.2.2.2.1,d.1.2.2.2.2.2.1.2.2.2.2.1,d.1.2.2.2.2.2.1.2.2.2.2.2.1,()).2.2.1 == (d.2.1.2.2.2.2.2.1.1,d.2.1.2.2.2.2.2.1.2.1,d.2.1.2.2.2.2.2.1.2.2.1,d.2.1.2.2.2.2.2.1.2.2.2.1,d.2.1.2.2.2.2.2.1.2.2.2.2.1,d.2.1.2.2.2.2.2.1.2.2.2.2.2.1,()).2.2.1&&((d.1.2.2.2.2.2.1.1,d.1.2.2.2.2.2.1.2.1,d.1.2.2.2.2.2.1.2.2.1,d.1.2.2.2.2.2.1.2.2.2.1,d.1.2.2.2.2.2.1.2.2.2.2.1,d.1.2.2.2.2.2.1.2.2.2.2.2.1,()).2.2.2.1 == (d.2.1.2.2.2.2.2.1.1,d.2.1.2.2.2.2.2.1.2.1,d.2.1.2.2.2.2.2.1.2.2.1,d.2.1.2.2.2.2.2.1.2.2.2.1,d.2.1.2.2.2.2.2.1.2.2.2.2.1,d.2.1.2.2.2.2.2.1.2.2.2.2.2.1,()).2.2.2.1&&((d.1.2.2.2.2.2.1.1,d.1.2.2.2.2.2.1.2.1,d.1.2.2.2.2.2.1.2.2.1,d.1.2.2.2.2.2.1.2.2.2.1,d.1.2.2.2.2.2.1.2.2.2.2.1,d.1.2.2.2.2.2.1.2.2.2.2.2.1,()).2.2.2.2.1 == (d.2.1.2.2.2.2.2.1.1,d.2.1.2.2.2.2.2.1.2.1,d.2.1.2.2.2.2.2.1.2.2.1,d.2.1.2.2.2.2.2.1.2.2.2.1,d.2.1.2.2.2.2.2.1.2.2.2.2.1,d.2.1.2.2.2.2.2.1.2.2.2.2.2.1,()).2.2.2.2.1&&((d.1.2.2.2.2.2.1.1,d.1.2.2.2.2.2.1.2.1,d.1.2.2.2.2.2.1.2.2.1,d.1.2.2.2.2.2.1.2.2.2.1,d.1.2.2.2.2.2.1.2.2.2.2.1,d.1.2.2.2.2.2.1.2.2.2.2.2.1,()).2.2.2.2.2.1 == (d.2.1.2.2.2.2.2.1.1,d.2.1.2.2.2.2.2.1.2.1,d.2.1.2.2.2.2.2.1.2.2.1,d.2.1.2.2.2.2.2.1.2.2.2.1,d.2.1.2.2.2.2.2.1.2.2.2.2.1,d.2.1.2.2.2.2.2.1.2.2.2.2.2.1,()).2.2.2.2.2.1&&true)))))
 else false
 else false,()),())
 else some ((false,()),())
 else some ((false,()),())
 else some ((false,()),()):=by
  unfold F_l10_same
  funext d
  kernel_rfl
theorem zhg:F_slices_Index_int=fun (d:A4)=>(rl Ap Ai (fun (x:Ap)=>
 bif decide (x.1.2.1<(d.1.length:Int)) then
 bif inB x.1.2.1 d.1.length then
 bif d.2.1 == d.1.getD x.1.2.1.toNat 0 then some (Sum.inr (Sum.inl (x.1.2,(),())))
 else some (Sum.inl ((x.1.1,W (x.1.2.1+1),()),(),()))
 else none
 else some (Sum.inr (Sum.inr ((x.1.1,()),(),())))) ((0,0,()),(),())).bind
 fun (r:Ai)=>Sum.elim (fun (x:Ad)=>some (x.1,())) (fun (y:Ad)=>some ((-1,()),())) r:=by
  unfold F_slices_Index_int
  funext d
  kernel_rfl
theorem zie:F_evacuate_copied=fun (d:AB)=>(F_arena_Load (d.1.2.1,d.2)).bind
 fun (r:Ae)=>
 bif r.1.2.1 != 0 then some ((0,false,()),())
 else (F_header_Target (r.1.1,())).bind
 fun (r:AG)=>some r:=by
  unfold F_evacuate_copied
  funext d
  kernel_rfl
theorem zft:F_page_freeFrom=fun (d:(List PgD)×Int×Unit)=>(rl Ad Ad (fun (x:Ad)=>
 bif bif decide (W (d.2.1+x.1.1)<(d.1.length:Int)) then inB (W (d.2.1+x.1.1)) d.1.length
 else true then
 bif bif decide (W (d.2.1+x.1.1)<(d.1.length:Int)) then (d.1.getD (W (d.2.1+x.1.1)).toNat PG0).1 == 0
 else false then some (Sum.inl ((W (x.1.1+1),()),(),()))
 else some (Sum.inr (x.1,(),()))
 else none) ((0,()),(),())).bind
 fun (r:Ad)=>some (r.1,()):=by
  unfold F_page_freeFrom
  funext d
  kernel_rfl
theorem zkr:F_page_Runs=fun (d:(List PgD)×Unit)=>(rl (AK×Ay×Unit) (AT×Ay×Unit) (fun (x:AK×Ay×Unit)=>
 bif decide (x.1.2.1<(d.1.length:Int)) then (F_page_freeFrom (d.1,x.1.2)).bind
 fun (r:Aa)=>
 bif bif decide (r.1.1 > 0) then zaA (x.2.1.1.length + [(x.1.2.1,r.1.1,())].length) 16
 else true then
 bif decide (r.1.1 > 0) then some (Sum.inl (((),W (W (x.1.2.1+r.1.1)+1),()),(x.2.1.1++[(x.1.2.1,r.1.1,())],()),()))
 else some (Sum.inl (((),W (W (x.1.2.1+r.1.1)+1),()),x.2))
 else none
 else some (Sum.inr (((),()),x.2))) (((),0,()),([],()),())).bind
 fun (r:AT×Ay×Unit)=>some r.2:=by
  unfold F_page_Runs
  funext d
  kernel_rfl
theorem zpA:F_page_Small=fun (d:(List PgD)×Int×Int×Unit)=>(F_page_isSpace d.2.2).bind
 fun (r:A5)=>
 bif !r.1.1 then some (([],1,()),())
 else (F_page_take (d.1,d.2.1,1,(1,d.2.2.1,0,0,()),())).bind
 fun (r:Ar×Unit)=>some r:=by
  unfold F_page_Small
  funext d
  kernel_rfl
theorem zeg:F_evacuate_copying_place=fun (d:AF)=>(F_evacuate_copying_fits d).bind
 fun (r:AO×(A3×Int×Int×Int×Unit)×Unit)=>
 bif !r.1.1 then (F_evacuate_copying_take r.2).bind
 fun (r:At)=>
 bif r.1.1 != 0 then some r
 else (F_evacuate_copying_last r.2).bind
 fun (r:At)=>
 bif inB r.1.1 r.2.1.1.1.2.2.1.length then (F_page_Address (r.2.1.1.1.1,r.1.1,(r.2.1.1.1.2.2.1.getD r.1.1.toNat PG0).2.2.1,())).bind
 fun (r_1:Ae)=>
 bif r_1.1.2.1 != 0 then some (r_1.1.2,r.2)
 else bif inB r.1.1 r.2.1.1.1.2.2.1.length then
 bif inB r.1.1 r.2.1.1.1.2.2.1.length then some ((0,()),(((r.2.1.1.1.1,r.2.1.1.1.2.1,r.2.1.1.1.2.2.1.set r.1.1.toNat ((r.2.1.1.1.2.2.1.getD r.1.1.toNat PG0).1,(r.2.1.1.1.2.2.1.getD r.1.1.toNat PG0).2.1,W ((r.2.1.1.1.2.2.1.getD r.1.1.toNat PG0).2.2.1+r.2.1.2.1),(r.2.1.1.1.2.2.1.getD r.1.1.toNat PG0).2.2.2.1,()),r.2.1.1.1.2.2.2),r.2.1.1.2),r.2.1.2.1,r.2.1.2.2.1,r_1.1.1,()),())
 else none
 else none
 else none
 else (F_evacuate_copying_last r.2).bind
 fun (r:At)=>
 bif inB r.1.1 r.2.1.1.1.2.2.1.length then (F_page_Address (r.2.1.1.1.1,r.1.1,(r.2.1.1.1.2.2.1.getD r.1.1.toNat PG0).2.2.1,())).bind
 fun (r_1:Ae)=>
 bif r_1.1.2.1 != 0 then some (r_1.1.2,r.2)
 else bif inB r.1.1 r.2.1.1.1.2.2.1.length then
 bif inB r.1.1 r.2.1.1.1.2.2.1.length then some ((0,()),(((r.2.1.1.1.1,r.2.1.1.1.2.1,r.2.1.1.1.2.2.1.set r.1.1.toNat ((r.2.1.1.1.2.2.1.getD r.1.1.toNat PG0).1,(r.2.1.1.1.2.2.1.getD r.1.1.toNat PG0).2.1,W ((r.2.1.1.1.2.2.1.getD r.1.1.toNat PG0).2.2.1+r.2.1.2.1),(r.2.1.1.1.2.2.1.getD r.1.1.toNat PG0).2.2.2.1,()),r.2.1.1.1.2.2.2),r.2.1.1.2),r.2.1.2.1,r.2.1.2.2.1,r_1.1.1,()),())
 else none
 else none
 else none:=by
  unfold F_evacuate_copying_place
  funext d
  kernel_rfl
theorem zjC:F_header_Forward=fun (d:Aw)=>(F_bits_Ones (32,())).bind
 fun (r:Aa)=>
 bif decide (d.1 > r.1.1) then some ((0,1,()),())
 else (F_bits_Pack ([(2,2,()),(32,d.1,())],())).bind
 fun (r:Ae)=>some r:=by
  unfold F_header_Forward
  funext d
  kernel_rfl
theorem znU:F_arena_Store=fun (d:AX)=>(F_arena_Write (d.1,d.2.1,[d.2.2.1],())).bind
 fun (r:AN)=>some r:=by
  unfold F_arena_Store
  funext d
  kernel_rfl
end Go.VI
namespace Go.VI
open Go
theorem zcT:F_made_Tape_Next=fun (d:A4×Int×Unit)=>
 bif decide (d.2.1<1) then some ((0,()),d.1,())
 else bif
 bif decide (d.1.2.1<(d.1.1.length:Int)) then inB d.1.2.1 d.1.1.length
 else true then
 bif !d.2.1 == 0 then
 bif !d.2.1 == 0 then some (((W ((bif decide (d.1.2.1<(d.1.1.length:Int)) then d.1.1.getD d.1.2.1.toNat 0
 else W (W (d.1.2.1*7)+3)).tmod d.2.1+d.2.1)).tmod d.2.1,()),(d.1.1,W (d.1.2.1+1),()),())
 else none
 else none
 else none:=by
  unfold F_made_Tape_Next
  funext d
  kernel_rfl
theorem zd3:F_made_Tape_Empty=fun (d:AN)=>(F_made_Tape_Conf d).bind
 fun (r:Ae×A4×Unit)=>(F_r04_New r.1).bind
 fun (r_1:AJ)=>some (((r_1.1.1,[],[],()),()),r.2):=by
  unfold F_made_Tape_Empty
  funext d
  kernel_rfl
theorem zrh:F_r04_tails=fun (d:(List PgD)×Int×Int×Unit)=>(rl Ap Ad (fun (x:Ap)=>
 bif bif decide (x.1.2.1<(d.1.length:Int)) then inB x.1.2.1 d.1.length
 else true then
 bif bif decide (x.1.2.1<(d.1.length:Int)) then
 bif (d.1.getD x.1.2.1.toNat PG0).1 == 3 then inB x.1.2.1 d.1.length
 else true
 else true then
 bif bif decide (x.1.2.1<(d.1.length:Int)) then
 bif (d.1.getD x.1.2.1.toNat PG0).1 == 3 then (d.1.getD x.1.2.1.toNat PG0).2.1 == d.2.2.1
 else false
 else false then some (Sum.inl ((W (x.1.1+1),W (x.1.2.1+1),()),(),()))
 else some (Sum.inr ((x.1.1,()),(),()))
 else none
 else none) ((0,W (d.2.1+1),()),(),())).bind
 fun (r:Ad)=>some (r.1,()):=by
  unfold F_r04_tails
  funext d
  kernel_rfl
theorem ztc:F_r07_Asks=fun (d:Ah×A7×Unit)=>(F_r03_Valid d.2).bind
 fun (r:A5)=>
 bif r.1.1 then
 bif d.2.1.1 != 0 then (F_r03_Size d.2).bind
 fun (r:Aa)=>(F_r04_Need (d.1,r.1)).bind
 fun (r:Aa)=>some ((r.1.1 != -1,()),())
 else some ((false,()),())
 else some ((false,()),()):=by
  unfold F_r07_Asks
  funext d
  kernel_rfl
theorem zth:F_r04_take=fun (d:(List PgD)×Int×Int×PgD×PgD×Unit)=>
 bif bif decide (d.2.1<0) then true
 else bif decide (d.2.1 >= (d.1.length:Int)) then true
 else decide (d.2.2.1 > W ((d.1.length:Int)-d.2.1)) then some (([],2,()),())
 else bif zaA (0+d.1.length) 32 then (rl AH AA (fun (x:AH)=>
 bif decide (x.1.2.2.1<d.2.2.1) then
 bif inB (W (d.2.1+x.1.2.2.1)) x.2.2.1.length then
 bif (x.2.2.1.getD (W (d.2.1+x.1.2.2.1)).toNat PG0).1 != 0 then some (Sum.inr (Sum.inl (([],20,()),(),x.2.2)))
 else bif inB (W (d.2.1+x.1.2.2.1)) x.2.2.1.length then some (Sum.inl ((x.1.1,x.1.2.1,W (x.1.2.2.1+1),()),(),x.2.2.1.set (W (d.2.1+x.1.2.2.1)).toNat (d.2.2.2.2.1.1,d.2.2.2.2.1.2.1,d.2.2.2.2.1.2.2.1,d.2.2.2.2.1.2.2.2.1,()),()))
 else none
 else none
 else some (Sum.inr (Sum.inr ((x.1.1,x.1.2.1,()),(),x.2.2)))) (([],0,0,()),(),d.1,())).bind
 fun (r:AA)=>Sum.elim (fun (x:B7)=>some (x.1,())) (fun (y:B7)=>
 bif inB d.2.1 y.2.2.1.length then some ((y.2.2.1.set d.2.1.toNat (d.2.2.2.1.1,d.2.2.2.1.2.1,d.2.2.2.1.2.2.1,d.2.2.2.1.2.2.2.1,()),0,()),())
 else none) r
 else none:=by
  unfold F_r04_take
  funext d
  kernel_rfl
theorem zrj:F_r04_Large=fun (d:Ah×(List PgD)×Int×Int×Int×Unit)=>(F_r04_Need (d.1,d.2.2.2.2)).bind
 fun (r:Aa)=>
 bif bif decide (r.1.1<1) then true
 else bif decide (d.2.2.2.1<0) then true
 else decide (d.2.2.2.1 > 1) then some (([],1,()),())
 else (F_r04_take (d.2.1,d.2.2.1,r.1.1,(2,d.2.2.2.1,d.2.2.2.2.1,0,()),(3,d.2.2.2.1,0,0,()),())).bind
 fun (r:Ar×Unit)=>some r:=by
  unfold F_r04_Large
  funext d
  kernel_rfl
theorem zpz:F_r03_Decode=fun (d:Aw)=>
 bif !decide (2<0) then
 bif !decide (4<0) then
 bif !decide (16<0) then (F_r03_Encode ((W (zcg IntKind.u64 (fun (x1 x2:BitVec IntKind.u64.bits)=>x1 &&& x2) (d.1.fdiv (2 ^ min (Int.toNat 2) IntKind.u64.bits)) 3),W (zcg IntKind.u64 (fun (x1 x2:BitVec IntKind.u64.bits)=>x1 &&& x2) (d.1.fdiv (2 ^ min (Int.toNat 4) IntKind.u64.bits)) 4095),U32 (d.1.fdiv (2 ^ min (Int.toNat 16) IntKind.u64.bits)),()),())).bind
 fun (r:Ae)=>
 bif bif r.1.2.1 != 0 then true
 else r.1.1 != d.1 then some (((0,0,0,()),false,()),())
 else some (((W (zcg IntKind.u64 (fun (x1 x2:BitVec IntKind.u64.bits)=>x1 &&& x2) (d.1.fdiv (2 ^ min (Int.toNat 2) IntKind.u64.bits)) 3),W (zcg IntKind.u64 (fun (x1 x2:BitVec IntKind.u64.bits)=>x1 &&& x2) (d.1.fdiv (2 ^ min (Int.toNat 4) IntKind.u64.bits)) 4095),U32 (d.1.fdiv (2 ^ min (Int.toNat 16) IntKind.u64.bits)),()),true,()),())
 else none
 else none
 else none:=by
  unfold F_r03_Decode
  funext d
  kernel_rfl
theorem zvO:F_r05_Get=fun (d:AB)=>(F_r04_Proper (d.1,())).bind
 fun (r:A5)=>
 bif !r.1.1 then some (((0,0,0,()),1,()),())
 else bif d.2.1 == 0 then some (((0,0,0,()),5,()),())
 else (F_r05_At d).bind
 fun (r:Au×Unit)=>
 bif bif r.1.2.1 == 0 then r.1.1.1 == 0
 else false then some (((0,0,0,()),4,()),())
 else some r:=by
  unfold F_r05_Get
  funext d
  kernel_rfl
theorem znK:F_r03_Pointer=fun (d:Au)=>(F_r03_Valid (d.1,())).bind
 fun (r:A5)=>
 bif bif !r.1.1 then true
 else bif decide (d.2.1<0) then true
 else decide (d.2.1 >= d.1.2.1) then some ((false,()),())
 else bif
 bif d.1.1 == 2 then true
 else bif d.1.1 == 1 then !decide (U d.2.1<0)
 else true then some ((bif d.1.1 == 2 then true
 else bif d.1.1 == 1 then zcg IntKind.u32 (fun (x1 x2:BitVec IntKind.u32.bits)=>x1 &&& x2) (d.1.2.2.1.fdiv (2 ^ min (U d.2.1).toNat IntKind.u32.bits)) 1 == 1
 else false,()),())
 else none:=by
  unfold F_r03_Pointer
  funext d
  kernel_rfl
theorem zia:F_made_World_Link=fun (d:Av×A4×Unit)=>(F_made_World_pick d).bind
 fun (r:Ag)=>(F_made_World_pick (d.1,r.2)).bind
 fun (r_1:Ag)=>(F_made_Tape_Next (r_1.2.1,8,())).bind
 fun (r_2:Ag)=>(F_r05_Get (d.1.1,r.1)).bind
 fun (r_3:Au×Unit)=>
 bif bif r_3.1.2.1 != 0 then true
 else r_3.1.1.2.1 == 0 then some ((d.1,()),r_2.2)
 else bif !r_3.1.1.2.1 == 0 then (F_r03_Pointer (r_3.1.1,r_2.1.1.tmod r_3.1.1.2.1,())).bind
 fun (r_4:A5)=>
 bif !r_4.1.1 then (F_made_Tape_Next (r_2.2.1,1048576,())).bind
 fun (r_5:Ag)=>(F_r05_SetField (d.1.1,r.1.1,r_2.1.1.tmod r_3.1.1.2.1,U r_5.1.1,())).bind
 fun (r:AJ)=>some (((r.1.1,d.1.2),()),r_5.2)
 else (F_r05_SetField (d.1.1,r.1.1,r_2.1.1.tmod r_3.1.1.2.1,r_1.1)).bind
 fun (r:AJ)=>some (((r.1.1,d.1.2),()),r_2.2)
 else none:=by
  unfold F_made_World_Link
  funext d
  kernel_rfl
theorem zib:F_made_World_Drop=fun (d:Av×A4×Unit)=>
 bif decide ((d.1.2.1.length:Int) > 0) then (F_made_Tape_Next (d.2.1,(d.1.2.1.length:Int),())).bind
 fun (r:Ag)=>(F_made_Tape_Next (r.2.1,3,())).bind
 fun (r_1:Ag)=>
 bif bif r_1.1.1 == 0 then zaA (0+d.1.2.2.1.length) 8
 else true then
 bif bif r_1.1.1 == 0 then inB r.1.1 d.1.2.1.length
 else true then
 bif bif r_1.1.1 == 0 then zaA ((d.1.2.2.1).length + [d.1.2.1.getD r.1.1.toNat 0].length) 8
 else true then
 bif r_1.1.1 == 0 then
 bif decide ((0:Int)<=0/\0<=r.1.1/\r.1.1<=(d.1.2.1.length:Int)) then
 bif zaA (0+(List.drop (Int.toNat 0) (List.take r.1.1.toNat d.1.2.1)).length) 8 then
 bif decide (0<=W (r.1.1+1)/\W (r.1.1+1)<=(d.1.2.1.length:Int)/\(d.1.2.1.length:Int)<=(d.1.2.1.length:Int)) then
 bif zaA ((List.drop (Int.toNat 0) (List.take r.1.1.toNat d.1.2.1)).length+(List.drop (W (r.1.1+1)).toNat (List.take ((d.1.2.1.length:Int)).toNat d.1.2.1)).length) 8 then some (((d.1.1,List.drop (Int.toNat 0) (List.take r.1.1.toNat d.1.2.1)++List.drop (W (r.1.1+1)).toNat (List.take ((d.1.2.1.length:Int)).toNat d.1.2.1),d.1.2.2.1++[d.1.2.1.getD r.1.1.toNat 0],()),()),r_1.2)
 else none
 else none
 else none
 else none
 else bif decide ((0:Int)<=0/\0<=r.1.1/\r.1.1<=(d.1.2.1.length:Int)) then
 bif zaA (0+(List.drop (Int.toNat 0) (List.take r.1.1.toNat d.1.2.1)).length) 8 then
 bif decide (0<=W (r.1.1+1)/\W (r.1.1+1)<=(d.1.2.1.length:Int)/\(d.1.2.1.length:Int)<=(d.1.2.1.length:Int)) then
 bif zaA ((List.drop (Int.toNat 0) (List.take r.1.1.toNat d.1.2.1)).length+(List.drop (W (r.1.1+1)).toNat (List.take ((d.1.2.1.length:Int)).toNat d.1.2.1)).length) 8 then some (((d.1.1,List.drop (Int.toNat 0) (List.take r.1.1.toNat d.1.2.1)++List.drop (W (r.1.1+1)).toNat (List.take ((d.1.2.1.length:Int)).toNat d.1.2.1),d.1.2.2),()),r_1.2)
 else none
 else none
 else none
 else none
 else none
 else none
 else none
 else some ((d.1,()),d.2):=by
  unfold F_made_World_Drop
  funext d
  kernel_rfl
theorem zmf:F_r09_pointers=fun (d:AY)=>(F_r06_Objects d).bind
 fun (r:AN)=>(rl Ak A6 (fun (x:Ak)=>
 bif decide (x.1.1<(r.1.1.length:Int)) then
 bif inB x.1.1 r.1.1.length then (F_r05_Get (d.1,r.1.1.getD x.1.1.toNat 0,())).bind
 fun (r_1:Au×Unit)=>
 bif inB x.1.1 r.1.1.length then (F_r05_Fields (d.1,r.1.1.getD x.1.1.toNat 0,())).bind
 fun (r_2:AN)=>(rl Ak A6 (fun (x_1:Ak)=>
 bif decide (x_1.1.1<(r_2.1.1.length:Int)) then (F_r03_Pointer (r_1.1.1,x_1.1)).bind
 fun (r_3:A5)=>
 bif bif r_3.1.1 then inB x_1.1.1 r_2.1.1.length
 else true then
 bif bif r_3.1.1 then
 bif r_2.1.1.getD x_1.1.1.toNat 0 != 0 then inB x_1.1.1 r_2.1.1.length
 else true
 else true then
 bif r_3.1.1 then
 bif r_2.1.1.getD x_1.1.1.toNat 0 != 0 then (F_r06_Has (r.1.1,r_2.1.1.getD x_1.1.1.toNat 0,())).bind
 fun (r_4:A5)=>
 bif bif !r_4.1.1 then inB x.1.1 r.1.1.length
 else true then
 bif !r_4.1.1 then (F_r04_Of (d.1.1,U (U (r.1.1.getD x.1.1.toNat 0+1)+U x_1.1.1),())).bind
 fun (r_5:B0)=>some (Sum.inr (Sum.inl ((),(),(6,r_5.1.1,U (U (r.1.1.getD x.1.1.toNat 0+1)+U x_1.1.1),()),())))
 else some (Sum.inl ((W (x_1.1.1+1),()),(),x_1.2.2))
 else none
 else some (Sum.inl ((W (x_1.1.1+1),()),(),x_1.2.2))
 else some (Sum.inl ((W (x_1.1.1+1),()),(),x_1.2.2))
 else none
 else none
 else some (Sum.inr (Sum.inr ((),(),x_1.2.2)))) ((0,()),(),x.2.2)).bind
 fun (r:A6)=>Sum.elim (fun (x:Aq)=>some (Sum.inr (Sum.inl ((),(),x.2.2)))) (fun (y:Aq)=>some (Sum.inl ((W (x.1.1+1),()),(),y.2.2))) r
 else none
 else none
 else some (Sum.inr (Sum.inr ((),(),x.2.2)))) ((0,()),(),(0,0,0,()),())).bind
 fun (r:A6)=>Sum.elim (fun (x:Aq)=>some (x.2.2,())) (fun (y:Aq)=>some (((0,0,0,()),()),())) r:=by
  unfold F_r09_pointers
  funext d
  kernel_rfl
theorem zf4:F_r10_Begin=fun (d:AY)=>(F_r04_Proper d).bind
 fun (r:A5)=>
 bif !r.1.1 then some (((H0,[],[],[],0,(0,0,0,0,0,0,()),()),1,()),())
 else (F_r09_Good d).bind
 fun (r:A5)=>
 bif !r.1.1 then some (((H0,[],[],[],0,(0,0,0,0,0,0,()),()),19,()),())
 else (F_r06_Objects d).bind
 fun (r:AN)=>
 bif zaA (0+d.1.2.2.1.length) 32 then (rl Am As (fun (x:Am)=>
 bif decide (x.1.1<(x.2.2.1.length:Int)) then
 bif inB x.1.1 x.2.2.1.length then
 bif bif
 bif (x.2.2.1.getD x.1.1.toNat PG0).1 == 1 then decide ((x.2.2.1.getD x.1.1.toNat PG0).2.2.2.1 > 0)
 else false then inB x.1.1 x.2.2.1.length
 else true then
 bif bif (x.2.2.1.getD x.1.1.toNat PG0).1 == 1 then decide ((x.2.2.1.getD x.1.1.toNat PG0).2.2.2.1 > 0)
 else false then some (Sum.inl ((W (x.1.1+1),()),(),x.2.2.1.set x.1.1.toNat ((x.2.2.1.getD x.1.1.toNat PG0).1,W (1-d.1.2.2.2.1),(x.2.2.1.getD x.1.1.toNat PG0).2.2.1,(x.2.2.1.getD x.1.1.toNat PG0).2.2.2.1,()),()))
 else some (Sum.inl ((W (x.1.1+1),()),(),x.2.2))
 else none
 else none
 else some (Sum.inr ((),(),x.2.2))) ((0,()),(),d.1.2.2.1,())).bind
 fun (r_1:As)=>some ((((d.1.1,d.1.2.1,r_1.2.2.1,d.1.2.2.2),r.1.1,[],[],0,(0,0,0,0,0,0,()),()),0,()),())
 else none:=by
  unfold F_r10_Begin
  funext d
  kernel_rfl
theorem zme:F_r10_Promoted=fun (d:AW)=>
 bif bif decide (d.2.1<0) then true
 else decide (d.2.1 >= (d.1.1.2.2.1.length:Int)) then some ((false,()),())
 else bif inB d.2.1 d.1.1.2.2.1.length then
 bif (d.1.1.2.2.1.getD d.2.1.toNat PG0).1 == 1 then
 bif (d.1.1.2.2.1.getD d.2.1.toNat PG0).2.1 != d.1.1.2.2.2.1 then (F_r10_taken d).bind
 fun (r:A5)=>some ((!r.1.1,()),())
 else some ((false,()),())
 else some ((false,()),())
 else none:=by
  unfold F_r10_Promoted
  funext d
  kernel_rfl
theorem znF:F_r10_Forward=fun (d:AW)=>
 bif d.2.1 == 0 then some ((d.1,d.2.1,0,()),())
 else (F_r06_Has (d.1.2.2.2.1,d.2)).bind
 fun (r:A5)=>
 bif r.1.1 then some ((d.1,d.2.1,0,()),())
 else (F_r06_Has (d.1.2.1,d.2)).bind
 fun (r:A5)=>
 bif !r.1.1 then some (((H0,[],[],[],0,(0,0,0,0,0,0,()),()),0,19,()),())
 else (F_r02_Load (d.1.1.2.1,d.2)).bind
 fun (r:Ae)=>(F_r03_Target (r.1.1,())).bind
 fun (r_1:AG)=>
 bif r_1.1.2.1 then some ((d.1,r_1.1.1,0,()),())
 else (F_r04_Of (d.1.1.1,d.2)).bind
 fun (r_2:B0)=>
 bif bif r_2.1.2.2.1 != 0 then true
 else decide (r_2.1.1 >= (d.1.1.2.2.1.length:Int)) then some (((H0,[],[],[],0,(0,0,0,0,0,0,()),()),0,19,()),())
 else (F_r10_Promoted (d.1,r_2.1.1,())).bind
 fun (r_3:A5)=>
 bif r_3.1.1 then (F_r10_keep d).bind
 fun (r:AL)=>some ((r.1.1,d.2.1,0,()),())
 else bif inB r_2.1.1 d.1.1.2.2.1.length then
 bif bif (d.1.1.2.2.1.getD r_2.1.1.toNat PG0).1 == 2 then zaA (0+d.1.1.2.2.1.length) 32
 else true then
 bif bif (d.1.1.2.2.1.getD r_2.1.1.toNat PG0).1 == 2 then inB r_2.1.1 (d.1.1.2.2.1).length
 else true then
 bif (d.1.1.2.2.1.getD r_2.1.1.toNat PG0).1 == 2 then (rl Am As (fun (x:Am)=>
 bif bif decide (x.1.1<(x.2.2.1.length:Int)) then inB x.1.1 x.2.2.1.length
 else true then
 bif bif decide (x.1.1<(x.2.2.1.length:Int)) then (x.2.2.1.getD x.1.1.toNat PG0).1 == 3
 else false then
 bif inB x.1.1 x.2.2.1.length then some (Sum.inl ((W (x.1.1+1),()),(),x.2.2.1.set x.1.1.toNat ((x.2.2.1.getD x.1.1.toNat PG0).1,W (1-d.1.1.2.2.2.1),(x.2.2.1.getD x.1.1.toNat PG0).2.2.1,(x.2.2.1.getD x.1.1.toNat PG0).2.2.2.1,()),()))
 else none
 else some (Sum.inr ((),(),x.2.2))
 else none) ((W (r_2.1.1+1),()),(),(d.1.1.2.2.1).set r_2.1.1.toNat (((d.1.1.2.2.1).getD r_2.1.1.toNat PG0).1,W (1-d.1.1.2.2.2.1),((d.1.1.2.2.1).getD r_2.1.1.toNat PG0).2.2.1,((d.1.1.2.2.1).getD r_2.1.1.toNat PG0).2.2.2.1,()),())).bind
 fun (r:As)=>(F_r10_keep (((d.1.1.1,d.1.1.2.1,r.2.2.1,d.1.1.2.2.2),d.1.2),d.2)).bind
 fun (r:AL)=>some ((r.1.1,d.2.1,0,()),())
 else (F_r03_Decode (r.1.1,())).bind
 fun (r:(A7×Bool×Unit)×Unit)=>(F_r03_Size (r.1.1,())).bind
 fun (r:Aa)=>(F_r10_place (d.1,r.1)).bind
 fun (r_4:(A3×Int×Bool×Unit)×Unit)=>
 bif !r_4.1.2.2.1 then some (((H0,[],[],[],0,(0,0,0,0,0,0,()),()),0,3,()),())
 else (F_r02_Move (r_4.1.1.1.2.1,r_4.1.2.1,d.2.1,r.1)).bind
 fun (r:AN)=>(F_r03_Forward (r_4.1.2.1,())).bind
 fun (r_5:Ae)=>(F_r02_Store (r.1.1,d.2.1,r_5.1.1,())).bind
 fun (r:AN)=>
 bif zaA (0+r_4.1.1.2.2.2.1.length) 8 then
 bif zaA ((r_4.1.1.2.2.2.1).length + [r_4.1.2.1].length) 8 then some ((((r_4.1.1.1.1,r.1.1,r_4.1.1.1.2.2),r_4.1.1.2.1,r_4.1.1.2.2.1,r_4.1.1.2.2.2.1++[r_4.1.2.1],r_4.1.1.2.2.2.2.1,(W (r_4.1.1.2.2.2.2.2.1.1+1),r_4.1.1.2.2.2.2.2.1.2),()),r_4.1.2.1,0,()),())
 else none
 else none
 else none
 else none
 else none:=by
  unfold F_r10_Forward
  funext d
  kernel_rfl
theorem zq9:F_r11_Roots=fun (d:Ac×List Int×Unit)=>(rl (AI×A9×A0×A0×Unit) (A4×Unit×A0×A0×Unit⊕AC×A9×A0×A0×Unit) (fun (x:AI×A9×A0×A0×Unit)=>
 bif decide (x.1.2.2.2.1<(d.2.1.length:Int)) then
 bif inB x.1.2.2.2.1 d.2.1.length then (F_r10_Forward ((((x.2.2.1.1,x.2.2.1.2.1,()),x.2.2.1.2.2.1,x.2.2.1.2.2.2.1,x.2.2.1.2.2.2.2.1,x.2.2.1.2.2.2.2.2.1,()),x.2.2.1.2.2.2.2.2.2.1,x.2.2.1.2.2.2.2.2.2.2.1,x.2.2.1.2.2.2.2.2.2.2.2.1,x.2.2.1.2.2.2.2.2.2.2.2.2.1,x.2.2.1.2.2.2.2.2.2.2.2.2.2,()),d.2.1.getD x.1.2.2.2.1.toNat 0,())).bind
 fun (r:AU)=>
 bif r.1.2.2.1 != 0 then some (Sum.inr (Sum.inl (([],r.1.2.2),(),x.2.2.1,(0,0,[],[],0,0,[],[],[],0,0,0,0,0,0,0,()),())))
 else bif zaA (x.2.1.1.length + [r.1.2.1].length) 8 then some (Sum.inl ((x.1.1,x.1.2.1,(),W (x.1.2.2.2.1+1),()),(x.2.1.1++[r.1.2.1],()),(r.1.1.1.1.1,r.1.1.1.1.2.1,r.1.1.1.2.1,r.1.1.1.2.2.1,r.1.1.1.2.2.2.1,r.1.1.1.2.2.2.2.1,r.1.1.2.1,r.1.1.2.2.1,r.1.1.2.2.2.1,r.1.1.2.2.2.2.1,r.1.1.2.2.2.2.2.1),x.2.2.2))
 else none
 else none
 else some (Sum.inr (Sum.inr ((x.1.1,x.1.2.1,(),()),x.2)))) (([],0,(),0,()),([],()),(d.1.1.1.1,d.1.1.1.2.1,d.1.1.2.1,d.1.1.2.2.1,d.1.1.2.2.2.1,d.1.1.2.2.2.2.1,d.1.2.1,d.1.2.2.1,d.1.2.2.2.1,d.1.2.2.2.2.1,d.1.2.2.2.2.2.1),(0,0,[],[],0,0,[],[],[],0,0,0,0,0,0,0,()),())).bind
 fun (r:A4×Unit×A0×A0×Unit⊕AC×A9×A0×A0×Unit)=>Sum.elim (fun (x:A4×Unit×A0×A0×Unit)=>some (((((x.2.2.2.1.1,x.2.2.2.1.2.1,()),x.2.2.2.1.2.2.1,x.2.2.2.1.2.2.2.1,x.2.2.2.1.2.2.2.2.1,x.2.2.2.1.2.2.2.2.2.1,()),x.2.2.2.1.2.2.2.2.2.2.1,x.2.2.2.1.2.2.2.2.2.2.2.1,x.2.2.2.1.2.2.2.2.2.2.2.2.1,x.2.2.2.1.2.2.2.2.2.2.2.2.2.1,x.2.2.2.1.2.2.2.2.2.2.2.2.2.2,()),x.1),())) (fun (y:AC×A9×A0×A0×Unit)=>some (((((y.2.2.1.1,y.2.2.1.2.1,()),y.2.2.1.2.2.1,y.2.2.1.2.2.2.1,y.2.2.1.2.2.2.2.1,y.2.2.1.2.2.2.2.2.1,()),y.2.2.1.2.2.2.2.2.2.1,y.2.2.1.2.2.2.2.2.2.2.1,y.2.2.1.2.2.2.2.2.2.2.2.1,y.2.2.1.2.2.2.2.2.2.2.2.2.1,y.2.2.1.2.2.2.2.2.2.2.2.2.2,()),y.2.1.1,0,()),())) r:=by
  unfold F_r11_Roots
  funext d
  kernel_rfl
theorem zvK:F_r11_All=fun (d:Ac×Unit)=>(rl (Aw×Unit×A0×A0×Unit) (Aw×Unit×A0×A0×Unit) (fun (x:Aw×Unit×A0×A0×Unit)=>(F_r11_Step ((((x.2.2.1.1,x.2.2.1.2.1,()),x.2.2.1.2.2.1,x.2.2.1.2.2.2.1,x.2.2.1.2.2.2.2.1,x.2.2.1.2.2.2.2.2.1,()),x.2.2.1.2.2.2.2.2.2.1,x.2.2.1.2.2.2.2.2.2.2.1,x.2.2.1.2.2.2.2.2.2.2.2.1,x.2.2.1.2.2.2.2.2.2.2.2.2.1,x.2.2.1.2.2.2.2.2.2.2.2.2.2,()),())).bind
 fun (r:(A3×Bool×Int×Unit)×Unit)=>
 bif r.1.2.2.1 != 0 then some (Sum.inr (r.1.2.2,(),x.2.2.1,(0,0,[],[],0,0,[],[],[],0,0,0,0,0,0,0,()),()))
 else bif !r.1.2.1 then some (Sum.inr ((0,()),(),(r.1.1.1.1.1,r.1.1.1.1.2.1,r.1.1.1.2.1,r.1.1.1.2.2.1,r.1.1.1.2.2.2.1,r.1.1.1.2.2.2.2.1,r.1.1.2.1,r.1.1.2.2.1,r.1.1.2.2.2.1,r.1.1.2.2.2.2.1,r.1.1.2.2.2.2.2.1),(r.1.1.1.1.1,r.1.1.1.1.2.1,r.1.1.1.2.1,r.1.1.1.2.2.1,r.1.1.1.2.2.2.1,r.1.1.1.2.2.2.2.1,r.1.1.2.1,r.1.1.2.2.1,r.1.1.2.2.2.1,r.1.1.2.2.2.2.1,r.1.1.2.2.2.2.2.1),()))
 else some (Sum.inl (x.1,(),(r.1.1.1.1.1,r.1.1.1.1.2.1,r.1.1.1.2.1,r.1.1.1.2.2.1,r.1.1.1.2.2.2.1,r.1.1.1.2.2.2.2.1,r.1.1.2.1,r.1.1.2.2.1,r.1.1.2.2.2.1,r.1.1.2.2.2.2.1,r.1.1.2.2.2.2.2.1),x.2.2.2))) ((0,()),(),(d.1.1.1.1,d.1.1.1.2.1,d.1.1.2.1,d.1.1.2.2.1,d.1.1.2.2.2.1,d.1.1.2.2.2.2.1,d.1.2.1,d.1.2.2.1,d.1.2.2.2.1,d.1.2.2.2.2.1,d.1.2.2.2.2.2.1),(0,0,[],[],0,0,[],[],[],0,0,0,0,0,0,0,()),())).bind
 fun (r:Aw×Unit×A0×A0×Unit)=>some (((((r.2.2.2.1.1,r.2.2.2.1.2.1,()),r.2.2.2.1.2.2.1,r.2.2.2.1.2.2.2.1,r.2.2.2.1.2.2.2.2.1,r.2.2.2.1.2.2.2.2.2.1,()),r.2.2.2.1.2.2.2.2.2.2.1,r.2.2.2.1.2.2.2.2.2.2.2.1,r.2.2.2.1.2.2.2.2.2.2.2.2.1,r.2.2.2.1.2.2.2.2.2.2.2.2.2.1,r.2.2.2.1.2.2.2.2.2.2.2.2.2.2,()),r.1),()):=by
  unfold F_r11_All
  funext d
  kernel_rfl
theorem zhk:F_made_World_Spoil=fun (d:Av×A4×Unit)=>
 bif zaA (0+d.1.1.2.1.length) 8 then
 bif zaA (0+d.1.1.2.2.1.length) 32 then (F_made_Tape_Next (d.2.1,(d.1.1.2.1.length:Int),())).bind
 fun (r:Ag)=>(F_made_Tape_Next (r.2.1,(d.1.1.2.2.1.length:Int),())).bind
 fun (r_1:Ag)=>(F_made_Tape_Next (r_1.2.1,12,())).bind
 fun (r_2:Ag)=>
 bif bif r_2.1.1 == 0 then r_2.1.1 == 0
 else r_2.1.1 == 1 then (F_made_Tape_Next (r_2.2.1,10,())).bind
 fun (r_3:Ag)=>
 bif inB r_3.1.1 [0,1,5,21,4096,4097,4112,16386,1099511627776,61].length then
 bif inB r.1.1 (d.1.1.2.1).length then some ((((d.1.1.1,(d.1.1.2.1).set r.1.1.toNat ([0,1,5,21,4096,4097,4112,16386,1099511627776,61].getD r_3.1.1.toNat 0),d.1.1.2.2.1,d.1.1.2.2.2),d.1.2),()),r_3.2)
 else none
 else none
 else bif
 bif r_2.1.1 == 2 then inB r.1.1 (d.1.1.2.1).length
 else true then
 bif r_2.1.1 == 2 then (F_made_Tape_Next (r_2.2.1,64,())).bind
 fun (r_3:Ag)=>
 bif !decide (U r_3.1.1<0) then
 bif inB r.1.1 (d.1.1.2.1).length then some ((((d.1.1.1,(d.1.1.2.1).set r.1.1.toNat (zcg IntKind.u64 (fun (x1 x2:BitVec IntKind.u64.bits)=>x1 ^^^ x2) ((d.1.1.2.1).getD r.1.1.toNat 0) (U (1*2 ^ min (U r_3.1.1).toNat IntKind.u64.bits))),d.1.1.2.2.1,d.1.1.2.2.2),d.1.2),()),r_3.2)
 else none
 else none
 else bif r_2.1.1 == 3 then (F_made_Tape_Next (r_2.2.1,5,())).bind
 fun (r:Ag)=>
 bif inB r_1.1.1 (d.1.1.2.2.1).length then some ((((d.1.1.1,d.1.1.2.1,(d.1.1.2.2.1).set r_1.1.1.toNat (r.1.1,((d.1.1.2.2.1).getD r_1.1.1.toNat PG0).2.1,((d.1.1.2.2.1).getD r_1.1.1.toNat PG0).2.2.1,((d.1.1.2.2.1).getD r_1.1.1.toNat PG0).2.2.2.1,()),d.1.1.2.2.2),d.1.2),()),r.2)
 else none
 else bif r_2.1.1 == 4 then (F_made_Tape_Next (r_2.2.1,3,())).bind
 fun (r:Ag)=>
 bif inB r_1.1.1 (d.1.1.2.2.1).length then some ((((d.1.1.1,d.1.1.2.1,(d.1.1.2.2.1).set r_1.1.1.toNat (((d.1.1.2.2.1).getD r_1.1.1.toNat PG0).1,r.1.1,((d.1.1.2.2.1).getD r_1.1.1.toNat PG0).2.2.1,((d.1.1.2.2.1).getD r_1.1.1.toNat PG0).2.2.2.1,()),d.1.1.2.2.2),d.1.2),()),r.2)
 else none
 else bif
 bif r_2.1.1 == 5 then inB r_1.1.1 (d.1.1.2.2.1).length
 else true then
 bif r_2.1.1 == 5 then (F_made_Tape_Next (r_2.2.1,9,())).bind
 fun (r:Ag)=>
 bif inB r_1.1.1 (d.1.1.2.2.1).length then some ((((d.1.1.1,d.1.1.2.1,(d.1.1.2.2.1).set r_1.1.1.toNat (((d.1.1.2.2.1).getD r_1.1.1.toNat PG0).1,((d.1.1.2.2.1).getD r_1.1.1.toNat PG0).2.1,W (W (((d.1.1.2.2.1).getD r_1.1.1.toNat PG0).2.2.1+r.1.1)-4),((d.1.1.2.2.1).getD r_1.1.1.toNat PG0).2.2.2.1,()),d.1.1.2.2.2),d.1.2),()),r.2)
 else none
 else bif r_2.1.1 == 6 then (F_made_Tape_Next (r_2.2.1,3,())).bind
 fun (r:Ag)=>
 bif inB r_1.1.1 (d.1.1.2.2.1).length then some ((((d.1.1.1,d.1.1.2.1,(d.1.1.2.2.1).set r_1.1.1.toNat (((d.1.1.2.2.1).getD r_1.1.1.toNat PG0).1,((d.1.1.2.2.1).getD r_1.1.1.toNat PG0).2.1,((d.1.1.2.2.1).getD r_1.1.1.toNat PG0).2.2.1,W (r.1.1-1),()),d.1.1.2.2.2),d.1.2),()),r.2)
 else none
 else bif r_2.1.1 == 7 then (F_made_Tape_Next (r_2.2.1,3,())).bind
 fun (r:Ag)=>some ((((d.1.1.1,d.1.1.2.1,d.1.1.2.2.1,r.1.1,d.1.1.2.2.2.2),d.1.2),()),r.2)
 else bif r_2.1.1 == 8 then (F_made_Tape_Next (r_2.2.1,W ((d.1.1.2.2.1.length:Int)+2),())).bind
 fun (r:Ag)=>some ((((d.1.1.1,d.1.1.2.1,d.1.1.2.2.1,d.1.1.2.2.2.1,W (r.1.1-1),()),d.1.2),()),r.2)
 else bif
 bif r_2.1.1 == 9 then true
 else bif r_2.1.1 == 10 then decide ((0:Int)<=1/\1<=(d.1.1.2.2.1.length:Int)/\(d.1.1.2.2.1.length:Int)<=(d.1.1.2.2.1.length:Int))
 else true then
 bif r_2.1.1 == 9 then some (((((W (d.1.1.1.1+4),d.1.1.1.2),d.1.1.2.1,d.1.1.2.2.1,d.1.1.2.2.2),d.1.2),()),r_2.2)
 else bif r_2.1.1 == 10 then some ((((d.1.1.1,d.1.1.2.1,List.take ((d.1.1.2.2.1.length:Int)-1).toNat (List.drop (Int.toNat 1) (d.1.1.2.2.1)),d.1.1.2.2.2),d.1.2),()),r_2.2)
 else bif r_2.1.1 == 11 then (rl Am As (fun (x:Am)=>
 bif decide (x.1.1<(x.2.2.1.length:Int)) then
 bif inB x.1.1 x.2.2.1.length then
 bif bif (x.2.2.1.getD x.1.1.toNat PG0).1 == 1 then inB x.1.1 x.2.2.1.length
 else true then
 bif (x.2.2.1.getD x.1.1.toNat PG0).1 == 1 then some (Sum.inl ((W (x.1.1+1),()),(),x.2.2.1.set x.1.1.toNat ((x.2.2.1.getD x.1.1.toNat PG0).1,(x.2.2.1.getD x.1.1.toNat PG0).2.1,(x.2.2.1.getD x.1.1.toNat PG0).2.2.1,1,()),()))
 else some (Sum.inl ((W (x.1.1+1),()),(),x.2.2))
 else none
 else none
 else some (Sum.inr ((),(),x.2.2))) ((0,()),(),d.1.1.2.2.1,())).bind
 fun (r:As)=>some ((((d.1.1.1,d.1.1.2.1,r.2.2.1,d.1.1.2.2.2),d.1.2),()),r_2.2)
 else some ((((d.1.1.1,d.1.1.2.1,d.1.1.2.2.1,d.1.1.2.2.2),d.1.2),()),r_2.2)
 else none
 else none
 else none
 else none
 else none:=by
  unfold F_made_World_Spoil
  funext d
  kernel_rfl
theorem zrq:F_page_size=fun (d:Ae)=>some ((W (d.1.1*d.1.2.1),()),()):=by
 unfold F_page_size
 funext d
 kernel_rfl
theorem zh4:F_page_table_free=fun (d:AM)=>
 bif inB d.2.1 d.1.2.1.length then some ((((d.1.2.1.getD d.2.1.toNat PG0).1,(d.1.2.1.getD d.2.1.toNat PG0).2.1,(d.1.2.1.getD d.2.1.toNat PG0).2.2.1,(d.1.2.1.getD d.2.1.toNat PG0).2.2.2.1,()).1 == PG0.1&&(((d.1.2.1.getD d.2.1.toNat PG0).1,(d.1.2.1.getD d.2.1.toNat PG0).2.1,(d.1.2.1.getD d.2.1.toNat PG0).2.2.1,(d.1.2.1.getD d.2.1.toNat PG0).2.2.2.1,()).2.1 == PG0.2.1&&(((d.1.2.1.getD d.2.1.toNat PG0).1,(d.1.2.1.getD d.2.1.toNat PG0).2.1,(d.1.2.1.getD d.2.1.toNat PG0).2.2.1,(d.1.2.1.getD d.2.1.toNat PG0).2.2.2.1,()).2.2.1 == PG0.2.2.1&&(((d.1.2.1.getD d.2.1.toNat PG0).1,(d.1.2.1.getD d.2.1.toNat PG0).2.1,(d.1.2.1.getD d.2.1.toNat PG0).2.2.1,(d.1.2.1.getD d.2.1.toNat PG0).2.2.2.1,()).2.2.2.1 == PG0.2.2.2.1&&true))),()),())
 else none:=by
  unfold F_page_table_free
  funext d
  kernel_rfl
theorem zhh:F_page_table_small=fun (d:AM)=>
 bif inB d.2.1 d.1.2.1.length then (F_page_isSpace ((d.1.2.1.getD d.2.1.toNat PG0).2.1,())).bind
 fun (r:A5)=>
 bif r.1.1 then (F_page_within ((d.1.2.1.getD d.2.1.toNat PG0).2.2.1,0,d.1.1.1,())).bind
 fun (r:A5)=>
 bif r.1.1 then (F_page_isPins (d.1.2.1.getD d.2.1.toNat PG0).2.2.2).bind
 fun (r:A5)=>some r
 else some ((false,()),())
 else some ((false,()),())
 else none:=by
  unfold F_page_table_small
  funext d
  kernel_rfl
theorem zh5:F_page_SmallWords=fun (d:Ae)=>(F_page_ValidConf d).bind
 fun (r:A5)=>
 bif !r.1.1 then some ((0,()),())
 else bif !4 == 0 then some ((W (d.1.1.tdiv 4),()),())
 else none:=by
  unfold F_page_SmallWords
  funext d
  kernel_rfl
theorem zhj:F_page_table_large=fun (d:AM)=>
 bif inB d.2.1 d.1.2.1.length then (F_page_Need (d.1.1,(d.1.2.1.getD d.2.1.toNat PG0).2.2.1,())).bind
 fun (r:Aa)=>(F_page_isSpace ((d.1.2.1.getD d.2.1.toNat PG0).2.1,())).bind
 fun (r_1:A5)=>
 bif !r_1.1.1 then some ((false,()),())
 else bif decide (r.1.1<1) then some ((false,()),())
 else (F_page_isPins (d.1.2.1.getD d.2.1.toNat PG0).2.2.2).bind
 fun (r_2:A5)=>
 bif bif !r_2.1.1 then true
 else decide (W (d.2.1+r.1.1) > (d.1.2.1.length:Int)) then some ((false,()),())
 else bif decide (0<=W (d.2.1+1)/\W (d.2.1+1)<=W (d.2.1+r.1.1)/\W (d.2.1+r.1.1)<=(d.1.2.1.length:Int)) then (rl Ab A8 (fun (x:Ab)=>
 bif decide (x.1.2.1<((List.drop (W (d.2.1+1)).toNat (List.take (W (d.2.1+r.1.1)).toNat d.1.2.1)).length:Int)) then
 bif inB x.1.2.1 (List.drop (W (d.2.1+1)).toNat (List.take (W (d.2.1+r.1.1)).toNat d.1.2.1)).length then
 bif bif ((List.drop (W (d.2.1+1)).toNat (List.take (W (d.2.1+r.1.1)).toNat d.1.2.1)).getD x.1.2.1.toNat PG0).1 != 3 then true
 else ((List.drop (W (d.2.1+1)).toNat (List.take (W (d.2.1+r.1.1)).toNat d.1.2.1)).getD x.1.2.1.toNat PG0).2.1 != (d.1.2.1.getD d.2.1.toNat PG0).2.1 then some (Sum.inr (Sum.inl ((false,()),(),())))
 else some (Sum.inl ((x.1.1,W (x.1.2.1+1),()),(),()))
 else none
 else some (Sum.inr (Sum.inr ((x.1.1,()),(),())))) ((false,0,()),(),())).bind
 fun (r:A8)=>Sum.elim (fun (x:Af)=>some (x.1,())) (fun (y:Af)=>some ((true,()),())) r
 else none
 else none:=by
  unfold F_page_table_large
  funext d
  kernel_rfl
theorem zvQ:F_page_Of=fun (d:Ah×Int×Unit)=>(F_page_ValidConf (d.1,())).bind
 fun (r:A5)=>
 bif !r.1.1 then some ((0,0,1,()),())
 else bif decide (d.2.1<4096) then some ((0,0,2,()),())
 else (F_page_size (d.1,())).bind
 fun (r:Aa)=>
 bif decide (U (d.2.1-4096) >= U r.1.1) then some ((0,0,2,()),())
 else bif !d.1.1 == 0 then
 bif !d.1.1 == 0 then some ((W ((W (U (d.2.1-4096))).tdiv d.1.1),(W (U (d.2.1-4096))).tmod d.1.1,0,()),())
 else none
 else none:=by
  unfold F_page_Of
  funext d
  kernel_rfl
theorem zkX:F_object_reader=fun (d:AY)=>some ((d,()),()):=by
 unfold F_object_reader
 funext d
 kernel_rfl
theorem zmo:F_arena_locate=fun (d:AX)=>
 bif decide (d.2.2.1<0) then some ((0,1,()),())
 else bif decide (d.2.1<4096) then some ((0,2,()),())
 else bif
 bif decide (U (d.2.1-4096) > U (d.1.length:Int)) then true
 else decide (U d.2.2.1 > U (U (d.1.length:Int)-U (d.2.1-4096))) then some ((0,2,()),())
 else some ((W (U (d.2.1-4096)),0,()),()):=by
  unfold F_arena_locate
  funext d
  kernel_rfl
theorem znV:F_arena_Index=fun (d:A4)=>(F_arena_locate (d.1,d.2.1,1,())).bind
 fun (r:Ae)=>some r:=by
  unfold F_arena_Index
  funext d
  kernel_rfl
theorem zpI:F_arena_Load=fun (d:A4)=>(F_arena_Index d).bind
 fun (r:Ae)=>
 bif r.1.2.1 != 0 then some ((0,r.1.2),())
 else bif inB r.1.1 d.1.length then some ((d.1.getD r.1.1.toNat 0,0,()),())
 else none:=by
  unfold F_arena_Load
  funext d
  kernel_rfl
theorem zf5:F_object_reader_S1_c=fun (d:Int×A2×Unit)=>(F_arena_Load (d.2.1.2.1,d.1,())).bind
 fun (r:Ae)=>some (r.1,d.2):=by
  unfold F_object_reader_S1_c
  funext d
  kernel_rfl
theorem zhn:F_bits_Unpack_S1_c=fun (d:Int×List Int×Unit)=>
 bif inB d.1 d.2.1.length then some ((d.2.1.getD d.1.toNat 0,()),d.2)
 else none:=by
  unfold F_bits_Unpack_S1_c
  funext d
  kernel_rfl
theorem zrv:F_bits_Ones=fun (d:Aw)=>
 bif decide (d.1<0) then some ((0,()),())
 else bif !decide (d.1<0) then some ((U (U (1*2 ^ min d.1.toNat IntKind.u64.bits)-1),()),())
 else none:=by
  unfold F_bits_Ones
  funext d
  kernel_rfl
theorem zrs:F_object_At=fun (d:AB)=>(F_page_Proper (d.1,())).bind
 fun (r:A5)=>
 bif !r.1.1 then some (((0,0,0,()),1,()),())
 else (F_page_Of (d.1.1,d.2)).bind
 fun (r:B0)=>
 bif r.1.2.2.1 != 0 then some (((0,0,0,()),r.1.2.2),())
 else (F_object_reader (d.1,())).bind
 fun (r_1:((HpD×Unit)×Unit)×Unit)=>(F_object_reader_S1_c (d.2.1,r_1.1.1)).bind
 fun (r_2:Ah×HpD×Unit)=>
 bif r_2.1.2.1 != 0 then some (((0,0,0,()),r_2.1.2),())
 else (F_header_Decode (r_2.1.1,())).bind
 fun (r_3:(A7×Bool×Unit)×Unit)=>
 bif bif !r_3.1.2.1 then true
 else inB r.1.1 d.1.2.2.1.length then
 bif !r_3.1.2.1 then some (((0,0,0,()),19,()),())
 else (F_header_Size (r_3.1.1,())).bind
 fun (r_4:Aa)=>(F_object_fits (d.1.2.2.1.getD r.1.1.toNat PG0,r.1.2.1,r_4.1)).bind
 fun (r:A5)=>
 bif !r.1.1 then some (((0,0,0,()),19,()),())
 else some ((r_3.1.1,0,()),())
 else none:=by
  unfold F_object_At
  funext d
  kernel_rfl
theorem zfu:F_audit_partsOf=fun (d:AB)=>(F_walk_Page d).bind
 fun (r:AN)=>
 bif r.1.2.1 != 0 then some (([],r.1.2),())
 else (rl ((List Az×Int×Unit×Int×Unit)×(List Az×Unit)×Unit) ((List Az×Int×Unit)×Unit×Unit⊕(List Az×Int×Unit×Unit)×(List Az×Unit)×Unit) (fun (x:(List Az×Int×Unit×Int×Unit)×(List Az×Unit)×Unit)=>
 bif decide (x.1.2.2.2.1<(r.1.1.length:Int)) then
 bif inB x.1.2.2.2.1 r.1.1.length then (F_object_At (d.1,r.1.1.getD x.1.2.2.2.1.toNat 0,())).bind
 fun (r_1:Au×Unit)=>
 bif r_1.1.2.1 != 0 then some (Sum.inr (Sum.inl (([],r_1.1.2),(),())))
 else bif zaA (x.2.1.1.length + [(r.1.1.getD x.1.2.2.2.1.toNat 0,(r_1.1.1.1,r_1.1.1.2.1,r_1.1.1.2.2.1,()),())].length) 32 then some (Sum.inl ((x.1.1,x.1.2.1,(),W (x.1.2.2.2.1+1),()),(x.2.1.1++[(r.1.1.getD x.1.2.2.2.1.toNat 0,(r_1.1.1.1,r_1.1.1.2.1,r_1.1.1.2.2.1,()),())],()),()))
 else none
 else none
 else some (Sum.inr (Sum.inr ((x.1.1,x.1.2.1,(),()),x.2)))) (([],0,(),0,()),([],()),())).bind
 fun (r:(List Az×Int×Unit)×Unit×Unit⊕(List Az×Int×Unit×Unit)×(List Az×Unit)×Unit)=>Sum.elim (fun (x:(List Az×Int×Unit)×Unit×Unit)=>some (x.1,())) (fun (y:(List Az×Int×Unit×Unit)×(List Az×Unit)×Unit)=>some ((y.2.1.1,0,()),())) r:=by
  unfold F_audit_partsOf
  funext d
  kernel_rfl
theorem zbA:F_cmp_Or_audit_Finding=fun (d:(List A7)×Unit)=>(rl Ak A6 (fun (x:Ak)=>
 bif decide (x.1.1<(d.1.length:Int)) then
 bif inB x.1.1 d.1.length then
 bif !(((d.1.getD x.1.1.toNat (0,0,0,())).1,(d.1.getD x.1.1.toNat (0,0,0,())).2.1,(d.1.getD x.1.1.toNat (0,0,0,())).2.2.1,()).1 == (0,0,0,()).1&&(((d.1.getD x.1.1.toNat (0,0,0,())).1,(d.1.getD x.1.1.toNat (0,0,0,())).2.1,(d.1.getD x.1.1.toNat (0,0,0,())).2.2.1,()).2.1 == (0,0,0,()).2.1&&(((d.1.getD x.1.1.toNat (0,0,0,())).1,(d.1.getD x.1.1.toNat (0,0,0,())).2.1,(d.1.getD x.1.1.toNat (0,0,0,())).2.2.1,()).2.2.1 == (0,0,0,()).2.2.1&&true))) then some (Sum.inr (Sum.inl ((),(),d.1.getD x.1.1.toNat (0,0,0,()),())))
 else some (Sum.inl ((W (x.1.1+1),()),(),x.2.2))
 else none
 else some (Sum.inr (Sum.inr ((),(),x.2.2)))) ((0,()),(),(0,0,0,()),())).bind
 fun (r:A6)=>Sum.elim (fun (x:Aq)=>some (x.2.2,())) (fun (y:Aq)=>some (((0,0,0,()),()),())) r:=by
  unfold F_cmp_Or_audit_Finding
  funext d
  kernel_rfl
theorem zmc:F_walk_Objects=fun (d:AY)=>(F_walk_inHeap d).bind
 fun (r:((HpD×Unit)×Unit)×Unit)=>(F_walk_list_c_walk_inHeap_S1_walk_isObject r.1.1).bind
 fun (r:A4×HpD×Unit)=>some (r.1,()):=by
  unfold F_walk_Objects
  funext d
  kernel_rfl
theorem zif:F_cmp_Less_uint64=fun (d:Ah)=>(F_cmp_isNaN_uint64 (d.1,())).bind
 fun (r:A5)=>
 bif r.1.1 then (F_cmp_isNaN_uint64 d.2).bind
 fun (r:A5)=>some ((bif !r.1.1 then true
 else decide (d.1<d.2.1),()),())
 else some ((decide (d.1<d.2.1),()),()):=by
  unfold F_cmp_Less_uint64
  funext d
  kernel_rfl
theorem zfF:F_slices_isNaN_uint64=fun (d:Aw)=>some ((d.1 != d.1,()),()):=by
 unfold F_slices_isNaN_uint64
 funext d
 kernel_rfl
theorem znS:F_audit_Check=fun (d:AY)=>(F_page_Proper d).bind
 fun (r:A5)=>
 bif !r.1.1 then some (((1,0,0,()),()),())
 else (rl Ak A6 (fun (x:Ak)=>
 bif decide (x.1.1<(d.1.2.2.1.length:Int)) then (F_audit_checkPage (d.1,x.1)).bind
 fun (r:Ax)=>
 bif !((r.1.1.1,r.1.1.2.1,r.1.1.2.2.1,()).1 == (0,0,0,()).1&&((r.1.1.1,r.1.1.2.1,r.1.1.2.2.1,()).2.1 == (0,0,0,()).2.1&&((r.1.1.1,r.1.1.2.1,r.1.1.2.2.1,()).2.2.1 == (0,0,0,()).2.2.1&&true))) then some (Sum.inr (Sum.inl ((),(),r.1)))
 else some (Sum.inl ((W (x.1.1+1),()),(),x.2.2))
 else some (Sum.inr (Sum.inr ((),(),x.2.2)))) ((0,()),(),(0,0,0,()),())).bind
 fun (r:A6)=>Sum.elim (fun (x:Aq)=>some (x.2.2,())) (fun (y:Aq)=>(F_audit_checkPointers d).bind
 fun (r:Ax)=>(F_audit_checkCrowd d).bind
 fun (r_1:Ax)=>(F_cmp_Or_audit_Finding ([(r.1.1.1,r.1.1.2.1,r.1.1.2.2.1,()),(r_1.1.1.1,r_1.1.1.2.1,r_1.1.1.2.2.1,())],())).bind
 fun (r:Ax)=>some r) r:=by
  unfold F_audit_Check
  funext d
  kernel_rfl
theorem zpG:F_audit_Good=fun (d:AY)=>(F_audit_Check d).bind
 fun (r:Ax)=>some (((r.1.1.1,r.1.1.2.1,r.1.1.2.2.1,()).1 == (0,0,0,()).1&&((r.1.1.1,r.1.1.2.1,r.1.1.2.2.1,()).2.1 == (0,0,0,()).2.1&&((r.1.1.1,r.1.1.2.1,r.1.1.2.2.1,()).2.2.1 == (0,0,0,()).2.2.1&&true)),()),()):=by
  unfold F_audit_Good
  funext d
  kernel_rfl
theorem zkW:F_r04_SamePages=fun (d:(List PgD)×(List PgD)×Unit)=>
 bif (d.1.length:Int) != (d.2.1.length:Int) then some ((false,()),())
 else (rl Ab A8 (fun (x:Ab)=>
 bif decide (x.1.2.1<(d.1.length:Int)) then
 bif inB x.1.2.1 d.1.length then
 bif inB x.1.2.1 d.2.1.length then
 bif !(((d.1.getD x.1.2.1.toNat PG0).1,(d.1.getD x.1.2.1.toNat PG0).2.1,(d.1.getD x.1.2.1.toNat PG0).2.2.1,(d.1.getD x.1.2.1.toNat PG0).2.2.2.1,()).1 == ((d.2.1.getD x.1.2.1.toNat PG0).1,(d.2.1.getD x.1.2.1.toNat PG0).2.1,(d.2.1.getD x.1.2.1.toNat PG0).2.2.1,(d.2.1.getD x.1.2.1.toNat PG0).2.2.2.1,()).1&&(((d.1.getD x.1.2.1.toNat PG0).1,(d.1.getD x.1.2.1.toNat PG0).2.1,(d.1.getD x.1.2.1.toNat PG0).2.2.1,(d.1.getD x.1.2.1.toNat PG0).2.2.2.1,()).2.1 == ((d.2.1.getD x.1.2.1.toNat PG0).1,(d.2.1.getD x.1.2.1.toNat PG0).2.1,(d.2.1.getD x.1.2.1.toNat PG0).2.2.1,(d.2.1.getD x.1.2.1.toNat PG0).2.2.2.1,()).2.1&&(((d.1.getD x.1.2.1.toNat PG0).1,(d.1.getD x.1.2.1.toNat PG0).2.1,(d.1.getD x.1.2.1.toNat PG0).2.2.1,(d.1.getD x.1.2.1.toNat PG0).2.2.2.1,()).2.2.1 == ((d.2.1.getD x.1.2.1.toNat PG0).1,(d.2.1.getD x.1.2.1.toNat PG0).2.1,(d.2.1.getD x.1.2.1.toNat PG0).2.2.1,(d.2.1.getD x.1.2.1.toNat PG0).2.2.2.1,()).2.2.1&&(((d.1.getD x.1.2.1.toNat PG0).1,(d.1.getD x.1.2.1.toNat PG0).2.1,(d.1.getD x.1.2.1.toNat PG0).2.2.1,(d.1.getD x.1.2.1.toNat PG0).2.2.2.1,()).2.2.2.1 == ((d.2.1.getD x.1.2.1.toNat PG0).1,(d.2.1.getD x.1.2.1.toNat PG0).2.1,(d.2.1.getD x.1.2.1.toNat PG0).2.2.1,(d.2.1.getD x.1.2.1.toNat PG0).2.2.2.1,()).2.2.2.1&&true)))) then some (Sum.inr (Sum.inl ((false,()),(),())))
 else some (Sum.inl ((x.1.1,W (x.1.2.1+1),()),(),()))
 else none
 else none
 else some (Sum.inr (Sum.inr ((x.1.1,()),(),())))) ((false,0,()),(),())).bind
 fun (r:A8)=>Sum.elim (fun (x:Af)=>some (x.1,())) (fun (y:Af)=>some ((true,()),())) r:=by
  unfold F_r04_SamePages
  funext d
  kernel_rfl
theorem zcJ:F_slices_Index_uint64=fun (d:A4)=>(rl Ap Ai (fun (x:Ap)=>
 bif decide (x.1.2.1<(d.1.length:Int)) then
 bif inB x.1.2.1 d.1.length then
 bif d.2.1 == d.1.getD x.1.2.1.toNat 0 then some (Sum.inr (Sum.inl (x.1.2,(),())))
 else some (Sum.inl ((x.1.1,W (x.1.2.1+1),()),(),()))
 else none
 else some (Sum.inr (Sum.inr ((x.1.1,()),(),())))) ((0,0,()),(),())).bind
 fun (r:Ai)=>Sum.elim (fun (x:Ad)=>some (x.1,())) (fun (y:Ad)=>some ((-1,()),())) r:=by
  unfold F_slices_Index_uint64
  funext d
  kernel_rfl
theorem zkY:F_header_Target=fun (d:Aw)=>(F_bits_Unpack (d.1,[2,32],())).bind
 fun (r:AN)=>
 bif bif r.1.2.1 != 0 then true
 else inB 0 r.1.1.length then
 bif bif r.1.2.1 != 0 then true
 else r.1.1.getD (Int.toNat 0) 0 != 2 then some ((0,false,()),())
 else bif inB 1 r.1.1.length then some ((r.1.1.getD (Int.toNat 1) 0,true,()),())
 else none
 else none:=by
  unfold F_header_Target
  funext d
  kernel_rfl
theorem zgO:F_evacuate_setSpace=fun (d:AB)=>(F_evacuate_newSpace (d.1,())).bind
 fun (r:Aa)=>
 bif inB d.2.1 d.1.2.2.1.length then (rl Am As (fun (x:Am)=>(F_evacuate_isPage ((d.1.1,d.1.2.1,x.2.2.1,d.1.2.2.2),x.1)).bind
 fun (r:A5)=>
 bif bif r.1.1 then inB x.1.1 x.2.2.1.length
 else true then
 bif bif r.1.1 then (x.2.2.1.getD x.1.1.toNat PG0).1 == 3
 else false then (F_evacuate_newSpace ((d.1.1,d.1.2.1,x.2.2.1,d.1.2.2.2),())).bind
 fun (r:Aa)=>
 bif inB x.1.1 x.2.2.1.length then some (Sum.inl ((W (x.1.1+1),()),(),x.2.2.1.set x.1.1.toNat ((x.2.2.1.getD x.1.1.toNat PG0).1,r.1.1,(x.2.2.1.getD x.1.1.toNat PG0).2.2.1,(x.2.2.1.getD x.1.1.toNat PG0).2.2.2.1,()),()))
 else none
 else some (Sum.inr ((),(),x.2.2))
 else none) ((W (d.2.1+1),()),(),d.1.2.2.1.set d.2.1.toNat ((d.1.2.2.1.getD d.2.1.toNat PG0).1,r.1.1,(d.1.2.2.1.getD d.2.1.toNat PG0).2.2.1,(d.1.2.2.1.getD d.2.1.toNat PG0).2.2.2.1,()),())).bind
 fun (r:As)=>some ((),(d.1.1,d.1.2.1,r.2.2.1,d.1.2.2.2),())
 else none:=by
  unfold F_evacuate_setSpace
  funext d
  kernel_rfl
theorem zeM:F_evacuate_copying_last=fun (d:AF)=>
 bif (d.1.1.2.2.1.length:Int) == 0 then some ((-1,()),d)
 else bif inB (W ((d.1.1.2.2.1.length:Int)-1)) d.1.1.2.2.1.length then some ((d.1.1.2.2.1.getD (W ((d.1.1.2.2.1.length:Int)-1)).toNat 0,()),d)
 else none:=by
  unfold F_evacuate_copying_last
  funext d
  kernel_rfl
theorem zeN:F_evacuate_copying_fits=fun (d:AF)=>(F_evacuate_copying_last d).bind
 fun (r:At)=>(F_evacuate_isPage (r.2.1.1.1,r.1)).bind
 fun (r_1:A5)=>
 bif bif r_1.1.1 then inB r.1.1 r.2.1.1.1.2.2.1.length
 else true then some ((bif r_1.1.1 then decide (W ((r.2.1.1.1.2.2.1.getD r.1.1.toNat PG0).2.2.1+r.2.1.2.1)<=r.2.1.1.1.1.1)
 else false,()),r.2)
 else none:=by
  unfold F_evacuate_copying_fits
  funext d
  kernel_rfl
theorem zh6:F_page_First=fun (d:(List PgD)×Int×Unit)=>
 bif decide (d.2.1<1) then some ((-1,()),())
 else (F_page_Runs (d.1,())).bind
 fun (r:Ay×Unit)=>(rl Ap Ai (fun (x:Ap)=>
 bif decide (x.1.2.1<(r.1.1.length:Int)) then
 bif inB x.1.2.1 r.1.1.length then
 bif decide ((r.1.1.getD x.1.2.1.toNat (0,0,())).2.1 >= d.2.1) then some (Sum.inr (Sum.inl (((r.1.1.getD x.1.2.1.toNat (0,0,())).1,()),(),())))
 else some (Sum.inl ((x.1.1,W (x.1.2.1+1),()),(),()))
 else none
 else some (Sum.inr (Sum.inr ((x.1.1,()),(),())))) ((0,0,()),(),())).bind
 fun (r:Ai)=>Sum.elim (fun (x:Ad)=>some (x.1,())) (fun (y:Ad)=>some ((-1,()),())) r:=by
  unfold F_page_First
  funext d
  kernel_rfl
theorem zij:F_arena_duplicate=fun (d:A9)=>
 bif decide (0<=(d.1.length:Int)/\(d.1.length:Int)<=(d.1.length:Int)) then
 bif zaA ((d.1.length:Int)).toNat 8 then some ((List.take (List.replicate ((d.1.length:Int)).toNat (0:Int)).length d.1++List.drop d.1.length (List.replicate ((d.1.length:Int)).toNat (0:Int)),()),())
 else none
 else none:=by
  unfold F_arena_duplicate
  funext d
  kernel_rfl
theorem zpH:F_arena_Move=fun (d:List Int×Int×Int×Int×Unit)=>(F_arena_locate (d.1,d.2.1,d.2.2.2)).bind
 fun (r:Ae)=>
 bif r.1.2.1 != 0 then some (([],r.1.2),())
 else (F_arena_locate (d.1,d.2.2)).bind
 fun (r_1:Ae)=>
 bif r_1.1.2.1 != 0 then some (([],r_1.1.2),())
 else (F_arena_duplicate (d.1,())).bind
 fun (r_2:A9×Unit)=>
 bif decide (0<=r.1.1/\r.1.1<=(r_2.1.1.length:Int)/\(r_2.1.1.length:Int)<=(r_2.1.1.length:Int)) then
 bif decide (0<=r_1.1.1/\r_1.1.1<=W (r_1.1.1+d.2.2.2.1)/\W (r_1.1.1+d.2.2.2.1)<=(r_2.1.1.length:Int)) then some ((List.take r.1.1.toNat r_2.1.1++(List.take ((r_2.1.1.length:Int)-r.1.1).toNat (List.take (W (r_1.1.1+d.2.2.2.1)-r_1.1.1).toNat (List.drop r_1.1.1.toNat r_2.1.1))++List.drop (r.1.1.toNat+min (List.take (W (r_1.1.1+d.2.2.2.1)-r_1.1.1).toNat (List.drop r_1.1.1.toNat r_2.1.1)).length ((r_2.1.1.length:Int)-r.1.1).toNat) r_2.1.1),0,()),())
 else none
 else none:=by
  unfold F_arena_Move
  funext d
  kernel_rfl
theorem zjF:F_bits_Pack_S1_c=fun (d:Int×(List Ah)×Unit)=>
 bif inB d.1 d.2.1.length then some (((d.2.1.getD d.1.toNat (0,0,())).1,()),d.2)
 else none:=by
  unfold F_bits_Pack_S1_c
  funext d
  kernel_rfl
theorem zdO:F_evacuate_Forward=fun (d:AW)=>
 bif d.2.1 == 0 then (F_evacuate_owned (d.1,())).bind
 fun (r:AL)=>some ((r.1.1,d.2.1,0,()),())
 else (F_slices_Contains_uint64 (d.1.2.2.2.1,d.2)).bind
 fun (r:A5)=>
 bif r.1.1 then (F_evacuate_owned (d.1,())).bind
 fun (r:AL)=>some ((r.1.1,d.2.1,0,()),())
 else (F_slices_Contains_uint64 (d.1.2.1,d.2)).bind
 fun (r:A5)=>
 bif !r.1.1 then some (((H0,[],[],[],0,(0,0,0,0,0,0,()),()),0,19,()),())
 else (F_evacuate_copied (d.1.1,d.2)).bind
 fun (r:AG)=>
 bif r.1.2.1 then (F_evacuate_owned (d.1,())).bind
 fun (r_1:AL)=>some ((r_1.1.1,r.1.1,0,()),())
 else (F_object_At (d.1.1,d.2)).bind
 fun (r:Au×Unit)=>
 bif r.1.2.1 != 0 then some (((H0,[],[],[],0,(0,0,0,0,0,0,()),()),0,19,()),())
 else (F_evacuate_owned (d.1,())).bind
 fun (r_1:AL)=>(F_header_Size (r.1.1,())).bind
 fun (r:Aa)=>(F_evacuate_see (r_1.1.1,d.2.1,r.1)).bind
 fun (r:AU)=>some r:=by
  unfold F_evacuate_Forward
  funext d
  kernel_rfl
end Go.VI
namespace Go.VI
open Go
theorem zkV:F_r04_ValidConf=fun (d:Ae)=>
 bif bif decide (d.1.1 >= 16) then
 bif decide (d.1.1<=64) then !4 == 0
 else true
 else true then some ((bif decide (d.1.1 >= 16) then
 bif decide (d.1.1<=64) then
 bif d.1.1.tmod 4 == 0 then
 bif decide (d.1.2.1 >= 8) then decide (d.1.2.1<=64)
 else false
 else false
 else false
 else false,()),())
 else none:=by
  unfold F_r04_ValidConf
  funext d
  kernel_rfl
theorem zpy:F_r03_Encode=fun (d:B0)=>(F_r03_Valid d).bind
 fun (r:A5)=>
 bif !r.1.1 then some ((0,1,()),())
 else bif !decide (16<0) then some ((U (U (U (1+U (4*U d.1.1))+U (16*U d.1.2.1))+U (U d.1.2.2.1*2 ^ min (Int.toNat 16) IntKind.u64.bits)),0,()),())
 else none:=by
  unfold F_r03_Encode
  funext d
  kernel_rfl
theorem ztn:F_r02_span=fun (d:AX)=>
 bif bif decide (d.2.1<4096) then true
 else decide (d.2.1 > U (4096+U (d.1.length:Int))) then some ((0,false,()),())
 else some ((W (U (d.2.1-4096)),decide (d.2.2.1<=W ((d.1.length:Int)-W (U (d.2.1-4096)))),()),()):=by
  unfold F_r02_span
  funext d
  kernel_rfl
theorem zvM:F_r07_New=fun (d:A2×A7×Unit)=>(F_r04_Proper (d.1,())).bind
 fun (r:A5)=>
 bif !r.1.1 then some ((H0,0,1,()),())
 else (F_r07_Asks (d.1.1,d.2)).bind
 fun (r:A5)=>
 bif !r.1.1 then some ((H0,0,1,()),())
 else (F_r03_Size d.2).bind
 fun (r:Aa)=>(F_r04_Need (d.1.1,r.1)).bind
 fun (r_1:Aa)=>(F_r07_small (d.1,r.1)).bind
 fun (r_2:(HpD×Int×Bool×Unit)×Unit)=>
 bif decide (r_1.1.1 > 0) then (F_r07_large (d.1,r.1.1,r_1.1)).bind
 fun (r:(HpD×Int×Bool×Unit)×Unit)=>
 bif !r.1.2.2.1 then some ((H0,0,3,()),())
 else (F_r05_Init (r.1.1,r.1.2.1,d.2)).bind
 fun (r_3:AJ)=>some ((r_3.1.1,r.1.2.1,0,()),())
 else bif !r_2.1.2.2.1 then some ((H0,0,3,()),())
 else (F_r05_Init (r_2.1.1,r_2.1.2.1,d.2)).bind
 fun (r:AJ)=>some ((r.1.1,r_2.1.2.1,0,()),()):=by
  unfold F_r07_New
  funext d
  kernel_rfl
theorem zeI:F_made_World_Put=fun (d:Av×A7×Unit)=>(F_r07_New (d.1.1,d.2)).bind
 fun (r:(HpD×Int×Int×Unit)×Unit)=>
 bif bif r.1.2.2.1 == 0 then zaA (0+d.1.2.1.length) 8
 else true then
 bif bif r.1.2.2.1 == 0 then zaA ((d.1.2.1).length + [r.1.2.1].length) 8
 else true then
 bif r.1.2.2.1 == 0 then some (((r.1.1,d.1.2.1++[r.1.2.1],d.1.2.2),()),())
 else some ((d.1,()),())
 else none
 else none:=by
  unfold F_made_World_Put
  funext d
  kernel_rfl
theorem zxx:F_r05_At=fun (d:AB)=>(F_r04_Proper (d.1,())).bind
 fun (r:A5)=>
 bif !r.1.1 then some (((0,0,0,()),1,()),())
 else (F_r04_Of (d.1.1,d.2)).bind
 fun (r:B0)=>
 bif r.1.2.2.1 != 0 then some (((0,0,0,()),2,()),())
 else bif inB r.1.1 d.1.2.2.1.length then (F_r02_Load (d.1.2.1,d.2)).bind
 fun (r_1:Ae)=>(F_r03_Decode (r_1.1.1,())).bind
 fun (r_2:(A7×Bool×Unit)×Unit)=>
 bif bif (d.1.2.2.1.getD r.1.1.toNat PG0).1 != 1 then
 bif (d.1.2.2.1.getD r.1.1.toNat PG0).1 != 2 then true
 else bif decide (r.1.2.1 >= (d.1.2.2.1.getD r.1.1.toNat PG0).2.2.1) then true
 else !r_2.1.2.1
 else bif decide (r.1.2.1 >= (d.1.2.2.1.getD r.1.1.toNat PG0).2.2.1) then true
 else !r_2.1.2.1 then some (((0,0,0,()),19,()),())
 else (F_r03_Size (r_2.1.1,())).bind
 fun (r_3:Aa)=>
 bif bif (d.1.2.2.1.getD r.1.1.toNat PG0).1 == 1 then
 bif decide (W (r.1.2.1+r_3.1.1) > (d.1.2.2.1.getD r.1.1.toNat PG0).2.2.1) then true
 else bif (d.1.2.2.1.getD r.1.1.toNat PG0).1 == 2 then
 bif r.1.2.1 != 0 then true
 else r_3.1.1 != (d.1.2.2.1.getD r.1.1.toNat PG0).2.2.1
 else false
 else bif (d.1.2.2.1.getD r.1.1.toNat PG0).1 == 2 then
 bif r.1.2.1 != 0 then true
 else r_3.1.1 != (d.1.2.2.1.getD r.1.1.toNat PG0).2.2.1
 else false then some (((0,0,0,()),19,()),())
 else some ((r_2.1.1,0,()),())
 else none:=by
  unfold F_r05_At
  funext d
  kernel_rfl
theorem zro:F_r02_Store=fun (d:AX)=>(F_r02_Write (d.1,d.2.1,[d.2.2.1],())).bind
 fun (r:AN)=>some r:=by
  unfold F_r02_Store
  funext d
  kernel_rfl
theorem zs9:F_r09_head=fun (d:AB)=>(rl Ad Ad (fun (x:Ad)=>
 bif inB x.1.1 d.1.2.2.1.length then
 bif (d.1.2.2.1.getD x.1.1.toNat PG0).1 == 3 then some (Sum.inl ((W (x.1.1-1),()),(),()))
 else some (Sum.inr (x.1,(),()))
 else none) (d.2,(),())).bind
 fun (r:Ad)=>some (r.1,()):=by
  unfold F_r09_head
  funext d
  kernel_rfl
theorem zs7:F_r09_used=fun (d:A2×Int×List Int×Unit)=>
 bif decide (0<=d.1.1.1/\d.1.1.1<=d.1.1.1) then
 bif zaA d.1.1.1.toNat 1 then (rl B5 B2 (fun (x:B5)=>
 bif decide (x.1.1<(d.2.2.1.length:Int)) then
 bif inB x.1.1 d.2.2.1.length then (F_r05_At (d.1,d.2.2.1.getD x.1.1.toNat 0,())).bind
 fun (r:Au×Unit)=>(F_r03_Size (r.1.1,())).bind
 fun (r_1:Aa)=>(rl B5 B2 (fun (x_1:B5)=>
 bif decide (x_1.1.1 <
 bif r.1.1.1 == 0 then 1
 else r_1.1.1) then
 bif inB x.1.1 d.2.2.1.length then
 bif bif
 bif decide (W (W (W (W (d.2.2.1.getD x.1.1.toNat 0)-4096)+x_1.1.1)-W (d.2.1*d.1.1.1)) >= 0) then decide (W (W (W (W (d.2.2.1.getD x.1.1.toNat 0)-4096)+x_1.1.1)-W (d.2.1*d.1.1.1))<(x_1.2.2.1.length:Int))
 else false then inB (W (W (W (W (d.2.2.1.getD x.1.1.toNat 0)-4096)+x_1.1.1)-W (d.2.1*d.1.1.1))) x_1.2.2.1.length
 else true then
 bif bif decide (W (W (W (W (d.2.2.1.getD x.1.1.toNat 0)-4096)+x_1.1.1)-W (d.2.1*d.1.1.1)) >= 0) then decide (W (W (W (W (d.2.2.1.getD x.1.1.toNat 0)-4096)+x_1.1.1)-W (d.2.1*d.1.1.1))<(x_1.2.2.1.length:Int))
 else false then some (Sum.inl ((W (x_1.1.1+1),()),(),x_1.2.2.1.set (W (W (W (W (d.2.2.1.getD x.1.1.toNat 0)-4096)+x_1.1.1)-W (d.2.1*d.1.1.1))).toNat true,()))
 else some (Sum.inl ((W (x_1.1.1+1),()),(),x_1.2.2))
 else none
 else none
 else some (Sum.inr ((),(),x_1.2.2))) ((0,()),(),x.2.2)).bind
 fun (r:B2)=>some (Sum.inl ((W (x.1.1+1),()),(),r.2.2))
 else none
 else some (Sum.inr ((),(),x.2.2))) ((0,()),(),List.replicate d.1.1.1.toNat false,())).bind
 fun (r:B2)=>some (r.2.2,())
 else none
 else none:=by
  unfold F_r09_used
  funext d
  kernel_rfl
theorem znG:F_r09_address=fun (d:B1)=>some ((U (W (W (4096+W (d.2.1*d.1.1.1))+d.2.2.1)),()),()):=by
 unfold F_r09_address
 funext d
 kernel_rfl
theorem zvN:F_r06_Has=fun (d:A4)=>(rl Ab A8 (fun (x:Ab)=>
 bif decide (x.1.2.1<(d.1.length:Int)) then
 bif inB x.1.2.1 d.1.length then
 bif d.1.getD x.1.2.1.toNat 0 == d.2.1 then some (Sum.inr (Sum.inl ((true,()),(),())))
 else some (Sum.inl ((x.1.1,W (x.1.2.1+1),()),(),()))
 else none
 else some (Sum.inr (Sum.inr ((x.1.1,()),(),())))) ((false,0,()),(),())).bind
 fun (r:A8)=>Sum.elim (fun (x:Af)=>some (x.1,())) (fun (y:Af)=>some ((false,()),())) r:=by
  unfold F_r06_Has
  funext d
  kernel_rfl
theorem zrd:F_r09_Check=fun (d:AY)=>(F_r04_Proper d).bind
 fun (r:A5)=>
 bif !r.1.1 then some (((1,0,0,()),()),())
 else (rl Ak A6 (fun (x:Ak)=>
 bif decide (x.1.1<(d.1.2.2.1.length:Int)) then (F_r09_page (d.1,x.1)).bind
 fun (r:Ax)=>
 bif r.1.1.1 != 0 then some (Sum.inr (Sum.inl ((),(),r.1)))
 else some (Sum.inl ((W (x.1.1+1),()),(),x.2.2))
 else some (Sum.inr (Sum.inr ((),(),x.2.2)))) ((0,()),(),(0,0,0,()),())).bind
 fun (r:A6)=>Sum.elim (fun (x:Aq)=>some (x.2.2,())) (fun (y:Aq)=>(F_r09_pointers d).bind
 fun (r:Ax)=>
 bif r.1.1.1 != 0 then some r
 else (rl Ap Ad (fun (x:Ap)=>
 bif decide (x.1.2.1<(d.1.2.2.1.length:Int)) then
 bif inB x.1.2.1 d.1.2.2.1.length then
 bif bif (d.1.2.2.1.getD x.1.2.1.toNat PG0).1 == 1 then inB x.1.2.1 d.1.2.2.1.length
 else true then some (Sum.inl ((bif
 bif (d.1.2.2.1.getD x.1.2.1.toNat PG0).1 == 1 then decide ((d.1.2.2.1.getD x.1.2.1.toNat PG0).2.2.2.1 > 0)
 else false then W (x.1.1+1)
 else x.1.1,W (x.1.2.1+1),()),(),()))
 else none
 else none
 else some (Sum.inr ((x.1.1,()),(),()))) ((0,0,()),(),())).bind
 fun (r:Ad)=>
 bif !4 == 0 then
 bif decide (r.1.1 > W (d.1.1.2.1.tdiv 4)) then some (((7,0,0,()),()),())
 else some (((0,0,0,()),()),())
 else none) r:=by
  unfold F_r09_Check
  funext d
  kernel_rfl
theorem ztb:F_r09_Good=fun (d:AY)=>(F_r09_Check d).bind
 fun (r:Ax)=>some (((r.1.1.1,r.1.1.2.1,r.1.1.2.2.1,()).1 == (0,0,0,()).1&&((r.1.1.1,r.1.1.2.1,r.1.1.2.2.1,()).2.1 == (0,0,0,()).2.1&&((r.1.1.1,r.1.1.2.1,r.1.1.2.2.1,()).2.2.1 == (0,0,0,()).2.2.1&&true)),()),()):=by
  unfold F_r09_Good
  funext d
  kernel_rfl
theorem zra:F_r10_taken=fun (d:AW)=>(rl Ab A8 (fun (x:Ab)=>
 bif decide (x.1.2.1<(d.1.2.2.1.length:Int)) then
 bif inB x.1.2.1 d.1.2.2.1.length then
 bif d.1.2.2.1.getD x.1.2.1.toNat 0 == d.2.1 then some (Sum.inr (Sum.inl ((true,()),(),())))
 else some (Sum.inl ((x.1.1,W (x.1.2.1+1),()),(),()))
 else none
 else some (Sum.inr (Sum.inr ((x.1.1,()),(),())))) ((false,0,()),(),())).bind
 fun (r:A8)=>Sum.elim (fun (x:Af)=>some (x.1,())) (fun (y:Af)=>some ((false,()),())) r:=by
  unfold F_r10_taken
  funext d
  kernel_rfl
theorem zrb:F_r10_place=fun (d:AW)=>
 bif zaA (0+d.1.1.2.2.1.length) 32 then
 bif bif decide ((d.1.2.2.1.length:Int) > 0) then inB (W ((d.1.2.2.1.length:Int)-1)) d.1.2.2.1.length
 else true then
 bif bif decide ((d.1.2.2.1.length:Int) > 0) then inB (d.1.2.2.1.getD (W ((d.1.2.2.1.length:Int)-1)).toNat 0) (d.1.1.2.2.1).length
 else true then
 bif bif
 bif decide ((d.1.2.2.1.length:Int) > 0) then decide (W (((d.1.1.2.2.1).getD (d.1.2.2.1.getD (W ((d.1.2.2.1.length:Int)-1)).toNat 0).toNat PG0).2.2.1+d.2.1)<=d.1.1.1.1)
 else false then inB (W ((d.1.2.2.1.length:Int)-1)) d.1.2.2.1.length
 else true then
 bif bif decide ((d.1.2.2.1.length:Int) > 0) then decide (W (((d.1.1.2.2.1).getD (d.1.2.2.1.getD (W ((d.1.2.2.1.length:Int)-1)).toNat 0).toNat PG0).2.2.1+d.2.1)<=d.1.1.1.1)
 else false then
 bif inB (d.1.2.2.1.getD (W ((d.1.2.2.1.length:Int)-1)).toNat 0) (d.1.1.2.2.1).length then
 bif inB (d.1.2.2.1.getD (W ((d.1.2.2.1.length:Int)-1)).toNat 0) (d.1.1.2.2.1).length then
 bif inB (d.1.2.2.1.getD (W ((d.1.2.2.1.length:Int)-1)).toNat 0) (d.1.1.2.2.1).length then some ((((d.1.1.1,d.1.1.2.1,(d.1.1.2.2.1).set (d.1.2.2.1.getD (W ((d.1.2.2.1.length:Int)-1)).toNat 0).toNat (((d.1.1.2.2.1).getD (d.1.2.2.1.getD (W ((d.1.2.2.1.length:Int)-1)).toNat 0).toNat PG0).1,((d.1.1.2.2.1).getD (d.1.2.2.1.getD (W ((d.1.2.2.1.length:Int)-1)).toNat 0).toNat PG0).2.1,W (((d.1.1.2.2.1).getD (d.1.2.2.1.getD (W ((d.1.2.2.1.length:Int)-1)).toNat 0).toNat PG0).2.2.1+d.2.1),((d.1.1.2.2.1).getD (d.1.2.2.1.getD (W ((d.1.2.2.1.length:Int)-1)).toNat 0).toNat PG0).2.2.2.1,()),d.1.1.2.2.2),d.1.2),U (W (W (4096+W (d.1.2.2.1.getD (W ((d.1.2.2.1.length:Int)-1)).toNat 0*d.1.1.1.1))+((d.1.1.2.2.1).getD (d.1.2.2.1.getD (W ((d.1.2.2.1.length:Int)-1)).toNat 0).toNat PG0).2.2.1)),true,()),())
 else none
 else none
 else none
 else (F_r04_First (d.1.1.2.2.1,1,())).bind
 fun (r:Aa)=>
 bif decide (r.1.1<0) then some (((H0,[],[],[],0,(0,0,0,0,0,0,()),()),0,false,()),())
 else (F_r04_Small_o (d.1.1.2.2.1,r.1.1,W (1-d.1.1.2.2.2.1),())).bind
 fun (r_1:Ar×Unit)=>
 bif zaA (0+d.1.2.2.1.length) 8 then
 bif zaA ((d.1.2.2.1).length + [r.1.1].length) 8 then
 bif inB r.1.1 r_1.1.1.length then
 bif inB r.1.1 r_1.1.1.length then
 bif inB r.1.1 r_1.1.1.length then some ((((d.1.1.1,d.1.1.2.1,r_1.1.1.set r.1.1.toNat ((r_1.1.1.getD r.1.1.toNat PG0).1,(r_1.1.1.getD r.1.1.toNat PG0).2.1,W ((r_1.1.1.getD r.1.1.toNat PG0).2.2.1+d.2.1),(r_1.1.1.getD r.1.1.toNat PG0).2.2.2.1,()),d.1.1.2.2.2),d.1.2.1,d.1.2.2.1++[r.1.1],d.1.2.2.2),U (W (W (4096+W (r.1.1*d.1.1.1.1))+(r_1.1.1.getD r.1.1.toNat PG0).2.2.1)),true,()),())
 else none
 else none
 else none
 else none
 else none
 else none
 else none
 else none
 else none:=by
  unfold F_r10_place
  funext d
  kernel_rfl
theorem ztp:F_r02_Move=fun (d:List Int×Int×Int×Int×Unit)=>(F_r02_Read (d.1,d.2.2)).bind
 fun (r:AN)=>
 bif r.1.2.1 != 0 then some (([],r.1.2),())
 else (F_r02_Write (d.1,d.2.1,r.1.1,())).bind
 fun (r:AN)=>some r:=by
  unfold F_r02_Move
  funext d
  kernel_rfl
theorem znL:F_r03_Forward=fun (d:Aw)=>
 bif decide (d.1 >= 4294967296) then some ((0,1,()),())
 else some ((U (U (4*d.1)+2),0,()),()):=by
  unfold F_r03_Forward
  funext d
  kernel_rfl
theorem zq8:F_r12_after=fun (d:AW)=>(F_r06_Has (d.1.2.2.2.1,d.2)).bind
 fun (r:A5)=>
 bif r.1.1 then some (d.2,())
 else (F_r02_Load (d.1.1.2.1,d.2)).bind
 fun (r:Ae)=>(F_r03_Target (r.1.1,())).bind
 fun (r:AG)=>some ((r.1.1,()),()):=by
  unfold F_r12_after
  funext d
  kernel_rfl
theorem zs4:F_r12_fill=fun (d:Ac×Unit)=>(rl (Aw×Unit×A0×Unit) (Unit×Unit×A0×Unit) (fun (x:Aw×Unit×A0×Unit)=>
 bif decide (x.1.1<(x.2.2.1.2.2.2.2.2.2.1.length:Int)) then
 bif inB x.1.1 x.2.2.1.2.2.2.2.2.2.1.length then (F_r04_Of ((x.2.2.1.1,x.2.2.1.2.1,()),x.2.2.1.2.2.2.2.2.2.1.getD x.1.1.toNat 0,())).bind
 fun (r:B0)=>(F_r10_Promoted ((((x.2.2.1.1,x.2.2.1.2.1,()),x.2.2.1.2.2.1,x.2.2.1.2.2.2.1,x.2.2.1.2.2.2.2.1,x.2.2.1.2.2.2.2.2.1,()),x.2.2.1.2.2.2.2.2.2.1,x.2.2.1.2.2.2.2.2.2.2.1,x.2.2.1.2.2.2.2.2.2.2.2.1,x.2.2.1.2.2.2.2.2.2.2.2.2.1,x.2.2.1.2.2.2.2.2.2.2.2.2.2,()),r.1.1,())).bind
 fun (r:A5)=>
 bif bif !r.1.1 then true
 else inB x.1.1 x.2.2.1.2.2.2.2.2.2.1.length then
 bif !r.1.1 then some (Sum.inl ((W (x.1.1+1),()),(),x.2.2))
 else (F_r06_Has (x.2.2.1.2.2.2.2.2.2.2.2.1,x.2.2.1.2.2.2.2.2.2.1.getD x.1.1.toNat 0,())).bind
 fun (r:A5)=>
 bif r.1.1 then some (Sum.inl ((W (x.1.1+1),()),(),x.2.2))
 else bif inB x.1.1 x.2.2.1.2.2.2.2.2.2.1.length then (F_r10_Get ((((x.2.2.1.1,x.2.2.1.2.1,()),x.2.2.1.2.2.1,x.2.2.1.2.2.2.1,x.2.2.1.2.2.2.2.1,x.2.2.1.2.2.2.2.2.1,()),x.2.2.1.2.2.2.2.2.2.1,x.2.2.1.2.2.2.2.2.2.2.1,x.2.2.1.2.2.2.2.2.2.2.2.1,x.2.2.1.2.2.2.2.2.2.2.2.2.1,x.2.2.1.2.2.2.2.2.2.2.2.2.2,()),x.2.2.1.2.2.2.2.2.2.1.getD x.1.1.toNat 0,())).bind
 fun (r:Ax)=>(F_r03_Encode ((0,r.1.1.2.1,0,()),())).bind
 fun (r_1:Ae)=>
 bif inB x.1.1 x.2.2.1.2.2.2.2.2.2.1.length then
 bif decide (0<=r.1.1.2.1) then
 bif zaA ([r_1.1.1].length+r.1.1.2.1.toNat) 8 then (F_r02_Write (x.2.2.1.2.2.1,x.2.2.1.2.2.2.2.2.2.1.getD x.1.1.toNat 0,[r_1.1.1]++List.replicate r.1.1.2.1.toNat (0:Int),())).bind
 fun (r:AN)=>some (Sum.inl ((W (x.1.1+1),()),(),(x.2.2.1.1,x.2.2.1.2.1,r.1.1,x.2.2.1.2.2.2.1,x.2.2.1.2.2.2.2.1,x.2.2.1.2.2.2.2.2.1,x.2.2.1.2.2.2.2.2.2.1,x.2.2.1.2.2.2.2.2.2.2.1,x.2.2.1.2.2.2.2.2.2.2.2.1,x.2.2.1.2.2.2.2.2.2.2.2.2.1,x.2.2.1.2.2.2.2.2.2.2.2.2.2.1,x.2.2.1.2.2.2.2.2.2.2.2.2.2.2.1,W (x.2.2.1.2.2.2.2.2.2.2.2.2.2.2.2.1+1),x.2.2.1.2.2.2.2.2.2.2.2.2.2.2.2.2),()))
 else none
 else none
 else none
 else none
 else none
 else none
 else some (Sum.inr ((),(),x.2.2))) ((0,()),(),(d.1.1.1.1,d.1.1.1.2.1,d.1.1.2.1,d.1.1.2.2.1,d.1.1.2.2.2.1,d.1.1.2.2.2.2.1,d.1.2.1,d.1.2.2.1,d.1.2.2.2.1,d.1.2.2.2.2.1,d.1.2.2.2.2.2.1),())).bind
 fun (r:Unit×Unit×A0×Unit)=>some (((((r.2.2.1.1,r.2.2.1.2.1,()),r.2.2.1.2.2.1,r.2.2.1.2.2.2.1,r.2.2.1.2.2.2.2.1,r.2.2.1.2.2.2.2.2.1,()),r.2.2.1.2.2.2.2.2.2.1,r.2.2.1.2.2.2.2.2.2.2.1,r.2.2.1.2.2.2.2.2.2.2.2.1,r.2.2.1.2.2.2.2.2.2.2.2.2.1,r.2.2.1.2.2.2.2.2.2.2.2.2.2,()),()),()):=by
  unfold F_r12_fill
  funext d
  kernel_rfl
theorem zrr:F_page_Need=fun (d:Ah×Int×Unit)=>(F_page_ValidConf (d.1,())).bind
 fun (r:A5)=>
 bif !r.1.1 then some ((-1,()),())
 else (F_page_within (d.2.1,1,W (4*d.1.1),())).bind
 fun (r:A5)=>
 bif !r.1.1 then some ((-1,()),())
 else (F_page_SmallWords (d.1,())).bind
 fun (r:Aa)=>
 bif decide (d.2.1<=r.1.1) then some ((0,()),())
 else bif !d.1.1 == 0 then some ((W ((W (W (d.2.1+d.1.1)-1)).tdiv d.1.1),()),())
 else none:=by
  unfold F_page_Need
  funext d
  kernel_rfl
theorem zhi:F_page_table_owned=fun (d:AM)=>(rl Ab A8 (fun (x:Ab)=>
 bif decide (x.1.2.1<=d.2.1) then
 bif inB (W (d.2.1-x.1.2.1)) d.1.2.1.length then
 bif (d.1.2.1.getD (W (d.2.1-x.1.2.1)).toNat PG0).1 == 2 then (F_page_Need (d.1.1,(d.1.2.1.getD (W (d.2.1-x.1.2.1)).toNat PG0).2.2.1,())).bind
 fun (r:Aa)=>some (Sum.inr (Sum.inl ((decide (x.1.2.1<r.1.1),()),(),())))
 else some (Sum.inl ((x.1.1,W (x.1.2.1+1),()),(),()))
 else none
 else some (Sum.inr (Sum.inr ((x.1.1,()),(),())))) ((false,1,()),(),())).bind
 fun (r:A8)=>Sum.elim (fun (x:Af)=>some (x.1,())) (fun (y:Af)=>some ((false,()),())) r:=by
  unfold F_page_table_owned
  funext d
  kernel_rfl
theorem zgN:F_page_table_proper=fun (d:(Ah×(List PgD)×Unit)×Unit)=>(rl Ab A8 (fun (x:Ab)=>
 bif decide (x.1.2.1<(d.1.2.1.length:Int)) then
 bif inB x.1.2.1 d.1.2.1.length then (F_page_within ((d.1.2.1.getD x.1.2.1.toNat PG0).1,0,3,())).bind
 fun (r:A5)=>
 bif !r.1.1 then some (Sum.inr (Sum.inl ((false,()),(),())))
 else bif decide ((d.1.2.1.getD x.1.2.1.toNat PG0).1=(0:Int)) then (F_page_table_free (d.1,x.1.2)).bind
 fun (r:A5)=>
 bif !r.1.1 then some (Sum.inr (Sum.inl ((false,()),(),())))
 else some (Sum.inl ((x.1.1,W (x.1.2.1+1),()),(),()))
 else bif decide ((d.1.2.1.getD x.1.2.1.toNat PG0).1=(1:Int)) then (F_page_table_small (d.1,x.1.2)).bind
 fun (r:A5)=>
 bif !r.1.1 then some (Sum.inr (Sum.inl ((false,()),(),())))
 else some (Sum.inl ((x.1.1,W (x.1.2.1+1),()),(),()))
 else bif decide ((d.1.2.1.getD x.1.2.1.toNat PG0).1=(2:Int)) then (F_page_table_large (d.1,x.1.2)).bind
 fun (r:A5)=>
 bif !r.1.1 then some (Sum.inr (Sum.inl ((false,()),(),())))
 else some (Sum.inl ((x.1.1,W (x.1.2.1+1),()),(),()))
 else bif decide ((d.1.2.1.getD x.1.2.1.toNat PG0).1=(3:Int)) then (F_page_table_tail (d.1,x.1.2)).bind
 fun (r:A5)=>
 bif !r.1.1 then some (Sum.inr (Sum.inl ((false,()),(),())))
 else some (Sum.inl ((x.1.1,W (x.1.2.1+1),()),(),()))
 else bif false then none
 else none
 else none
 else some (Sum.inr (Sum.inr ((x.1.1,()),(),())))) ((false,0,()),(),())).bind
 fun (r:A8)=>Sum.elim (fun (x:Af)=>some (x.1,())) (fun (y:Af)=>some ((true,()),())) r:=by
  unfold F_page_table_proper
  funext d
  kernel_rfl
theorem zbL:F_walk_list_c_walk_inPage_S1_walk_isAny=fun (d:AB)=>((listP d).bind
 fun (L:List (Int×Au×Unit))=>fg Al Al (Int×Au×Unit) (fun (y:Int×Au×Unit) (x:Al)=>
 bif y.2.1.2.1 != 0 then some (Sum.inr ((),x.2.1,([],()),y.2.1.2,((),()),()))
 else (F_walk_isAny (y.2.1.1,())).bind
 fun (r:A5)=>
 bif bif r.1.1 then zaA (x.2.1.1.length + [y.1].length) 8
 else true then
 bif r.1.1 then some (Sum.inl ((),(x.2.1.1++[y.1],()),x.2.2.1,x.2.2.2.1,((),()),()))
 else some (Sum.inl ((),x.2.1,x.2.2.1,x.2.2.2.1,((),()),()))
 else none) L ((),([],()),([],()),(0,()),((),()),())).bind
 fun (r:Unit×A9×A9×Aw×AT×Unit⊕Unit×A9×A9×Aw×AT×Unit)=>Sum.elim (fun (x:Al)=>some ((x.2.1.1,0,()),d)) (fun (y:Al)=>some ((y.2.2.1.1,y.2.2.2.1),d)) r:=by
  unfold F_walk_list_c_walk_inPage_S1_walk_isAny
  funext d
  kernel_rfl
theorem zq7:F_walk_Page=fun (d:AB)=>(F_page_Proper (d.1,())).bind
 fun (r:A5)=>
 bif !r.1.1 then some (([],1,()),())
 else bif
 bif decide (d.2.1<0) then true
 else decide (d.2.1 >= (d.1.2.2.1.length:Int)) then some (([],2,()),())
 else (F_walk_inPage d).bind
 fun (r:AJ×Unit)=>(F_walk_list_c_walk_inPage_S1_walk_isAny r.1.1).bind
 fun (r:A4×HpD×Int×Unit)=>some (r.1,()):=by
  unfold F_walk_Page
  funext d
  kernel_rfl
theorem znP:F_object_fits=fun (d:PgD×Int×Int×Unit)=>
 bif d.1.1 == 1 then some ((decide (W (d.2.1+d.2.2.1)<=d.1.2.2.1),()),())
 else bif d.1.1 == 2 then some ((bif d.2.1 == 0 then d.2.2.1 == d.1.2.2.1
 else false,()),())
 else some ((false,()),()):=by
  unfold F_object_fits
  funext d
  kernel_rfl
theorem zf8:F_audit_checkClasses=fun (d:A2×Int×(List Az)×Unit)=>(rl Ak A6 (fun (x:Ak)=>
 bif decide (x.1.1<(d.2.2.1.length:Int)) then
 bif inB x.1.1 d.2.2.1.length then
 bif inB d.2.1 d.1.2.2.1.length then (F_audit_belongs (d.1.1,(d.1.2.2.1.getD d.2.1.toNat PG0).1,(d.2.2.1.getD x.1.1.toNat (0,(0,0,0,()),())).2)).bind
 fun (r:A5)=>
 bif !r.1.1 then some (Sum.inr (Sum.inl ((),(),(5,d.2.1,(d.2.2.1.getD x.1.1.toNat (0,(0,0,0,()),())).1,()),())))
 else some (Sum.inl ((W (x.1.1+1),()),(),x.2.2))
 else none
 else none
 else some (Sum.inr (Sum.inr ((),(),x.2.2)))) ((0,()),(),(0,0,0,()),())).bind
 fun (r:A6)=>Sum.elim (fun (x:Aq)=>some (x.2.2,())) (fun (y:Aq)=>some (((0,0,0,()),()),())) r:=by
  unfold F_audit_checkClasses
  funext d
  kernel_rfl
theorem zig:F_audit_part_uses=fun (d:Az×Int×Unit)=>some ((bif decide (d.2.1 >= d.1.1) then decide (U (d.2.1-d.1.1)<=U (bif d.1.2.1.1 != 0 then d.1.2.1.2.1
 else 0))
 else false,()),()):=by
  unfold F_audit_part_uses
  funext d
  kernel_rfl
theorem znD:F_walk_inHeap=fun (d:AY)=>some ((d,()),()):=by
 unfold F_walk_inHeap
 funext d
 kernel_rfl
theorem zkU:F_walk_isObject=fun (d:B0)=>some ((d.1.1 != 0,()),()):=by
 unfold F_walk_isObject
 funext d
 kernel_rfl
theorem zjB:F_header_Pointer=fun (d:Au)=>(F_header_Valid (d.1,())).bind
 fun (r:A5)=>
 bif bif !r.1.1 then true
 else bif decide (d.2.1<0) then true
 else decide (d.2.1 >= d.1.2.1) then some ((false,()),())
 else bif
 bif d.1.1 == 2 then true
 else bif d.1.1 == 1 then !decide (d.2.1<0)
 else true then some ((bif d.1.1 == 2 then true
 else bif d.1.1 == 1 then zcg IntKind.u32 (fun (x1 x2:BitVec IntKind.u32.bits)=>x1 &&& x2) (d.1.2.2.1.fdiv (2 ^ min d.2.1.toNat IntKind.u32.bits)) 1 == 1
 else false,()),())
 else none:=by
  unfold F_header_Pointer
  funext d
  kernel_rfl
theorem zic:F_header_Pointers=fun (d:B0)=>(F_header_Valid d).bind
 fun (r:A5)=>
 bif !r.1.1 then some (([],()),())
 else (rl (AK×A9×Unit) (AT×A9×Unit) (fun (x:AK×A9×Unit)=>
 bif decide (x.1.2.1<d.1.2.1) then (F_header_Pointer (d.1,x.1.2)).bind
 fun (r:A5)=>
 bif bif r.1.1 then zaA (x.2.1.1.length + [x.1.2.1].length) 8
 else true then
 bif r.1.1 then some (Sum.inl (((),W (x.1.2.1+1),()),(x.2.1.1++[x.1.2.1],()),()))
 else some (Sum.inl (((),W (x.1.2.1+1),()),x.2))
 else none
 else some (Sum.inr (((),()),x.2))) (((),0,()),([],()),())).bind
 fun (r:AT×A9×Unit)=>some r.2:=by
  unfold F_header_Pointers
  funext d
  kernel_rfl
theorem zhm:F_cmp_isNaN_uint64=fun (d:Aw)=>some ((d.1 != d.1,()),()):=by
 unfold F_cmp_isNaN_uint64
 funext d
 kernel_rfl
theorem zgR:F_audit_isReference=fun (d:A4)=>(F_slices_BinarySearch_uint64 d).bind
 fun (r:AG)=>some ((bif r.1.2.1 then true
 else d.2.1 == 0,()),()):=by
  unfold F_audit_isReference
  funext d
  kernel_rfl
theorem zfI:F_audit_checkPointers=fun (d:AY)=>(F_walk_Objects d).bind
 fun (r:AN)=>(rl Ak A6 (fun (x:Ak)=>
 bif decide (x.1.1<(r.1.1.length:Int)) then
 bif inB x.1.1 r.1.1.length then (F_object_Get (d.1,r.1.1.getD x.1.1.toNat 0,())).bind
 fun (r_1:Au×Unit)=>(F_header_Pointers (r_1.1.1,())).bind
 fun (r_2:A9×Unit)=>(rl Ak A6 (fun (x_1:Ak)=>
 bif decide (x_1.1.1<(r_2.1.1.length:Int)) then
 bif inB x_1.1.1 r_2.1.1.length then (F_audit_word (d.1,U (U (r.1.1.getD x.1.1.toNat 0+1)+U (r_2.1.1.getD x_1.1.1.toNat 0)),())).bind
 fun (r_3:Aa)=>(F_audit_isReference (r.1.1,r_3.1)).bind
 fun (r_4:A5)=>
 bif !r_4.1.1 then (F_audit_findingAt (d.1,6,U (U (r.1.1.getD x.1.1.toNat 0+1)+U (r_2.1.1.getD x_1.1.1.toNat 0)),())).bind
 fun (r:Ax)=>some (Sum.inr (Sum.inl ((),(),r.1)))
 else some (Sum.inl ((W (x_1.1.1+1),()),(),x_1.2.2))
 else none
 else some (Sum.inr (Sum.inr ((),(),x_1.2.2)))) ((0,()),(),x.2.2)).bind
 fun (r:A6)=>Sum.elim (fun (x:Aq)=>some (Sum.inr (Sum.inl ((),(),x.2.2)))) (fun (y:Aq)=>some (Sum.inl ((W (x.1.1+1),()),(),y.2.2))) r
 else none
 else some (Sum.inr (Sum.inr ((),(),x.2.2)))) ((0,()),(),(0,0,0,()),())).bind
 fun (r:A6)=>Sum.elim (fun (x:Aq)=>some (x.2.2,())) (fun (y:Aq)=>some (((0,0,0,()),()),())) r:=by
  unfold F_audit_checkPointers
  funext d
  kernel_rfl
theorem zdP:F_audit_checkCrowd=fun (d:AY)=>(rl Ap Ad (fun (x:Ap)=>
 bif decide (x.1.2.1<(d.1.2.2.1.length:Int)) then
 bif inB x.1.2.1 d.1.2.2.1.length then some (Sum.inl ((bif
 bif (d.1.2.2.1.getD x.1.2.1.toNat PG0).1 == 1 then decide ((d.1.2.2.1.getD x.1.2.1.toNat PG0).2.2.2.1 > 0)
 else false then W (x.1.1+1)
 else x.1.1,W (x.1.2.1+1),()),(),()))
 else none
 else some (Sum.inr ((x.1.1,()),(),()))) ((0,0,()),(),())).bind
 fun (r:Ad)=>
 bif !4 == 0 then
 bif decide (r.1.1 > W (d.1.1.2.1.tdiv 4)) then some (((7,0,0,()),()),())
 else some (((0,0,0,()),()),())
 else none:=by
  unfold F_audit_checkCrowd
  funext d
  kernel_rfl
theorem zmi:F_r01_Same=fun (d:List Int×List Int×Unit)=>
 bif (d.1.length:Int) != (d.2.1.length:Int) then some ((false,()),())
 else (rl Ab A8 (fun (x:Ab)=>
 bif decide (x.1.2.1<(d.1.length:Int)) then
 bif inB x.1.2.1 d.1.length then
 bif inB x.1.2.1 d.2.1.length then
 bif d.1.getD x.1.2.1.toNat 0 != d.2.1.getD x.1.2.1.toNat 0 then some (Sum.inr (Sum.inl ((false,()),(),())))
 else some (Sum.inl ((x.1.1,W (x.1.2.1+1),()),(),()))
 else none
 else none
 else some (Sum.inr (Sum.inr ((x.1.1,()),(),())))) ((false,0,()),(),())).bind
 fun (r:A8)=>Sum.elim (fun (x:Af)=>some (x.1,())) (fun (y:Af)=>some ((true,()),())) r:=by
  unfold F_r01_Same
  funext d
  kernel_rfl
theorem zid:F_evacuate_isPage=fun (d:AB)=>some ((bif decide (d.2.1 >= 0) then decide (d.2.1<(d.1.2.2.1.length:Int))
 else false,()),()):=by
  unfold F_evacuate_isPage
  funext d
  kernel_rfl
theorem zgQ:F_evacuate_Promoted=fun (d:AW)=>(F_evacuate_isPage (d.1.1,d.2)).bind
 fun (r:A5)=>
 bif !r.1.1 then some ((false,()),())
 else (F_slices_Contains_int (d.1.2.2.1,d.2)).bind
 fun (r:A5)=>
 bif r.1.1 then some ((false,()),())
 else bif inB d.2.1 d.1.1.2.2.1.length then
 bif (d.1.1.2.2.1.getD d.2.1.toNat PG0).1 == 1 then (F_evacuate_newSpace (d.1.1,())).bind
 fun (r:Aa)=>some (((d.1.1.2.2.1.getD d.2.1.toNat PG0).2.1 == r.1.1,()),())
 else some ((false,()),())
 else none:=by
  unfold F_evacuate_Promoted
  funext d
  kernel_rfl
theorem zef:F_slices_Contains_uint64=fun (d:A4)=>(F_slices_Index_uint64 d).bind
 fun (r:Aa)=>some ((decide (r.1.1 >= 0),()),()):=by
  unfold F_slices_Contains_uint64
  funext d
  kernel_rfl
theorem zk0:F_evacuate_keep=fun (d:AW)=>
 bif zaA (d.1.2.2.2.1.length + [d.2.1].length) 8 then some (((d.1.1,d.1.2.1,d.1.2.2.1,d.1.2.2.2.1++[d.2.1],d.1.2.2.2.2.1,(d.1.2.2.2.2.2.1.1,W (d.1.2.2.2.2.2.1.2.1+1),d.1.2.2.2.2.2.1.2.2),()),()),())
 else none:=by
  unfold F_evacuate_keep
  funext d
  kernel_rfl
theorem zkq:F_page_take=fun (d:(List PgD)×Int×Int×PgD×Unit)=>(F_page_within (d.2.1,0,W ((d.1.length:Int)-d.2.2.1),())).bind
 fun (r:A5)=>
 bif !r.1.1 then some (([],2,()),())
 else bif decide (0<=d.2.1/\d.2.1<=W (d.2.1+d.2.2.1)/\W (d.2.1+d.2.2.1)<=(d.1.length:Int)) then (F_page_InUse (List.drop d.2.1.toNat (List.take (W (d.2.1+d.2.2.1)).toNat d.1),())).bind
 fun (r:Aa)=>
 bif decide (r.1.1 > 0) then some (([],20,()),())
 else (F_slices_Clone_api_Page (d.1,())).bind
 fun (r:(List PgD×Unit)×Unit)=>
 bif inB d.2.1 r.1.1.length then (rl Am As (fun (x:Am)=>
 bif decide (x.1.1<W (d.2.1+d.2.2.1)) then
 bif inB x.1.1 x.2.2.1.length then some (Sum.inl ((W (x.1.1+1),()),(),x.2.2.1.set x.1.1.toNat (3,d.2.2.2.1.2.1,0,0,()),()))
 else none
 else some (Sum.inr ((),(),x.2.2))) ((W (d.2.1+1),()),(),r.1.1.set d.2.1.toNat (d.2.2.2.1.1,d.2.2.2.1.2.1,d.2.2.2.1.2.2.1,d.2.2.2.1.2.2.2.1,()),())).bind
 fun (r:As)=>some ((r.2.2.1,0,()),())
 else none
 else none:=by
  unfold F_page_take
  funext d
  kernel_rfl
theorem zeK:F_evacuate_copying_take=fun (d:AF)=>(F_page_First (d.1.1.1.2.2.1,1,())).bind
 fun (r:Aa)=>(F_evacuate_newSpace (d.1.1.1,())).bind
 fun (r_1:Aa)=>(F_page_Small (d.1.1.1.2.2.1,r.1.1,r_1.1)).bind
 fun (r_2:Ar×Unit)=>
 bif r_2.1.2.1 != 0 then some ((3,()),d)
 else bif zaA (d.1.1.2.2.1.length + [r.1.1].length) 8 then some ((0,()),(((d.1.1.1.1,d.1.1.1.2.1,r_2.1.1,d.1.1.1.2.2.2),d.1.1.2.1,d.1.1.2.2.1++[r.1.1],d.1.1.2.2.2),d.1.2),())
 else none:=by
  unfold F_evacuate_copying_take
  funext d
  kernel_rfl
theorem zru:F_bits_Pack=fun (d:(List Ah)×Unit)=>(F_bits_fit_c_bits_Pack_S1 ((d.1.length:Int),d)).bind
 fun (r:AO×List Ah×Unit)=>
 bif !r.1.1 then some ((0,1,()),())
 else (rl (PgD×Unit×Unit) (Ah×Unit×Unit⊕A7×Unit×Unit) (fun (x:PgD×Unit×Unit)=>
 bif decide (x.1.2.2.2.1<(r.2.1.length:Int)) then
 bif inB (W (W ((r.2.1.length:Int)-1)-x.1.2.2.2.1)) r.2.1.length then (F_bits_Ones ((r.2.1.getD (W (W ((r.2.1.length:Int)-1)-x.1.2.2.2.1)).toNat (0,0,())).1,())).bind
 fun (r_1:Aa)=>
 bif decide ((r.2.1.getD (W (W ((r.2.1.length:Int)-1)-x.1.2.2.2.1)).toNat (0,0,())).2.1 > r_1.1.1) then some (Sum.inr (Sum.inl ((0,2,()),(),())))
 else bif !decide ((r.2.1.getD (W (W ((r.2.1.length:Int)-1)-x.1.2.2.2.1)).toNat (0,0,())).1<0) then some (Sum.inl ((x.1.1,x.1.2.1,zcg IntKind.u64 (fun (x1 x2:BitVec IntKind.u64.bits)=>x1 ||| x2) (U (x.1.2.2.1*2 ^ min (r.2.1.getD (W (W ((r.2.1.length:Int)-1)-x.1.2.2.2.1)).toNat (0,0,())).1.toNat IntKind.u64.bits)) (r.2.1.getD (W (W ((r.2.1.length:Int)-1)-x.1.2.2.2.1)).toNat (0,0,())).2.1,W (x.1.2.2.2.1+1),()),(),()))
 else none
 else none
 else some (Sum.inr (Sum.inr ((x.1.1,x.1.2.1,x.1.2.2.1,()),(),())))) (PG0,(),())).bind
 fun (r:Ah×Unit×Unit⊕A7×Unit×Unit)=>Sum.elim (fun (x:Ap)=>some (x.1,())) (fun (y:A7×Unit×Unit)=>some ((y.1.2.2.1,0,()),())) r:=by
  unfold F_bits_Pack
  funext d
  kernel_rfl
theorem znT:F_arena_Write=fun (d:List Int×Int×List Int×Unit)=>(F_arena_locate (d.1,d.2.1,(d.2.2.1.length:Int),())).bind
 fun (r:Ae)=>
 bif r.1.2.1 != 0 then some (([],r.1.2),())
 else (F_arena_duplicate (d.1,())).bind
 fun (r_1:A9×Unit)=>
 bif decide (0<=r.1.1/\r.1.1<=(r_1.1.1.length:Int)/\(r_1.1.1.length:Int)<=(r_1.1.1.length:Int)) then some ((List.take r.1.1.toNat r_1.1.1++(List.take ((r_1.1.1.length:Int)-r.1.1).toNat d.2.2.1++List.drop (r.1.1.toNat+min d.2.2.1.length ((r_1.1.1.length:Int)-r.1.1).toNat) r_1.1.1),0,()),())
 else none:=by
  unfold F_arena_Write
  funext d
  kernel_rfl
theorem zmn:F_evacuate_see=fun (d:Ac×Int×Int×Unit)=>(F_page_Of (d.1.1.1,d.2.1,())).bind
 fun (r:B0)=>(F_evacuate_Promoted (d.1,r.1.1,())).bind
 fun (r_1:A5)=>
 bif r_1.1.1 then (F_evacuate_keep (d.1,d.2.1,())).bind
 fun (r:AL)=>some ((r.1.1,d.2.1,0,()),())
 else bif inB r.1.1 d.1.1.2.2.1.length then
 bif (d.1.1.2.2.1.getD r.1.1.toNat PG0).1 == 2 then (F_evacuate_setSpace (d.1.1,r.1.1,())).bind
 fun (r:Unit×HpD×Unit)=>(F_evacuate_keep (((d.1.1.1,r.2.1.2.1,r.2.1.2.2.1,d.1.1.2.2.2),d.1.2),d.2.1,())).bind
 fun (r:AL)=>some ((r.1.1,d.2.1,0,()),())
 else (F_evacuate_copying_do ((d.1,d.2.2.1,d.2.1,0,()),())).bind
 fun (r:At)=>
 bif r.1.1 != 0 then some (((H0,[],[],[],0,(0,0,0,0,0,0,()),()),0,r.1),())
 else some ((r.2.1.1,r.2.1.2.2.2.1,0,()),())
 else none:=by
  unfold F_evacuate_see
  funext d
  kernel_rfl
theorem zrt:F_l10_awake=fun (d:Unit)=>(F_made_Make ([],())).bind
 fun (r:Aj×Unit)=>(F_made_World_Put ((r.1.1.1,[],[],()),(3,1,0,()),())).bind
 fun (r:Aj×Unit)=>(F_evacuate_Begin (r.1.1.1,())).bind
 fun (r_1:AQ)=>
 bif bif r_1.1.2.1 != 0 then true
 else (r.1.1.2.1.length:Int) != 1 then some ((false,()),())
 else bif inB 0 r.1.1.2.1.length then (F_evacuate_Forward (r_1.1.1,r.1.1.2.1.getD (Int.toNat 0) 0,())).bind
 fun (r_2:AU)=>
 bif inB 0 r.1.1.2.1.length then (F_evacuate_Forward (r_2.1.1,r.1.1.2.1.getD (Int.toNat 0) 0,())).bind
 fun (r:AU)=>some ((bif r_2.1.2.2.1 == 0 then
 bif r.1.2.2.1 == 0 then
 bif r_2.1.2.1 == r.1.2.1 then
 bif r_2.1.2.1 != 0 then r.1.1.2.2.2.2.2.1.1 == 1
 else false
 else false
 else false
 else false,()),())
 else none
 else none:=by
  unfold F_l10_awake
  funext d
  kernel_rfl
theorem zf7:F_l10_EvacuateBegins=fun (d:Av)=>(F_made_Make (d.2.1,())).bind
 fun (r:Aj×Unit)=>(F_made_World_Spoil (r.1.1,(d.2.2.1,0,()),())).bind
 fun (r_1:Aj×A4×Unit)=>(F_made_Light (d.1,())).bind
 fun (r_2:A5)=>
 bif bif r_2.1.1 then zaA ([((r.1.1.1.1.1,r.1.1.1.1.2.1,()),r.1.1.1.2.1,r.1.1.1.2.2.1,r.1.1.1.2.2.2.1,r.1.1.1.2.2.2.2.1,()),((r_1.1.1.1.1.1,r_1.1.1.1.1.2.1,()),r_1.1.1.1.2.1,r_1.1.1.1.2.2.1,r_1.1.1.1.2.2.2.1,r_1.1.1.1.2.2.2.2.1,())].length + [((d.1.1.1,d.1.1.2.1,()),d.1.2.1,d.1.2.2.1,d.1.2.2.2.1,d.1.2.2.2.2.1,())].length) 80
 else true then
 bif r_2.1.1 then (rl Ab A8 (fun (x:Ab)=>
 bif decide (x.1.2.1<(([((r.1.1.1.1.1,r.1.1.1.1.2.1,()),r.1.1.1.2.1,r.1.1.1.2.2.1,r.1.1.1.2.2.2.1,r.1.1.1.2.2.2.2.1,()),((r_1.1.1.1.1.1,r_1.1.1.1.1.2.1,()),r_1.1.1.1.2.1,r_1.1.1.1.2.2.1,r_1.1.1.1.2.2.2.1,r_1.1.1.1.2.2.2.2.1,())]++[((d.1.1.1,d.1.1.2.1,()),d.1.2.1,d.1.2.2.1,d.1.2.2.2.1,d.1.2.2.2.2.1,())]).length:Int)) then
 bif inB x.1.2.1 ([((r.1.1.1.1.1,r.1.1.1.1.2.1,()),r.1.1.1.2.1,r.1.1.1.2.2.1,r.1.1.1.2.2.2.1,r.1.1.1.2.2.2.2.1,()),((r_1.1.1.1.1.1,r_1.1.1.1.1.2.1,()),r_1.1.1.1.2.1,r_1.1.1.1.2.2.1,r_1.1.1.1.2.2.2.1,r_1.1.1.1.2.2.2.2.1,())]++[((d.1.1.1,d.1.1.2.1,()),d.1.2.1,d.1.2.2.1,d.1.2.2.2.1,d.1.2.2.2.2.1,())]).length then (F_evacuate_Begin (([((r.1.1.1.1.1,r.1.1.1.1.2.1,()),r.1.1.1.2.1,r.1.1.1.2.2.1,r.1.1.1.2.2.2.1,r.1.1.1.2.2.2.2.1,()),((r_1.1.1.1.1.1,r_1.1.1.1.1.2.1,()),r_1.1.1.1.2.1,r_1.1.1.1.2.2.1,r_1.1.1.1.2.2.2.1,r_1.1.1.1.2.2.2.2.1,())]++[((d.1.1.1,d.1.1.2.1,()),d.1.2.1,d.1.2.2.1,d.1.2.2.2.1,d.1.2.2.2.2.1,())]).getD x.1.2.1.toNat H0,())).bind
 fun (r_3:AQ)=>(F_r10_Begin (([((r.1.1.1.1.1,r.1.1.1.1.2.1,()),r.1.1.1.2.1,r.1.1.1.2.2.1,r.1.1.1.2.2.2.1,r.1.1.1.2.2.2.2.1,()),((r_1.1.1.1.1.1,r_1.1.1.1.1.2.1,()),r_1.1.1.1.2.1,r_1.1.1.1.2.2.1,r_1.1.1.1.2.2.2.1,r_1.1.1.1.2.2.2.2.1,())]++[((d.1.1.1,d.1.1.2.1,()),d.1.2.1,d.1.2.2.1,d.1.2.2.2.1,d.1.2.2.2.2.1,())]).getD x.1.2.1.toNat H0,())).bind
 fun (r_4:AQ)=>
 bif r_3.1.2.1 != r_4.1.2.1 then some (Sum.inr (Sum.inl ((false,()),(),())))
 else (F_l10_same (r_3.1.1,r_4.1.1,())).bind
 fun (r_5:A5)=>
 bif !r_5.1.1 then some (Sum.inr (Sum.inl ((false,()),(),())))
 else (rl Ab A8 (fun (x_1:Ab)=>
 bif decide (x_1.1.2.1<=↑(([((r.1.1.1.1.1,r.1.1.1.1.2.1,()),r.1.1.1.2.1,r.1.1.1.2.2.1,r.1.1.1.2.2.2.1,r.1.1.1.2.2.2.2.1,()),((r_1.1.1.1.1.1,r_1.1.1.1.1.2.1,()),r_1.1.1.1.2.1,r_1.1.1.1.2.2.1,r_1.1.1.1.2.2.2.1,r_1.1.1.1.2.2.2.2.1,())]++[((d.1.1.1,d.1.1.2.1,()),d.1.2.1,d.1.2.2.1,d.1.2.2.2.1,d.1.2.2.2.2.1,())]).getD x.1.2.1.toNat H0).2.2.1.length) then (F_evacuate_Promoted (r_3.1.1,x_1.1.2)).bind
 fun (r:A5)=>(F_r10_Promoted (r_4.1.1,x_1.1.2)).bind
 fun (r_6:A5)=>
 bif !r.1.1 == r_6.1.1 then some (Sum.inr (Sum.inl ((false,()),(),())))
 else some (Sum.inl ((x_1.1.1,W (x_1.1.2.1+1),()),(),()))
 else some (Sum.inr (Sum.inr ((x_1.1.1,()),(),())))) ((x.1.1,-1,()),(),())).bind
 fun (r:A8)=>Sum.elim (fun (x:Af)=>some (Sum.inr (Sum.inl (x.1,(),())))) (fun (y:Af)=>some (Sum.inl ((y.1.1,W (x.1.2.1+1),()),(),()))) r
 else none
 else some (Sum.inr (Sum.inr ((x.1.1,()),(),())))) ((false,0,()),(),())).bind
 fun (r:A8)=>Sum.elim (fun (x:Af)=>some (x.1,())) (fun (y:Af)=>(F_l10_awake ()).bind
 fun (r:A5)=>some r) r
 else (rl Ab A8 (fun (x:Ab)=>
 bif decide (x.1.2.1 < ↑[((r.1.1.1.1.1,r.1.1.1.1.2.1,()),r.1.1.1.2.1,r.1.1.1.2.2.1,r.1.1.1.2.2.2.1,r.1.1.1.2.2.2.2.1,()),((r_1.1.1.1.1.1,r_1.1.1.1.1.2.1,()),r_1.1.1.1.2.1,r_1.1.1.1.2.2.1,r_1.1.1.1.2.2.2.1,r_1.1.1.1.2.2.2.2.1,())].length) then
 bif inB x.1.2.1 [((r.1.1.1.1.1,r.1.1.1.1.2.1,()),r.1.1.1.2.1,r.1.1.1.2.2.1,r.1.1.1.2.2.2.1,r.1.1.1.2.2.2.2.1,()),((r_1.1.1.1.1.1,r_1.1.1.1.1.2.1,()),r_1.1.1.1.2.1,r_1.1.1.1.2.2.1,r_1.1.1.1.2.2.2.1,r_1.1.1.1.2.2.2.2.1,())].length then (F_evacuate_Begin ([((r.1.1.1.1.1,r.1.1.1.1.2.1,()),r.1.1.1.2.1,r.1.1.1.2.2.1,r.1.1.1.2.2.2.1,r.1.1.1.2.2.2.2.1,()),((r_1.1.1.1.1.1,r_1.1.1.1.1.2.1,()),r_1.1.1.1.2.1,r_1.1.1.1.2.2.1,r_1.1.1.1.2.2.2.1,r_1.1.1.1.2.2.2.2.1,())].getD x.1.2.1.toNat H0,())).bind
 fun (r_3:AQ)=>(F_r10_Begin ([((r.1.1.1.1.1,r.1.1.1.1.2.1,()),r.1.1.1.2.1,r.1.1.1.2.2.1,r.1.1.1.2.2.2.1,r.1.1.1.2.2.2.2.1,()),((r_1.1.1.1.1.1,r_1.1.1.1.1.2.1,()),r_1.1.1.1.2.1,r_1.1.1.1.2.2.1,r_1.1.1.1.2.2.2.1,r_1.1.1.1.2.2.2.2.1,())].getD x.1.2.1.toNat H0,())).bind
 fun (r_4:AQ)=>
 bif r_3.1.2.1 != r_4.1.2.1 then some (Sum.inr (Sum.inl ((false,()),(),())))
 else (F_l10_same (r_3.1.1,r_4.1.1,())).bind
 fun (r_5:A5)=>
 bif !r_5.1.1 then some (Sum.inr (Sum.inl ((false,()),(),())))
 else (rl Ab A8 (fun (x_1:Ab)=>
 bif decide (x_1.1.2.1<=↑([((r.1.1.1.1.1,r.1.1.1.1.2.1,()),r.1.1.1.2.1,r.1.1.1.2.2.1,r.1.1.1.2.2.2.1,r.1.1.1.2.2.2.2.1,()),((r_1.1.1.1.1.1,r_1.1.1.1.1.2.1,()),r_1.1.1.1.2.1,r_1.1.1.1.2.2.1,r_1.1.1.1.2.2.2.1,r_1.1.1.1.2.2.2.2.1,())].getD x.1.2.1.toNat H0).2.2.1.length) then (F_evacuate_Promoted (r_3.1.1,x_1.1.2)).bind
 fun (r:A5)=>(F_r10_Promoted (r_4.1.1,x_1.1.2)).bind
 fun (r_6:A5)=>
 bif !r.1.1 == r_6.1.1 then some (Sum.inr (Sum.inl ((false,()),(),())))
 else some (Sum.inl ((x_1.1.1,W (x_1.1.2.1+1),()),(),()))
 else some (Sum.inr (Sum.inr ((x_1.1.1,()),(),())))) ((x.1.1,-1,()),(),())).bind
 fun (r:A8)=>Sum.elim (fun (x:Af)=>some (Sum.inr (Sum.inl (x.1,(),())))) (fun (y:Af)=>some (Sum.inl ((y.1.1,W (x.1.2.1+1),()),(),()))) r
 else none
 else some (Sum.inr (Sum.inr ((x.1.1,()),(),())))) ((false,0,()),(),())).bind
 fun (r:A8)=>Sum.elim (fun (x:Af)=>some (x.1,())) (fun (y:Af)=>(F_l10_awake ()).bind
 fun (r:A5)=>some r) r
 else none:=by
  unfold F_l10_EvacuateBegins
  funext d
  kernel_rfl
end Go.VI
