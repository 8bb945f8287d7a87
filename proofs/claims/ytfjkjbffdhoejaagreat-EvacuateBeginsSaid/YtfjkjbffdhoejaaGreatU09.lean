import Derived.Test.YtfjkjbffdhoejaaGreatU07
import Derived.Test.YtfjkjbffdhoejaaGreatU08
set_option linter.unusedSimpArgs false
set_option linter.unusedVariables false
set_option maxRecDepth 100000
set_option maxHeartbeats 4000000
namespace Go.VI
open Go
theorem zvP:F_r04_New=fun (d:Ae)=>(F_r04_ValidConf d).bind
 fun (r:A5)=>
 bif !r.1.1 then some ((H0,1,()),())
 else bif decide (0<=W (d.1.2.1*d.1.1)/\W (d.1.2.1*d.1.1)<=W (d.1.2.1*d.1.1)) then
 bif zaA (W (d.1.2.1*d.1.1)).toNat 8 then
 bif decide (0<=d.1.2.1/\d.1.2.1<=d.1.2.1) then
 bif zaA d.1.2.1.toNat 32 then some (((d.1,List.replicate (W (d.1.2.1*d.1.1)).toNat (0:Int),List.replicate d.1.2.1.toNat PG0,0,-1,()),0,()),())
 else none
 else none
 else none
 else none:=by
  unfold F_r04_New
  funext d
  kernel_rfl
theorem ztm:F_r03_Size=fun (d:B0)=>(F_r03_Valid d).bind
 fun (r:A5)=>
 bif !r.1.1 then some ((0,()),())
 else some ((W (d.1.2.1+1),()),()):=by
  unfold F_r03_Size
  funext d
  kernel_rfl
theorem ztk:F_r04_Runs=fun (d:(List PgD)×Unit)=>(rl (AK×Ay×Unit) (AT×Ay×Unit) (fun (x:AK×Ay×Unit)=>
 bif decide (x.1.2.1<(d.1.length:Int)) then
 bif inB x.1.2.1 d.1.length then
 bif (d.1.getD x.1.2.1.toNat PG0).1 != 0 then some (Sum.inl (((),W (x.1.2.1+1),()),x.2))
 else bif
 bif decide ((x.2.1.1.length:Int) > 0) then inB (W ((x.2.1.1.length:Int)-1)) x.2.1.1.length
 else true then
 bif bif decide ((x.2.1.1.length:Int) > 0) then inB (W ((x.2.1.1.length:Int)-1)) x.2.1.1.length
 else true then
 bif bif
 bif decide ((x.2.1.1.length:Int) > 0) then W ((x.2.1.1.getD (W ((x.2.1.1.length:Int)-1)).toNat (0,0,())).1+(x.2.1.1.getD (W ((x.2.1.1.length:Int)-1)).toNat (0,0,())).2.1) == x.1.2.1
 else false then inB (W ((x.2.1.1.length:Int)-1)) x.2.1.1.length
 else true then
 bif bif
 bif decide ((x.2.1.1.length:Int) > 0) then W ((x.2.1.1.getD (W ((x.2.1.1.length:Int)-1)).toNat (0,0,())).1+(x.2.1.1.getD (W ((x.2.1.1.length:Int)-1)).toNat (0,0,())).2.1) == x.1.2.1
 else false then inB (W ((x.2.1.1.length:Int)-1)) x.2.1.1.length
 else true then
 bif bif
 bif decide ((x.2.1.1.length:Int) > 0) then W ((x.2.1.1.getD (W ((x.2.1.1.length:Int)-1)).toNat (0,0,())).1+(x.2.1.1.getD (W ((x.2.1.1.length:Int)-1)).toNat (0,0,())).2.1) == x.1.2.1
 else false then true
 else zaA (x.2.1.1.length + [(x.1.2.1,1,())].length) 16 then
 bif bif decide ((x.2.1.1.length:Int) > 0) then W ((x.2.1.1.getD (W ((x.2.1.1.length:Int)-1)).toNat (0,0,())).1+(x.2.1.1.getD (W ((x.2.1.1.length:Int)-1)).toNat (0,0,())).2.1) == x.1.2.1
 else false then some (Sum.inl (((),W (x.1.2.1+1),()),(x.2.1.1.set (W ((x.2.1.1.length:Int)-1)).toNat ((x.2.1.1.getD (W ((x.2.1.1.length:Int)-1)).toNat (0,0,())).1,W ((x.2.1.1.getD (W ((x.2.1.1.length:Int)-1)).toNat (0,0,())).2.1+1),()),()),()))
 else some (Sum.inl (((),W (x.1.2.1+1),()),(x.2.1.1++[(x.1.2.1,1,())],()),()))
 else none
 else none
 else none
 else none
 else none
 else none
 else some (Sum.inr (((),()),x.2))) (((),0,()),([],()),())).bind
 fun (r:AT×Ay×Unit)=>some r.2:=by
  unfold F_r04_Runs
  funext d
  kernel_rfl
theorem zrl:F_r04_First=fun (d:(List PgD)×Int×Unit)=>(F_r04_Runs (d.1,())).bind
 fun (r:Ay×Unit)=>(rl Ap Ai (fun (x:Ap)=>
 bif decide (x.1.2.1<(r.1.1.length:Int)) then
 bif bif decide (d.2.1 >= 1) then inB x.1.2.1 r.1.1.length
 else true then
 bif bif
 bif decide (d.2.1 >= 1) then decide ((r.1.1.getD x.1.2.1.toNat (0,0,())).2.1 >= d.2.1)
 else false then inB x.1.2.1 r.1.1.length
 else true then
 bif bif decide (d.2.1 >= 1) then decide ((r.1.1.getD x.1.2.1.toNat (0,0,())).2.1 >= d.2.1)
 else false then some (Sum.inr (Sum.inl (((r.1.1.getD x.1.2.1.toNat (0,0,())).1,()),(),())))
 else some (Sum.inl ((x.1.1,W (x.1.2.1+1),()),(),()))
 else none
 else none
 else some (Sum.inr (Sum.inr ((x.1.1,()),(),())))) ((0,0,()),(),())).bind
 fun (r:Ai)=>Sum.elim (fun (x:Ad)=>some (x.1,())) (fun (y:Ad)=>some ((-1,()),())) r:=by
  unfold F_r04_First
  funext d
  kernel_rfl
theorem znI:F_r04_Small_o=fun (d:(List PgD)×Int×Int×Unit)=>
 bif bif decide (d.2.2.1<0) then true
 else decide (d.2.2.1 > 1) then some (([],1,()),())
 else (F_r04_take_o (d.1,d.2.1,1,(1,d.2.2.1,0,0,()),PG0,())).bind
 fun (r:Ar×Unit)=>some r:=by
  unfold F_r04_Small_o
  funext d
  kernel_rfl
theorem zrn:F_r02_Write=fun (d:List Int×Int×List Int×Unit)=>(F_r02_span (d.1,d.2.1,(d.2.2.1.length:Int),())).bind
 fun (r:AG)=>
 bif !r.1.2.1 then some (([],2,()),())
 else bif zaA (0+d.1.length) 8 then (rl AR B3 (fun (x:AR)=>
 bif decide (x.1.1<(d.2.2.1.length:Int)) then
 bif inB x.1.1 d.2.2.1.length then
 bif inB (W (r.1.1+x.1.1)) x.2.2.1.length then some (Sum.inl ((W (x.1.1+1),()),(),x.2.2.1.set (W (r.1.1+x.1.1)).toNat (d.2.2.1.getD x.1.1.toNat 0),()))
 else none
 else none
 else some (Sum.inr ((),(),x.2.2))) ((0,()),(),d.1,())).bind
 fun (r:B3)=>some ((r.2.2.1,0,()),())
 else none:=by
  unfold F_r02_Write
  funext d
  kernel_rfl
theorem zh8:F_made_World_pick=fun (d:Av×A4×Unit)=>
 bif zaA ([0].length+d.1.2.1.length) 8 then
 bif zaA (([0]++d.1.2.1).length+d.1.2.2.1.length) 8 then (F_made_Tape_Next (d.2.1,(([0]++d.1.2.1++d.1.2.2.1).length:Int),())).bind
 fun (r:Ag)=>
 bif inB r.1.1 ([0]++d.1.2.1++d.1.2.2.1).length then some ((([0]++d.1.2.1++d.1.2.2.1).getD r.1.1.toNat 0,()),r.2)
 else none
 else none
 else none:=by
  unfold F_made_World_pick
  funext d
  kernel_rfl
theorem ztq:F_r02_Load=fun (d:A4)=>(F_r02_Index d).bind
 fun (r:Ae)=>
 bif r.1.2.1 != 0 then some ((0,r.1.2),())
 else bif inB r.1.1 d.1.length then some ((d.1.getD r.1.1.toNat 0,0,()),())
 else none:=by
  unfold F_r02_Load
  funext d
  kernel_rfl
theorem zrg:F_r05_Field=fun (d:B1)=>(F_r05_Get (d.1,d.2.1,())).bind
 fun (r:Au×Unit)=>
 bif r.1.2.1 != 0 then some ((0,r.1.2),())
 else bif
 bif decide (d.2.2.1<0) then true
 else decide (d.2.2.1 >= r.1.1.2.1) then some ((0,2,()),())
 else (F_r02_Load (d.1.2.1,U (U (d.2.1+1)+U d.2.2.1),())).bind
 fun (r:Ae)=>some r:=by
  unfold F_r05_Field
  funext d
  kernel_rfl
theorem zmg:F_r05_SetField=fun (d:A2×Int×Int×Int×Unit)=>(F_r05_Field (d.1,d.2.1,d.2.2.1,())).bind
 fun (r:Ae)=>
 bif r.1.2.1 != 0 then some ((H0,r.1.2),())
 else (F_r02_Store (d.1.2.1,U (U (d.2.1+1)+U d.2.2.1),d.2.2.2)).bind
 fun (r:AN)=>some (((d.1.1,r.1.1,d.1.2.2),0,()),()):=by
  unfold F_r05_SetField
  funext d
  kernel_rfl
theorem zh7:F_made_crowd=fun (d:AY)=>(rl Ap Ad (fun (x:Ap)=>
 bif decide (x.1.2.1<(d.1.2.2.1.length:Int)) then
 bif inB x.1.2.1 d.1.2.2.1.length then
 bif bif (d.1.2.2.1.getD x.1.2.1.toNat PG0).1 == 1 then inB x.1.2.1 d.1.2.2.1.length
 else true then some (Sum.inl ((bif
 bif (d.1.2.2.1.getD x.1.2.1.toNat PG0).1 == 1 then decide ((d.1.2.2.1.getD x.1.2.1.toNat PG0).2.2.2.1 > 0)
 else false then W (x.1.1+1)
 else x.1.1,W (x.1.2.1+1),()),(),()))
 else none
 else none
 else some (Sum.inr ((x.1.1,()),(),()))) ((0,0,()),(),())).bind
 fun (r:Ad)=>some (r.1,()):=by
  unfold F_made_crowd
  funext d
  kernel_rfl
theorem zjz:F_made_World_Pin=fun (d:Av×A4×Unit)=>(F_made_World_pick d).bind
 fun (r:Ag)=>(F_r04_Of (d.1.1.1,r.1)).bind
 fun (r_1:B0)=>
 bif r_1.1.2.2.1 != 0 then some ((d.1,()),r.2)
 else bif zaA (0+d.1.1.2.2.1.length) 32 then
 bif inB r_1.1.1 (d.1.1.2.2.1).length then
 bif decide (((d.1.1.2.2.1).getD r_1.1.1.toNat PG0).2.2.2.1 > 0) then (F_made_Tape_Next (r.2.1,2,())).bind
 fun (r:Ag)=>
 bif r.1.1 == 0 then some ((((d.1.1.1,d.1.1.2.1,(d.1.1.2.2.1).set r_1.1.1.toNat (((d.1.1.2.2.1).getD r_1.1.1.toNat PG0).1,((d.1.1.2.2.1).getD r_1.1.1.toNat PG0).2.1,((d.1.1.2.2.1).getD r_1.1.1.toNat PG0).2.2.1,W (((d.1.1.2.2.1).getD r_1.1.1.toNat PG0).2.2.2.1-1),()),d.1.1.2.2.2),d.1.2),()),r.2)
 else bif decide (((d.1.1.2.2.1).getD r_1.1.1.toNat PG0).2.2.2.1 > 0) then some ((((d.1.1.1,d.1.1.2.1,(d.1.1.2.2.1).set r_1.1.1.toNat (((d.1.1.2.2.1).getD r_1.1.1.toNat PG0).1,((d.1.1.2.2.1).getD r_1.1.1.toNat PG0).2.1,((d.1.1.2.2.1).getD r_1.1.1.toNat PG0).2.2.1,W (((d.1.1.2.2.1).getD r_1.1.1.toNat PG0).2.2.2.1+1),()),d.1.1.2.2.2),d.1.2),()),r.2)
 else bif ((d.1.1.2.2.1).getD r_1.1.1.toNat PG0).1 == 2 then some ((((d.1.1.1,d.1.1.2.1,(d.1.1.2.2.1).set r_1.1.1.toNat (((d.1.1.2.2.1).getD r_1.1.1.toNat PG0).1,((d.1.1.2.2.1).getD r_1.1.1.toNat PG0).2.1,((d.1.1.2.2.1).getD r_1.1.1.toNat PG0).2.2.1,W (((d.1.1.2.2.1).getD r_1.1.1.toNat PG0).2.2.2.1+1),()),d.1.1.2.2.2),d.1.2),()),r.2)
 else (F_made_crowd ((d.1.1.1,d.1.1.2.1,d.1.1.2.2.1,d.1.1.2.2.2),())).bind
 fun (r_2:Aa)=>
 bif !4 == 0 then
 bif decide (r_2.1.1<W (d.1.1.1.2.1.tdiv 4)) then some ((((d.1.1.1,d.1.1.2.1,(d.1.1.2.2.1).set r_1.1.1.toNat (((d.1.1.2.2.1).getD r_1.1.1.toNat PG0).1,((d.1.1.2.2.1).getD r_1.1.1.toNat PG0).2.1,((d.1.1.2.2.1).getD r_1.1.1.toNat PG0).2.2.1,W (((d.1.1.2.2.1).getD r_1.1.1.toNat PG0).2.2.2.1+1),()),d.1.1.2.2.2),d.1.2),()),r.2)
 else some ((((d.1.1.1,d.1.1.2.1,d.1.1.2.2.1,d.1.1.2.2.2),d.1.2),()),r.2)
 else none
 else bif decide (((d.1.1.2.2.1).getD r_1.1.1.toNat PG0).2.2.2.1 > 0) then some ((((d.1.1.1,d.1.1.2.1,(d.1.1.2.2.1).set r_1.1.1.toNat (((d.1.1.2.2.1).getD r_1.1.1.toNat PG0).1,((d.1.1.2.2.1).getD r_1.1.1.toNat PG0).2.1,((d.1.1.2.2.1).getD r_1.1.1.toNat PG0).2.2.1,W (((d.1.1.2.2.1).getD r_1.1.1.toNat PG0).2.2.2.1+1),()),d.1.1.2.2.2),d.1.2),()),r.2)
 else bif ((d.1.1.2.2.1).getD r_1.1.1.toNat PG0).1 == 2 then some ((((d.1.1.1,d.1.1.2.1,(d.1.1.2.2.1).set r_1.1.1.toNat (((d.1.1.2.2.1).getD r_1.1.1.toNat PG0).1,((d.1.1.2.2.1).getD r_1.1.1.toNat PG0).2.1,((d.1.1.2.2.1).getD r_1.1.1.toNat PG0).2.2.1,W (((d.1.1.2.2.1).getD r_1.1.1.toNat PG0).2.2.2.1+1),()),d.1.1.2.2.2),d.1.2),()),r.2)
 else (F_made_crowd ((d.1.1.1,d.1.1.2.1,d.1.1.2.2.1,d.1.1.2.2.2),())).bind
 fun (r_2:Aa)=>
 bif !4 == 0 then
 bif decide (r_2.1.1<W (d.1.1.1.2.1.tdiv 4)) then some ((((d.1.1.1,d.1.1.2.1,(d.1.1.2.2.1).set r_1.1.1.toNat (((d.1.1.2.2.1).getD r_1.1.1.toNat PG0).1,((d.1.1.2.2.1).getD r_1.1.1.toNat PG0).2.1,((d.1.1.2.2.1).getD r_1.1.1.toNat PG0).2.2.1,W (((d.1.1.2.2.1).getD r_1.1.1.toNat PG0).2.2.2.1+1),()),d.1.1.2.2.2),d.1.2),()),r.2)
 else some ((((d.1.1.1,d.1.1.2.1,d.1.1.2.2.1,d.1.1.2.2.2),d.1.2),()),r.2)
 else none
 else none
 else none:=by
  unfold F_made_World_Pin
  funext d
  kernel_rfl
theorem znJ:F_r04_Address=fun (d:Ah×Int×Int×Unit)=>(F_r04_ValidConf (d.1,())).bind
 fun (r:A5)=>
 bif !r.1.1 then some ((0,1,()),())
 else bif
 bif decide (d.2.1<0) then true
 else bif decide (d.2.1 >= d.1.2.1) then true
 else bif decide (d.2.2.1<0) then true
 else decide (d.2.2.1 >= d.1.1) then some ((0,2,()),())
 else some ((U (W (W (4096+W (d.2.1*d.1.1))+d.2.2.1)),0,()),()):=by
  unfold F_r04_Address
  funext d
  kernel_rfl
theorem ztf:F_r06_Page=fun (d:AB)=>(F_r04_Proper (d.1,())).bind
 fun (r:A5)=>
 bif !r.1.1 then some (([],1,()),())
 else bif
 bif decide (d.2.1<0) then true
 else decide (d.2.1 >= (d.1.2.2.1.length:Int)) then some (([],2,()),())
 else bif inB d.2.1 d.1.2.2.1.length then
 bif bif (d.1.2.2.1.getD d.2.1.toNat PG0).1 == 0 then true
 else (d.1.2.2.1.getD d.2.1.toNat PG0).1 == 3 then some (([],0,()),())
 else (rl (AI×A9×Unit) AZ (fun (x:AI×A9×Unit)=>
 bif decide (x.1.2.2.2.1<(d.1.2.2.1.getD d.2.1.toNat PG0).2.2.1) then (F_r04_Address (d.1.1,d.2.1,x.1.2.2.2)).bind
 fun (r:Ae)=>(F_r05_At (d.1,r.1.1,())).bind
 fun (r_1:Au×Unit)=>
 bif r_1.1.2.1 != 0 then some (Sum.inr (Sum.inl (([],19,()),(),())))
 else bif zaA (x.2.1.1.length + [r.1.1].length) 8 then
 bif (d.1.2.2.1.getD d.2.1.toNat PG0).1 == 2 then some (Sum.inr (Sum.inr ((x.1.1,x.1.2.1,(),()),(x.2.1.1++[r.1.1],()),())))
 else (F_r03_Size (r_1.1.1,())).bind
 fun (r_2:Aa)=>some (Sum.inl ((x.1.1,x.1.2.1,(),W (x.1.2.2.2.1+r_2.1.1),()),(x.2.1.1++[r.1.1],()),()))
 else none
 else some (Sum.inr (Sum.inr ((x.1.1,x.1.2.1,(),()),x.2)))) (([],0,(),0,()),([],()),())).bind
 fun (r:AZ)=>Sum.elim (fun (x:A4×Unit×Unit)=>some (x.1,())) (fun (y:AC×A9×Unit)=>some ((y.2.1.1,0,()),())) r
 else none:=by
  unfold F_r06_Page
  funext d
  kernel_rfl
theorem ztd:F_r06_word=fun (d:B1)=>(F_r04_Address (d.1.1,d.2)).bind
 fun (r:Ae)=>(F_r02_Load (d.1.2.1,r.1.1,())).bind
 fun (r:Ae)=>some ((r.1.1,()),()):=by
  unfold F_r06_word
  funext d
  kernel_rfl
theorem zpt:F_r06_Starts=fun (d:AY)=>(F_r04_Proper d).bind
 fun (r:A5)=>
 bif !r.1.1 then some (([],1,()),())
 else (rl (AI×A9×Unit) AZ (fun (x:AI×A9×Unit)=>
 bif decide (x.1.2.2.2.1<(d.1.2.2.1.length:Int)) then (F_r06_Page (d.1,x.1.2.2.2)).bind
 fun (r:AN)=>
 bif r.1.2.1 != 0 then some (Sum.inr (Sum.inl (([],r.1.2),(),())))
 else bif zaA (x.2.1.1.length+r.1.1.length) 8 then some (Sum.inl ((x.1.1,x.1.2.1,(),W (x.1.2.2.2.1+1),()),(x.2.1.1++r.1.1,()),()))
 else none
 else some (Sum.inr (Sum.inr ((x.1.1,x.1.2.1,(),()),x.2)))) (([],0,(),0,()),([],()),())).bind
 fun (r:AZ)=>Sum.elim (fun (x:A4×Unit×Unit)=>some (x.1,())) (fun (y:AC×A9×Unit)=>some ((y.2.1.1,0,()),())) r:=by
  unfold F_r06_Starts
  funext d
  kernel_rfl
theorem znH:F_r06_Objects=fun (d:AY)=>(F_r06_Starts d).bind
 fun (r:AN)=>(rl (AK×A9×Unit) (AT×A9×Unit) (fun (x:AK×A9×Unit)=>
 bif decide (x.1.2.1<(r.1.1.length:Int)) then
 bif inB x.1.2.1 r.1.1.length then (F_r05_At (d.1,r.1.1.getD x.1.2.1.toNat 0,())).bind
 fun (r_1:Au×Unit)=>
 bif bif r_1.1.1.1 != 0 then inB x.1.2.1 r.1.1.length
 else true then
 bif bif r_1.1.1.1 != 0 then zaA (x.2.1.1.length + [r.1.1.getD x.1.2.1.toNat 0].length) 8
 else true then
 bif r_1.1.1.1 != 0 then some (Sum.inl (((),W (x.1.2.1+1),()),(x.2.1.1++[r.1.1.getD x.1.2.1.toNat 0],()),()))
 else some (Sum.inl (((),W (x.1.2.1+1),()),x.2))
 else none
 else none
 else none
 else some (Sum.inr (((),()),x.2))) (((),0,()),([],()),())).bind
 fun (r_1:AT×A9×Unit)=>some ((r_1.2.1.1,r.1.2),()):=by
  unfold F_r06_Objects
  funext d
  kernel_rfl
theorem zpx:F_r03_Target=fun (d:Aw)=>
 bif !4 == 0 then
 bif bif d.1.tmod 4 != 2 then true
 else !decide (2<0) then
 bif bif d.1.tmod 4 != 2 then true
 else decide (d.1.fdiv (2 ^ min (Int.toNat 2) IntKind.u64.bits) >= 4294967296) then some ((0,false,()),())
 else bif !decide (2<0) then some ((d.1.fdiv (2 ^ min (Int.toNat 2) IntKind.u64.bits),true,()),())
 else none
 else none
 else none:=by
  unfold F_r03_Target
  funext d
  kernel_rfl
theorem zs6:F_r10_keep=fun (d:AW)=>
 bif zaA (0+d.1.2.2.2.1.length) 8 then
 bif zaA ((d.1.2.2.2.1).length + [d.2.1].length) 8 then some (((d.1.1,d.1.2.1,d.1.2.2.1,d.1.2.2.2.1++[d.2.1],d.1.2.2.2.2.1,(d.1.2.2.2.2.2.1.1,W (d.1.2.2.2.2.2.1.2.1+1),d.1.2.2.2.2.2.1.2.2),()),()),())
 else none
 else none:=by
  unfold F_r10_keep
  funext d
  kernel_rfl
theorem zvL:F_r10_Get=fun (d:AW)=>(F_r02_Load (d.1.1.2.1,d.2)).bind
 fun (r:Ae)=>(F_r03_Decode (r.1.1,())).bind
 fun (r:(A7×Bool×Unit)×Unit)=>some ((r.1.1,()),()):=by
  unfold F_r10_Get
  funext d
  kernel_rfl
theorem zmh:F_r03_Pointers=fun (d:B0)=>(rl (AK×A9×Unit) (AT×A9×Unit) (fun (x:AK×A9×Unit)=>
 bif decide (x.1.2.1<d.1.2.1) then (F_r03_Valid d).bind
 fun (r:A5)=>
 bif r.1.1 then (F_r03_Pointer (d.1,x.1.2)).bind
 fun (r:A5)=>
 bif bif r.1.1 then zaA (x.2.1.1.length + [x.1.2.1].length) 8
 else true then
 bif r.1.1 then some (Sum.inl (((),W (x.1.2.1+1),()),(x.2.1.1++[x.1.2.1],()),()))
 else some (Sum.inl (((),W (x.1.2.1+1),()),x.2))
 else none
 else some (Sum.inr (((),()),x.2))
 else some (Sum.inr (((),()),x.2))) (((),0,()),([],()),())).bind
 fun (r:AT×A9×Unit)=>some r.2:=by
  unfold F_r03_Pointers
  funext d
  kernel_rfl
theorem zs3:F_r12_free=fun (d:Ac×Unit)=>
 bif zaA (0+d.1.1.2.2.1.length) 32 then
 bif zaA (0+d.1.1.2.1.length) 8 then (rl (Aw×B6×Ao×Unit) (Unit×B6×Ao×Unit) (fun (x:Aw×B6×Ao×Unit)=>
 bif decide (x.1.1<(x.2.1.2.1.length:Int)) then
 bif inB x.1.1 x.2.1.2.1.length then
 bif bif (x.2.1.2.1.getD x.1.1.toNat PG0).1 == 0 then true
 else (x.2.1.2.1.getD x.1.1.toNat PG0).2.1 != x.2.2.1.2.2.2.2.1 then some (Sum.inl ((W (x.1.1+1),()),x.2.1,(x.2.2.1.1,x.2.2.1.2.1,(),(),x.2.2.1.2.2.2.2),()))
 else bif inB x.1.1 x.2.1.2.1.length then (rl AR B3 (fun (x_1:AR)=>
 bif decide (x_1.1.1<x.2.2.1.1) then
 bif inB (W (W (x.1.1*x.2.2.1.1)+x_1.1.1)) x_1.2.2.1.length then some (Sum.inl ((W (x_1.1.1+1),()),(),x_1.2.2.1.set (W (W (x.1.1*x.2.2.1.1)+x_1.1.1)).toNat 0,()))
 else none
 else some (Sum.inr ((),(),x_1.2.2))) ((0,()),(),x.2.1.1,())).bind
 fun (r:B3)=>some (Sum.inl ((W (x.1.1+1),()),(r.2.2.1,x.2.1.2.1.set x.1.1.toNat PG0,()),(x.2.2.1.1,x.2.2.1.2.1,(),(),x.2.2.1.2.2.2.2.1,x.2.2.1.2.2.2.2.2.1,x.2.2.1.2.2.2.2.2.2.1,x.2.2.1.2.2.2.2.2.2.2.1,x.2.2.1.2.2.2.2.2.2.2.2.1,x.2.2.1.2.2.2.2.2.2.2.2.2.1,x.2.2.1.2.2.2.2.2.2.2.2.2.2.1,x.2.2.1.2.2.2.2.2.2.2.2.2.2.2.1,x.2.2.1.2.2.2.2.2.2.2.2.2.2.2.2.1,W (x.2.2.1.2.2.2.2.2.2.2.2.2.2.2.2.2.1+1),x.2.2.1.2.2.2.2.2.2.2.2.2.2.2.2.2.2),()))
 else none
 else none
 else some (Sum.inr ((),x.2.1,(x.2.2.1.1,x.2.2.1.2.1,(),(),x.2.2.1.2.2.2.2),()))) ((0,()),(d.1.1.2.1,d.1.1.2.2.1,()),(d.1.1.1.1,d.1.1.1.2.1,(),(),d.1.1.2.2.2.1,d.1.1.2.2.2.2.1,d.1.2.1,d.1.2.2.1,d.1.2.2.2.1,d.1.2.2.2.2.1,d.1.2.2.2.2.2.1),())).bind
 fun (r:Unit×B6×Ao×Unit)=>some (((((r.2.2.1.1,r.2.2.1.2.1,()),r.2.1.1,r.2.1.2.1,r.2.2.1.2.2.2.2.1,r.2.2.1.2.2.2.2.2.1,()),r.2.2.1.2.2.2.2.2.2.1,r.2.2.1.2.2.2.2.2.2.2.1,r.2.2.1.2.2.2.2.2.2.2.2.1,r.2.2.1.2.2.2.2.2.2.2.2.2.1,r.2.2.1.2.2.2.2.2.2.2.2.2.2,()),()),())
 else none
 else none:=by
  unfold F_r12_free
  funext d
  kernel_rfl
theorem znE:F_r12_Collect=fun (d:Av)=>(F_r04_Proper (d.1,())).bind
 fun (r:A5)=>
 bif !r.1.1 then some ((H0,[],[],(0,0,0,0,0,0,()),1,()),())
 else (F_r09_Refers (d.1,d.2.1,())).bind
 fun (r:A5)=>
 bif !r.1.1 then some ((H0,[],[],(0,0,0,0,0,0,()),19,()),())
 else (F_r09_Refers (d.1,d.2.2)).bind
 fun (r:A5)=>
 bif !r.1.1 then some ((H0,[],[],(0,0,0,0,0,0,()),19,()),())
 else (F_r10_Begin (d.1,())).bind
 fun (r:AQ)=>(F_r11_Roots (r.1.1,d.2.1,())).bind
 fun (r:(A3×List Int×Int×Unit)×Unit)=>
 bif r.1.2.2.1 != 0 then some ((H0,[],[],(0,0,0,0,0,0,()),r.1.2.2),())
 else (F_r11_All (r.1.1,())).bind
 fun (r_1:AQ)=>
 bif r_1.1.2.1 != 0 then some ((H0,[],[],(0,0,0,0,0,0,()),r_1.1.2),())
 else (rl (AK×A9×A0×Unit) (AT×A9×A0×Unit) (fun (x:AK×A9×A0×Unit)=>
 bif decide (x.1.2.1<(d.2.2.1.length:Int)) then
 bif inB x.1.2.1 d.2.2.1.length then
 bif bif d.2.2.1.getD x.1.2.1.toNat 0 != 0 then inB x.1.2.1 d.2.2.1.length
 else true then
 bif d.2.2.1.getD x.1.2.1.toNat 0 != 0 then (F_r12_after ((((x.2.2.1.1,x.2.2.1.2.1,()),x.2.2.1.2.2.1,x.2.2.1.2.2.2.1,x.2.2.1.2.2.2.2.1,x.2.2.1.2.2.2.2.2.1,()),x.2.2.1.2.2.2.2.2.2.1,x.2.2.1.2.2.2.2.2.2.2.1,x.2.2.1.2.2.2.2.2.2.2.2.1,x.2.2.1.2.2.2.2.2.2.2.2.2.1,x.2.2.1.2.2.2.2.2.2.2.2.2.2,()),d.2.2.1.getD x.1.2.1.toNat 0,())).bind
 fun (r:Aa)=>
 bif r.1.1 == 0 then
 bif zaA (x.2.1.1.length + [r.1.1].length) 8 then some (Sum.inl (((),W (x.1.2.1+1),()),(x.2.1.1++[r.1.1],()),(x.2.2.1.1,x.2.2.1.2.1,x.2.2.1.2.2.1,x.2.2.1.2.2.2.1,x.2.2.1.2.2.2.2.1,x.2.2.1.2.2.2.2.2.1,x.2.2.1.2.2.2.2.2.2.1,x.2.2.1.2.2.2.2.2.2.2.1,x.2.2.1.2.2.2.2.2.2.2.2.1,x.2.2.1.2.2.2.2.2.2.2.2.2.1,x.2.2.1.2.2.2.2.2.2.2.2.2.2.1,x.2.2.1.2.2.2.2.2.2.2.2.2.2.2.1,x.2.2.1.2.2.2.2.2.2.2.2.2.2.2.2.1,x.2.2.1.2.2.2.2.2.2.2.2.2.2.2.2.2.1,W (x.2.2.1.2.2.2.2.2.2.2.2.2.2.2.2.2.2.1+1),x.2.2.1.2.2.2.2.2.2.2.2.2.2.2.2.2.2.2),()))
 else none
 else bif zaA (x.2.1.1.length + [r.1.1].length) 8 then some (Sum.inl (((),W (x.1.2.1+1),()),(x.2.1.1++[r.1.1],()),x.2.2))
 else none
 else bif zaA (x.2.1.1.length + [0].length) 8 then some (Sum.inl (((),W (x.1.2.1+1),()),(x.2.1.1++[0],()),x.2.2))
 else none
 else none
 else none
 else some (Sum.inr (((),()),x.2))) (((),0,()),([],()),(r_1.1.1.1.1.1,r_1.1.1.1.1.2.1,r_1.1.1.1.2.1,r_1.1.1.1.2.2.1,r_1.1.1.1.2.2.2.1,r_1.1.1.1.2.2.2.2.1,r_1.1.1.2.1,r_1.1.1.2.2.1,r_1.1.1.2.2.2.1,r_1.1.1.2.2.2.2.1,r_1.1.1.2.2.2.2.2.1),())).bind
 fun (r_2:AT×A9×A0×Unit)=>(F_r12_fill ((((r_2.2.2.1.1,r_2.2.2.1.2.1,()),r_2.2.2.1.2.2.1,r_2.2.2.1.2.2.2.1,r_2.2.2.1.2.2.2.2.1,r_2.2.2.1.2.2.2.2.2.1,()),r_2.2.2.1.2.2.2.2.2.2.1,r_2.2.2.1.2.2.2.2.2.2.2.1,r_2.2.2.1.2.2.2.2.2.2.2.2.1,r_2.2.2.1.2.2.2.2.2.2.2.2.2.1,r_2.2.2.1.2.2.2.2.2.2.2.2.2.2,()),())).bind
 fun (r_3:AL)=>(F_r12_free r_3.1).bind
 fun (r_4:AL)=>
 bif bif decide ((r_4.1.1.2.2.1.length:Int) > 0) then inB (W ((r_4.1.1.2.2.1.length:Int)-1)) r_4.1.1.2.2.1.length
 else true then
 bif decide ((r_4.1.1.2.2.1.length:Int) > 0) then some (((r_4.1.1.1.1,r_4.1.1.1.2.1,r_4.1.1.1.2.2.1,W (1-r_4.1.1.1.2.2.2.1),r_4.1.1.2.2.1.getD (W ((r_4.1.1.2.2.1.length:Int)-1)).toNat 0,()),r.1.2.1,r_2.2.1.1,r_4.1.1.2.2.2.2.2.1,0,()),())
 else some (((r_4.1.1.1.1,r_4.1.1.1.2.1,r_4.1.1.1.2.2.1,W (1-r_4.1.1.1.2.2.2.1),-1,()),r.1.2.1,r_2.2.1.1,r_4.1.1.2.2.2.2.2.1,0,()),())
 else none:=by
  unfold F_r12_Collect
  funext d
  kernel_rfl
theorem zdd:F_made_Make=fun (d:A9)=>
 bif bif decide ((d.1.length:Int) > 300) then decide ((0:Int)<=0/\(0:Int)<=300/\300<=(d.1.length:Int))
 else true then (F_made_Tape_Empty ((bif decide ((d.1.length:Int) > 300) then List.drop (Int.toNat 0) (List.take (Int.toNat 300) d.1)
 else d.1,0,()),())).bind
 fun (r:Aj×A4×Unit)=>(rl (Aj×Unit×A4×An×Unit) (Aj×Unit×A4×An×Unit) (fun (x:Aj×Unit×A4×An×Unit)=>(F_made_Tape_Done (x.2.2.1,())).bind
 fun (r:AO×A4×Unit)=>
 bif !r.1.1 then (F_made_World_Step ((((x.2.2.2.1.1,x.2.2.2.1.2.1,()),x.2.2.2.1.2.2.1,x.2.2.2.1.2.2.2.1,x.2.2.2.1.2.2.2.2.1,x.2.2.2.1.2.2.2.2.2.1,()),x.2.2.2.1.2.2.2.2.2.2),r.2)).bind
 fun (r:Aj×A4×Unit)=>some (Sum.inl (x.1,(),r.2.1,(r.1.1.1.1.1,r.1.1.1.1.2.1,r.1.1.1.2.1,r.1.1.1.2.2.1,r.1.1.1.2.2.2.1,r.1.1.1.2.2.2.2.1,r.1.1.2),()))
 else some (Sum.inr (x.1,(),r.2.1,x.2.2.2))) (r.1,(),r.2.1,(r.1.1.1.1.1,r.1.1.1.1.2.1,r.1.1.1.2.1,r.1.1.1.2.2.1,r.1.1.1.2.2.2.1,r.1.1.1.2.2.2.2.1,r.1.1.2),())).bind
 fun (r:Aj×Unit×A4×An×Unit)=>some (((((r.2.2.2.1.1,r.2.2.2.1.2.1,()),r.2.2.2.1.2.2.1,r.2.2.2.1.2.2.2.1,r.2.2.2.1.2.2.2.2.1,r.2.2.2.1.2.2.2.2.2.1,()),r.2.2.2.1.2.2.2.2.2.2),()),())
 else none:=by
  unfold F_made_Make
  funext d
  kernel_rfl
theorem zpD:F_made_Light=fun (d:AY)=>some ((bif decide ((d.1.2.1.length:Int)<=5000) then decide ((d.1.2.2.1.length:Int)<=100)
 else false,()),()):=by
  unfold F_made_Light
  funext d
  kernel_rfl
theorem znM:F_page_within=fun (d:A7)=>some ((bif decide (d.2.1<=d.1) then decide (d.1<=d.2.2.1)
 else false,()),()):=by
  unfold F_page_within
  funext d
  kernel_rfl
theorem zmj:F_page_isSpace=fun (d:Aw)=>some ((bif d.1 == 0 then true
 else d.1 == 1,()),()):=by
  unfold F_page_isSpace
  funext d
  kernel_rfl
theorem zh3:F_page_table_tail=fun (d:AM)=>
 bif inB d.2.1 d.1.2.1.length then
 bif (d.1.2.1.getD d.2.1.toNat PG0).2.2.1 == 0 then
 bif (d.1.2.1.getD d.2.1.toNat PG0).2.2.2.1 == 0 then (F_page_table_owned d).bind
 fun (r:A5)=>some r
 else some ((false,()),())
 else some ((false,()),())
 else none:=by
  unfold F_page_table_tail
  funext d
  kernel_rfl
theorem znC:F_walk_inPage=fun (d:AB)=>some ((d,()),()):=by
 unfold F_walk_inPage
 funext d
 kernel_rfl
theorem zpr:F_walk_isAny=fun (d:B0)=>some ((true,()),()):=by
 unfold F_walk_isAny
 funext d
 kernel_rfl
theorem zdv:F_bits_fit_c_bits_Unpack_S1=fun (d:Int×List Int×Unit)=>(rl (AD×Unit×A9×Unit) (AO×Unit×A9×Unit⊕AO×Unit×A9×Unit) (fun (x:AD×Unit×A9×Unit)=>
 bif decide (x.1.2.2.1<d.1) then (F_bits_Unpack_S1_c (x.1.2.2.1,x.2.2.1)).bind
 fun (r:Aw×List Int×Unit)=>
 bif decide (r.1.1<1) then some (Sum.inr (Sum.inl ((false,()),(),r.2,())))
 else (F_bits_Unpack_S1_c (x.1.2.2.1,r.2)).bind
 fun (r:Aw×List Int×Unit)=>
 bif decide (r.1.1 > x.1.2.1) then some (Sum.inr (Sum.inl ((false,()),(),r.2,())))
 else (F_bits_Unpack_S1_c (x.1.2.2.1,r.2)).bind
 fun (r:Aw×List Int×Unit)=>some (Sum.inl ((x.1.1,W (x.1.2.1-r.1.1),W (x.1.2.2.1+1),()),(),r.2,()))
 else some (Sum.inr (Sum.inr ((x.1.1,()),(),x.2.2)))) ((false,64,0,()),(),d.2,())).bind
 fun (r:AO×Unit×A9×Unit⊕AO×Unit×A9×Unit)=>Sum.elim (fun (x:AO×Unit×A9×Unit)=>some (x.1,x.2.2.1)) (fun (y:AO×Unit×A9×Unit)=>some ((true,()),y.2.2.1)) r:=by
  unfold F_bits_fit_c_bits_Unpack_S1
  funext d
  kernel_rfl
theorem zk1:F_audit_belongs=fun (d:Ah×Int×A7×Unit)=>
 bif d.2.1 == 2 then some ((d.2.2.1.1 != 0,()),())
 else (F_header_Size d.2.2).bind
 fun (r:Aa)=>(F_page_SmallWords (d.1,())).bind
 fun (r_1:Aa)=>some ((decide (r.1.1<=r_1.1.1),()),()):=by
  unfold F_audit_belongs
  funext d
  kernel_rfl
theorem zml:F_page_Address=fun (d:Ah×Int×Int×Unit)=>(F_page_ValidConf (d.1,())).bind
 fun (r:A5)=>
 bif !r.1.1 then some ((0,1,()),())
 else (F_page_within (d.2.1,0,W (d.1.2.1-1),())).bind
 fun (r:A5)=>
 bif !r.1.1 then some ((0,2,()),())
 else (F_page_within (d.2.2.1,0,W (d.1.1-1),())).bind
 fun (r:A5)=>
 bif !r.1.1 then some ((0,2,()),())
 else some ((U (4096+U (W (W (d.2.1*d.1.1)+d.2.2.1))),0,()),()):=by
  unfold F_page_Address
  funext d
  kernel_rfl
theorem zpF:F_audit_span=fun (d:AB)=>
 bif inB d.2.1 d.1.2.2.1.length then
 bif (d.1.2.2.1.getD d.2.1.toNat PG0).1 == 2 then (F_page_Need (d.1.1,(d.1.2.2.1.getD d.2.1.toNat PG0).2.2.1,())).bind
 fun (r:Aa)=>(F_page_Address (d.1.1,d.2.1,0,())).bind
 fun (r_1:Ae)=>some ((r_1.1.1,U (r_1.1.1+U (W (r.1.1*d.1.1.1))),()),())
 else (F_page_Address (d.1.1,d.2.1,0,())).bind
 fun (r:Ae)=>some ((r.1.1,U (r.1.1+U (W ((bif (d.1.2.2.1.getD d.2.1.toNat PG0).1 == 3 then 0
 else 1)*d.1.1.1))),()),())
 else none:=by
  unfold F_audit_span
  funext d
  kernel_rfl
theorem zpE:F_audit_word=fun (d:AB)=>
 bif inB (U (d.2.1-4096)) d.1.2.1.length then some ((d.1.2.1.getD (U (d.2.1-4096)).toNat 0,()),())
 else none:=by
  unfold F_audit_word
  funext d
  kernel_rfl
theorem zd4:F_audit_findingAt=fun (d:B1)=>(F_page_Of (d.1.1,d.2.2)).bind
 fun (r:B0)=>some (((d.2.1,r.1.1,d.2.2),()),()):=by
  unfold F_audit_findingAt
  funext d
  kernel_rfl
theorem zih:F_audit_checkPage=fun (d:AB)=>
 bif inB d.2.1 d.1.2.2.1.length then
 bif bif (d.1.2.2.1.getD d.2.1.toNat PG0).1 != 0 then (d.1.2.2.1.getD d.2.1.toNat PG0).2.1 != d.1.2.2.2.1
 else false then some (((2,d.2.1,0,()),()),())
 else (F_audit_partsOf d).bind
 fun (r:(List Az×Int×Unit)×Unit)=>
 bif r.1.2.1 != 0 then some (((3,d.2.1,0,()),()),())
 else (F_audit_checkClasses (d.1,d.2.1,r.1.1,())).bind
 fun (r_1:Ax)=>(F_audit_checkDirt (d.1,d.2.1,r.1.1,())).bind
 fun (r:Ax)=>(F_cmp_Or_audit_Finding ([(r_1.1.1.1,r_1.1.1.2.1,r_1.1.1.2.2.1,()),(r.1.1.1,r.1.1.2.1,r.1.1.2.2.1,())],())).bind
 fun (r:Ax)=>some r
 else none:=by
  unfold F_audit_checkPage
  funext d
  kernel_rfl
theorem zbz:F_walk_list_c_walk_inHeap_S1_walk_isObject=fun (d:AY)=>((listH d).bind
 fun (L:List (Int×Au×Unit))=>fg Al Al (Int×Au×Unit) (fun (y:Int×Au×Unit) (x:Al)=>
 bif y.2.1.2.1 != 0 then some (Sum.inr ((),x.2.1,([],()),y.2.1.2,((),()),()))
 else (F_walk_isObject (y.2.1.1,())).bind
 fun (r:A5)=>
 bif bif r.1.1 then zaA (x.2.1.1.length + [y.1].length) 8
 else true then
 bif r.1.1 then some (Sum.inl ((),(x.2.1.1++[y.1],()),x.2.2.1,x.2.2.2.1,((),()),()))
 else some (Sum.inl ((),x.2.1,x.2.2.1,x.2.2.2.1,((),()),()))
 else none) L ((),([],()),([],()),(0,()),((),()),())).bind
 fun (r:Unit×A9×A9×Aw×AT×Unit⊕Unit×A9×A9×Aw×AT×Unit)=>Sum.elim (fun (x:Al)=>some ((x.2.1.1,0,()),d)) (fun (y:Al)=>some ((y.2.2.1.1,y.2.2.2.1),d)) r:=by
  unfold F_walk_list_c_walk_inHeap_S1_walk_isObject
  funext d
  kernel_rfl
theorem zpC:F_object_Get=fun (d:AB)=>(F_object_At d).bind
 fun (r:Au×Unit)=>
 bif bif r.1.2.1 == 2 then d.2.1 == 0
 else false then some (((0,0,0,()),5,()),())
 else bif
 bif r.1.2.1 == 0 then r.1.1.1 == 0
 else false then some (((0,0,0,()),4,()),())
 else some r:=by
  unfold F_object_Get
  funext d
  kernel_rfl
theorem zjD:F_evacuate_owned=fun (d:Ac×Unit)=>(F_slices_Clone_uint64 (d.1.1.2.1,())).bind
 fun (r:A9×Unit)=>(F_slices_Clone_api_Page (d.1.1.2.2.1,())).bind
 fun (r_1:(List PgD×Unit)×Unit)=>(F_slices_Clone_uint64 (d.1.2.1,())).bind
 fun (r_2:A9×Unit)=>(F_slices_Clone_int (d.1.2.2.1,())).bind
 fun (r_3:A9×Unit)=>(F_slices_Clone_uint64 (d.1.2.2.2.1,())).bind
 fun (r_4:A9×Unit)=>some ((((d.1.1.1,r.1.1,r_1.1.1,d.1.1.2.2.2),r_2.1.1,r_3.1.1,r_4.1.1,d.1.2.2.2.2),()),()):=by
  unfold F_evacuate_owned
  funext d
  kernel_rfl
theorem zgP:F_evacuate_newSpace=fun (d:AY)=>some ((W (1-d.1.2.2.2.1),()),()):=by
 unfold F_evacuate_newSpace
 funext d
 kernel_rfl
theorem zjE:F_evacuate_Begin=fun (d:AY)=>(F_page_Proper d).bind
 fun (r:A5)=>
 bif !r.1.1 then some (((H0,[],[],[],0,(0,0,0,0,0,0,()),()),1,()),())
 else (F_audit_Good d).bind
 fun (r:A5)=>
 bif !r.1.1 then some (((H0,[],[],[],0,(0,0,0,0,0,0,()),()),19,()),())
 else (F_walk_Objects d).bind
 fun (r:AN)=>(F_evacuate_owned ((d.1,r.1.1,[],[],0,(0,0,0,0,0,0,()),()),())).bind
 fun (r:AL)=>(rl Am As (fun (x:Am)=>
 bif decide (x.1.1<(r.1.1.1.2.2.1.length:Int)) then
 bif inB x.1.1 x.2.2.1.length then
 bif bif (x.2.2.1.getD x.1.1.toNat PG0).1 == 1 then decide ((x.2.2.1.getD x.1.1.toNat PG0).2.2.2.1 > 0)
 else false then (F_evacuate_newSpace d).bind
 fun (r:Aa)=>
 bif inB x.1.1 x.2.2.1.length then some (Sum.inl ((W (x.1.1+1),()),(),x.2.2.1.set x.1.1.toNat ((x.2.2.1.getD x.1.1.toNat PG0).1,r.1.1,(x.2.2.1.getD x.1.1.toNat PG0).2.2.1,(x.2.2.1.getD x.1.1.toNat PG0).2.2.2.1,()),()))
 else none
 else some (Sum.inl ((W (x.1.1+1),()),(),x.2.2))
 else none
 else some (Sum.inr ((),(),x.2.2))) ((0,()),(),r.1.1.1.2.2.1,())).bind
 fun (r_1:As)=>some ((((r.1.1.1.1,r.1.1.1.2.1,r_1.2.2.1,r.1.1.1.2.2.2),r.1.1.2),0,()),()):=by
  unfold F_evacuate_Begin
  funext d
  kernel_rfl
theorem zmd:F_r10_SameInts=fun (d:List Int×List Int×Unit)=>
 bif (d.1.length:Int) != (d.2.1.length:Int) then some ((false,()),())
 else (rl Ab A8 (fun (x:Ab)=>
 bif decide (x.1.2.1<(d.1.length:Int)) then
 bif inB x.1.2.1 d.1.length then
 bif inB x.1.2.1 d.2.1.length then
 bif d.1.getD x.1.2.1.toNat 0 != d.2.1.getD x.1.2.1.toNat 0 then some (Sum.inr (Sum.inl ((false,()),(),())))
 else some (Sum.inl ((x.1.1,W (x.1.2.1+1),()),(),()))
 else none
 else none
 else some (Sum.inr (Sum.inr ((x.1.1,()),(),())))) ((false,0,()),(),())).bind
 fun (r:A8)=>Sum.elim (fun (x:Af)=>some (x.1,())) (fun (y:Af)=>some ((true,()),())) r:=by
  unfold F_r10_SameInts
  funext d
  kernel_rfl
theorem zfG:F_slices_Contains_int=fun (d:A4)=>(F_slices_Index_int d).bind
 fun (r:Aa)=>some ((decide (r.1.1 >= 0),()),()):=by
  unfold F_slices_Contains_int
  funext d
  kernel_rfl
theorem zpB:F_page_InUse=fun (d:(List PgD)×Unit)=>(rl Ap Ad (fun (x:Ap)=>
 bif decide (x.1.2.1<(d.1.length:Int)) then
 bif inB x.1.2.1 d.1.length then some (Sum.inl ((bif (d.1.getD x.1.2.1.toNat PG0).1 != 0 then W (x.1.1+1)
 else x.1.1,W (x.1.2.1+1),()),(),()))
 else none
 else some (Sum.inr ((x.1.1,()),(),()))) ((0,0,()),(),())).bind
 fun (r:Ad)=>some (r.1,()):=by
  unfold F_page_InUse
  funext d
  kernel_rfl
theorem zdZ:F_bits_fit_c_bits_Pack_S1=fun (d:Int×(List Ah)×Unit)=>(rl (AD×Unit×Ay×Unit) (AO×Unit×Ay×Unit⊕AO×Unit×Ay×Unit) (fun (x:AD×Unit×Ay×Unit)=>
 bif decide (x.1.2.2.1<d.1) then (F_bits_Pack_S1_c (x.1.2.2.1,x.2.2.1)).bind
 fun (r:Aw×List Ah×Unit)=>
 bif decide (r.1.1<1) then some (Sum.inr (Sum.inl ((false,()),(),r.2,())))
 else (F_bits_Pack_S1_c (x.1.2.2.1,r.2)).bind
 fun (r:Aw×List Ah×Unit)=>
 bif decide (r.1.1 > x.1.2.1) then some (Sum.inr (Sum.inl ((false,()),(),r.2,())))
 else (F_bits_Pack_S1_c (x.1.2.2.1,r.2)).bind
 fun (r:Aw×List Ah×Unit)=>some (Sum.inl ((x.1.1,W (x.1.2.1-r.1.1),W (x.1.2.2.1+1),()),(),r.2,()))
 else some (Sum.inr (Sum.inr ((x.1.1,()),(),x.2.2)))) ((false,64,0,()),(),d.2,())).bind
 fun (r:AO×Unit×Ay×Unit⊕AO×Unit×Ay×Unit)=>Sum.elim (fun (x:AO×Unit×Ay×Unit)=>some (x.1,x.2.2.1)) (fun (y:AO×Unit×Ay×Unit)=>some ((true,()),y.2.2.1)) r:=by
  unfold F_bits_fit_c_bits_Pack_S1
  funext d
  kernel_rfl
theorem zeL:F_evacuate_copying_move=fun (d:AF)=>(F_arena_Move (d.1.1.1.2.1,d.1.2.2.2.1,d.1.2.2.1,d.1.2.1,())).bind
 fun (r:AN)=>
 bif r.1.2.1 != 0 then some (r.1.2,d)
 else (F_header_Forward d.1.2.2.2).bind
 fun (r_1:Ae)=>
 bif r_1.1.2.1 != 0 then some (r_1.1.2,d)
 else (F_arena_Store (r.1.1,d.1.2.2.1,r_1.1.1,())).bind
 fun (r:AN)=>some (r.1.2,(((d.1.1.1.1,r.1.1,d.1.1.1.2.2),d.1.1.2),d.1.2),()):=by
  unfold F_evacuate_copying_move
  funext d
  kernel_rfl
theorem zfH:F_evacuate_copying_do=fun (d:AF)=>(F_evacuate_copying_place d).bind
 fun (r:At)=>
 bif r.1.1 != 0 then some r
 else (F_evacuate_copying_move r.2).bind
 fun (r:At)=>
 bif r.1.1 != 0 then some r
 else bif zaA (r.2.1.1.2.2.2.1.length + [r.2.1.2.2.2.1].length) 8 then some ((0,()),((r.2.1.1.1,r.2.1.1.2.1,r.2.1.1.2.2.1,r.2.1.1.2.2.2.1++[r.2.1.2.2.2.1],r.2.1.1.2.2.2.2.1,(W (r.2.1.1.2.2.2.2.2.1.1+1),r.2.1.1.2.2.2.2.2.1.2),()),r.2.1.2),())
 else none:=by
  unfold F_evacuate_copying_do
  funext d
  kernel_rfl
end Go.VI
