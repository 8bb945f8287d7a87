import Derived.Test.YtfjkjbffdhoejaaGreatV07
import Derived.Test.YtfjkjbffdhoejaaGreatV08
set_option linter.unusedSimpArgs false
set_option linter.unusedVariables false
set_option maxRecDepth 100000
set_option maxHeartbeats 4000000
namespace Go.VI
open Go
theorem zvR:F_r04_New=fun (d:Ad)=>(F_r04_ValidConf d).bind
 fun (r:A5)=>
 bif !r.1.1 then some ((H0,1,()),())
 else bif decide (0<=W (d.1.2.1*d.1.1)/\W (d.1.2.1*d.1.1)<=W (d.1.2.1*d.1.1)) then
 bif zaA (W (d.1.2.1*d.1.1)).toNat 8 then
 bif decide (0<=d.1.2.1/\d.1.2.1<=d.1.2.1) then
 bif zaA d.1.2.1.toNat 32 then some (((d.1,List.replicate (W (d.1.2.1*d.1.1)).toNat (0:Int),List.replicate d.1.2.1.toNat PG0,0,-1,()),0,()),())
 else none
 else none
 else none
 else none:=by
  unfold F_r04_New
  funext d
  kernel_rfl
theorem ztr:F_r03_Size=fun (d:B0)=>(F_r03_Valid d).bind
 fun (r:A5)=>
 bif !r.1.1 then some ((0,()),())
 else some ((W (d.1.2.1+1),()),()):=by
  unfold F_r03_Size
  funext d
  kernel_rfl
theorem ztp:F_r04_Runs=fun (d:(List PgD)×Unit)=>(rl (AN×AC×Unit) (AU×AC×Unit) (fun (x:AN×AC×Unit)=>
 bif decide (x.1.2.1<(d.1.length:Int)) then
 bif inB x.1.2.1 d.1.length then
 bif (d.1.getD x.1.2.1.toNat PG0).1 != 0 then some (Sum.inl (((),W (x.1.2.1+1),()),x.2))
 else bif
 bif decide ((x.2.1.1.length:Int) > 0) then inB (W ((x.2.1.1.length:Int)-1)) x.2.1.1.length
 else true then
 bif bif decide ((x.2.1.1.length:Int) > 0) then inB (W ((x.2.1.1.length:Int)-1)) x.2.1.1.length
 else true then
 bif bif
 bif decide ((x.2.1.1.length:Int) > 0) then W ((x.2.1.1.getD (W ((x.2.1.1.length:Int)-1)).toNat (0,0,())).1+(x.2.1.1.getD (W ((x.2.1.1.length:Int)-1)).toNat (0,0,())).2.1) == x.1.2.1
 else false then inB (W ((x.2.1.1.length:Int)-1)) x.2.1.1.length
 else true then
 bif bif
 bif decide ((x.2.1.1.length:Int) > 0) then W ((x.2.1.1.getD (W ((x.2.1.1.length:Int)-1)).toNat (0,0,())).1+(x.2.1.1.getD (W ((x.2.1.1.length:Int)-1)).toNat (0,0,())).2.1) == x.1.2.1
 else false then inB (W ((x.2.1.1.length:Int)-1)) x.2.1.1.length
 else true then
 bif bif
 bif decide ((x.2.1.1.length:Int) > 0) then W ((x.2.1.1.getD (W ((x.2.1.1.length:Int)-1)).toNat (0,0,())).1+(x.2.1.1.getD (W ((x.2.1.1.length:Int)-1)).toNat (0,0,())).2.1) == x.1.2.1
 else false then true
 else zaA (x.2.1.1.length + [(x.1.2.1,1,())].length) 16 then
 bif bif decide ((x.2.1.1.length:Int) > 0) then W ((x.2.1.1.getD (W ((x.2.1.1.length:Int)-1)).toNat (0,0,())).1+(x.2.1.1.getD (W ((x.2.1.1.length:Int)-1)).toNat (0,0,())).2.1) == x.1.2.1
 else false then some (Sum.inl (((),W (x.1.2.1+1),()),(x.2.1.1.set (W ((x.2.1.1.length:Int)-1)).toNat ((x.2.1.1.getD (W ((x.2.1.1.length:Int)-1)).toNat (0,0,())).1,W ((x.2.1.1.getD (W ((x.2.1.1.length:Int)-1)).toNat (0,0,())).2.1+1),()),()),()))
 else some (Sum.inl (((),W (x.1.2.1+1),()),(x.2.1.1++[(x.1.2.1,1,())],()),()))
 else none
 else none
 else none
 else none
 else none
 else none
 else some (Sum.inr (((),()),x.2))) (((),0,()),([],()),())).bind
 fun (r:AU×AC×Unit)=>some r.2:=by
  unfold F_r04_Runs
  funext d
  kernel_rfl
theorem zrq:F_r04_First=fun (d:(List PgD)×Int×Unit)=>(F_r04_Runs (d.1,())).bind
 fun (r:AC×Unit)=>(rl Ap Ah (fun (x:Ap)=>
 bif decide (x.1.2.1<(r.1.1.length:Int)) then
 bif bif decide (d.2.1 >= 1) then inB x.1.2.1 r.1.1.length
 else true then
 bif bif
 bif decide (d.2.1 >= 1) then decide ((r.1.1.getD x.1.2.1.toNat (0,0,())).2.1 >= d.2.1)
 else false then inB x.1.2.1 r.1.1.length
 else true then
 bif bif decide (d.2.1 >= 1) then decide ((r.1.1.getD x.1.2.1.toNat (0,0,())).2.1 >= d.2.1)
 else false then some (Sum.inr (Sum.inl (((r.1.1.getD x.1.2.1.toNat (0,0,())).1,()),(),())))
 else some (Sum.inl ((x.1.1,W (x.1.2.1+1),()),(),()))
 else none
 else none
 else some (Sum.inr (Sum.inr ((x.1.1,()),(),())))) ((0,0,()),(),())).bind
 fun (r:Ah)=>Sum.elim (fun (x:Ac)=>some (x.1,())) (fun (y:Ac)=>some ((-1,()),())) r:=by
  unfold F_r04_First
  funext d
  kernel_rfl
theorem znG:F_r04_Small_o=fun (d:(List PgD)×Int×Int×Unit)=>
 bif bif decide (d.2.2.1<0) then true
 else decide (d.2.2.1 > 1) then some (([],1,()),())
 else (F_r04_take_o (d.1,d.2.1,1,(1,d.2.2.1,0,0,()),PG0,())).bind
 fun (r:Au×Unit)=>some r:=by
  unfold F_r04_Small_o
  funext d
  kernel_rfl
theorem zrs:F_r02_Write=fun (d:List Int×Int×List Int×Unit)=>(F_r02_span (d.1,d.2.1,(d.2.2.1.length:Int),())).bind
 fun (r:AI)=>
 bif !r.1.2.1 then some (([],2,()),())
 else bif zaA (0+d.1.length) 8 then (rl AT B5 (fun (x:AT)=>
 bif decide (x.1.1<(d.2.2.1.length:Int)) then
 bif inB x.1.1 d.2.2.1.length then
 bif inB (W (r.1.1+x.1.1)) x.2.2.1.length then some (Sum.inl ((W (x.1.1+1),()),(),x.2.2.1.set (W (r.1.1+x.1.1)).toNat (d.2.2.1.getD x.1.1.toNat 0),()))
 else none
 else none
 else some (Sum.inr ((),(),x.2.2))) ((0,()),(),d.1,())).bind
 fun (r:B5)=>some ((r.2.2.1,0,()),())
 else none:=by
  unfold F_r02_Write
  funext d
  kernel_rfl
theorem zie:F_made_World_pick=fun (d:AA×A4×Unit)=>
 bif zaA ([0].length+d.1.2.1.length) 8 then
 bif zaA (([0]++d.1.2.1).length+d.1.2.2.1.length) 8 then (F_made_Tape_Next (d.2.1,(([0]++d.1.2.1++d.1.2.2.1).length:Int),())).bind
 fun (r:An)=>
 bif inB r.1.1 ([0]++d.1.2.1++d.1.2.2.1).length then some ((([0]++d.1.2.1++d.1.2.2.1).getD r.1.1.toNat 0,()),r.2)
 else none
 else none
 else none:=by
  unfold F_made_World_pick
  funext d
  kernel_rfl
theorem ztv:F_r02_Load=fun (d:A4)=>(F_r02_Index d).bind
 fun (r:Ad)=>
 bif r.1.2.1 != 0 then some ((0,r.1.2),())
 else bif inB r.1.1 d.1.length then some ((d.1.getD r.1.1.toNat 0,0,()),())
 else none:=by
  unfold F_r02_Load
  funext d
  kernel_rfl
theorem zrl:F_r05_Field=fun (d:B2)=>(F_r05_Get (d.1,d.2.1,())).bind
 fun (r:Av×Unit)=>
 bif r.1.2.1 != 0 then some ((0,r.1.2),())
 else bif
 bif decide (d.2.2.1<0) then true
 else decide (d.2.2.1 >= r.1.1.2.1) then some ((0,2,()),())
 else (F_r02_Load (d.1.2.1,U (U (d.2.1+1)+U d.2.2.1),())).bind
 fun (r:Ad)=>some r:=by
  unfold F_r05_Field
  funext d
  kernel_rfl
theorem zmj:F_r05_SetField=fun (d:A2×Int×Int×Int×Unit)=>(F_r05_Field (d.1,d.2.1,d.2.2.1,())).bind
 fun (r:Ad)=>
 bif r.1.2.1 != 0 then some ((H0,r.1.2),())
 else (F_r02_Store (d.1.2.1,U (U (d.2.1+1)+U d.2.2.1),d.2.2.2)).bind
 fun (r:AQ)=>some (((d.1.1,r.1.1,d.1.2.2),0,()),()):=by
  unfold F_r05_SetField
  funext d
  kernel_rfl
theorem zid:F_made_crowd=fun (d:B1)=>(rl Ap Ac (fun (x:Ap)=>
 bif decide (x.1.2.1<(d.1.2.2.1.length:Int)) then
 bif inB x.1.2.1 d.1.2.2.1.length then
 bif bif (d.1.2.2.1.getD x.1.2.1.toNat PG0).1 == 1 then inB x.1.2.1 d.1.2.2.1.length
 else true then some (Sum.inl ((bif
 bif (d.1.2.2.1.getD x.1.2.1.toNat PG0).1 == 1 then decide ((d.1.2.2.1.getD x.1.2.1.toNat PG0).2.2.2.1 > 0)
 else false then W (x.1.1+1)
 else x.1.1,W (x.1.2.1+1),()),(),()))
 else none
 else none
 else some (Sum.inr ((x.1.1,()),(),()))) ((0,0,()),(),())).bind
 fun (r:Ac)=>some (r.1,()):=by
  unfold F_made_crowd
  funext d
  kernel_rfl
theorem zjz:F_made_World_Pin=fun (d:AA×A4×Unit)=>(F_made_World_pick d).bind
 fun (r:An)=>(F_r04_Of (d.1.1.1,r.1)).bind
 fun (r_1:B0)=>
 bif r_1.1.2.2.1 != 0 then some ((d.1,()),r.2)
 else bif zaA (0+d.1.1.2.2.1.length) 32 then
 bif inB r_1.1.1 (d.1.1.2.2.1).length then
 bif decide (((d.1.1.2.2.1).getD r_1.1.1.toNat PG0).2.2.2.1 > 0) then (F_made_Tape_Next (r.2.1,2,())).bind
 fun (r:An)=>
 bif r.1.1 == 0 then some ((((d.1.1.1,d.1.1.2.1,(d.1.1.2.2.1).set r_1.1.1.toNat (((d.1.1.2.2.1).getD r_1.1.1.toNat PG0).1,((d.1.1.2.2.1).getD r_1.1.1.toNat PG0).2.1,((d.1.1.2.2.1).getD r_1.1.1.toNat PG0).2.2.1,W (((d.1.1.2.2.1).getD r_1.1.1.toNat PG0).2.2.2.1-1),()),d.1.1.2.2.2),d.1.2),()),r.2)
 else bif decide (((d.1.1.2.2.1).getD r_1.1.1.toNat PG0).2.2.2.1 > 0) then some ((((d.1.1.1,d.1.1.2.1,(d.1.1.2.2.1).set r_1.1.1.toNat (((d.1.1.2.2.1).getD r_1.1.1.toNat PG0).1,((d.1.1.2.2.1).getD r_1.1.1.toNat PG0).2.1,((d.1.1.2.2.1).getD r_1.1.1.toNat PG0).2.2.1,W (((d.1.1.2.2.1).getD r_1.1.1.toNat PG0).2.2.2.1+1),()),d.1.1.2.2.2),d.1.2),()),r.2)
 else bif ((d.1.1.2.2.1).getD r_1.1.1.toNat PG0).1 == 2 then some ((((d.1.1.1,d.1.1.2.1,(d.1.1.2.2.1).set r_1.1.1.toNat (((d.1.1.2.2.1).getD r_1.1.1.toNat PG0).1,((d.1.1.2.2.1).getD r_1.1.1.toNat PG0).2.1,((d.1.1.2.2.1).getD r_1.1.1.toNat PG0).2.2.1,W (((d.1.1.2.2.1).getD r_1.1.1.toNat PG0).2.2.2.1+1),()),d.1.1.2.2.2),d.1.2),()),r.2)
 else (F_made_crowd ((d.1.1.1,d.1.1.2.1,d.1.1.2.2.1,d.1.1.2.2.2),())).bind
 fun (r_2:Aa)=>
 bif !4 == 0 then
 bif decide (r_2.1.1<W (d.1.1.1.2.1.tdiv 4)) then some ((((d.1.1.1,d.1.1.2.1,(d.1.1.2.2.1).set r_1.1.1.toNat (((d.1.1.2.2.1).getD r_1.1.1.toNat PG0).1,((d.1.1.2.2.1).getD r_1.1.1.toNat PG0).2.1,((d.1.1.2.2.1).getD r_1.1.1.toNat PG0).2.2.1,W (((d.1.1.2.2.1).getD r_1.1.1.toNat PG0).2.2.2.1+1),()),d.1.1.2.2.2),d.1.2),()),r.2)
 else some ((((d.1.1.1,d.1.1.2.1,d.1.1.2.2.1,d.1.1.2.2.2),d.1.2),()),r.2)
 else none
 else bif decide (((d.1.1.2.2.1).getD r_1.1.1.toNat PG0).2.2.2.1 > 0) then some ((((d.1.1.1,d.1.1.2.1,(d.1.1.2.2.1).set r_1.1.1.toNat (((d.1.1.2.2.1).getD r_1.1.1.toNat PG0).1,((d.1.1.2.2.1).getD r_1.1.1.toNat PG0).2.1,((d.1.1.2.2.1).getD r_1.1.1.toNat PG0).2.2.1,W (((d.1.1.2.2.1).getD r_1.1.1.toNat PG0).2.2.2.1+1),()),d.1.1.2.2.2),d.1.2),()),r.2)
 else bif ((d.1.1.2.2.1).getD r_1.1.1.toNat PG0).1 == 2 then some ((((d.1.1.1,d.1.1.2.1,(d.1.1.2.2.1).set r_1.1.1.toNat (((d.1.1.2.2.1).getD r_1.1.1.toNat PG0).1,((d.1.1.2.2.1).getD r_1.1.1.toNat PG0).2.1,((d.1.1.2.2.1).getD r_1.1.1.toNat PG0).2.2.1,W (((d.1.1.2.2.1).getD r_1.1.1.toNat PG0).2.2.2.1+1),()),d.1.1.2.2.2),d.1.2),()),r.2)
 else (F_made_crowd ((d.1.1.1,d.1.1.2.1,d.1.1.2.2.1,d.1.1.2.2.2),())).bind
 fun (r_2:Aa)=>
 bif !4 == 0 then
 bif decide (r_2.1.1<W (d.1.1.1.2.1.tdiv 4)) then some ((((d.1.1.1,d.1.1.2.1,(d.1.1.2.2.1).set r_1.1.1.toNat (((d.1.1.2.2.1).getD r_1.1.1.toNat PG0).1,((d.1.1.2.2.1).getD r_1.1.1.toNat PG0).2.1,((d.1.1.2.2.1).getD r_1.1.1.toNat PG0).2.2.1,W (((d.1.1.2.2.1).getD r_1.1.1.toNat PG0).2.2.2.1+1),()),d.1.1.2.2.2),d.1.2),()),r.2)
 else some ((((d.1.1.1,d.1.1.2.1,d.1.1.2.2.1,d.1.1.2.2.2),d.1.2),()),r.2)
 else none
 else none
 else none:=by
  unfold F_made_World_Pin
  funext d
  kernel_rfl
theorem znH:F_r04_Address=fun (d:Ag×Int×Int×Unit)=>(F_r04_ValidConf (d.1,())).bind
 fun (r:A5)=>
 bif !r.1.1 then some ((0,1,()),())
 else bif
 bif decide (d.2.1<0) then true
 else bif decide (d.2.1 >= d.1.2.1) then true
 else bif decide (d.2.2.1<0) then true
 else decide (d.2.2.1 >= d.1.1) then some ((0,2,()),())
 else some ((U (W (W (4096+W (d.2.1*d.1.1))+d.2.2.1)),0,()),()):=by
  unfold F_r04_Address
  funext d
  kernel_rfl
theorem ztk:F_r06_Page=fun (d:Ay)=>(F_r04_Proper (d.1,())).bind
 fun (r:A5)=>
 bif !r.1.1 then some (([],1,()),())
 else bif
 bif decide (d.2.1<0) then true
 else decide (d.2.1 >= (d.1.2.2.1.length:Int)) then some (([],2,()),())
 else bif inB d.2.1 d.1.2.2.1.length then
 bif bif (d.1.2.2.1.getD d.2.1.toNat PG0).1 == 0 then true
 else (d.1.2.2.1.getD d.2.1.toNat PG0).1 == 3 then some (([],0,()),())
 else (rl (AL×A9×Unit) AZ (fun (x:AL×A9×Unit)=>
 bif decide (x.1.2.2.2.1<(d.1.2.2.1.getD d.2.1.toNat PG0).2.2.1) then (F_r04_Address (d.1.1,d.2.1,x.1.2.2.2)).bind
 fun (r:Ad)=>(F_r05_At (d.1,r.1.1,())).bind
 fun (r_1:Av×Unit)=>
 bif r_1.1.2.1 != 0 then some (Sum.inr (Sum.inl (([],19,()),(),())))
 else bif zaA (x.2.1.1.length + [r.1.1].length) 8 then
 bif (d.1.2.2.1.getD d.2.1.toNat PG0).1 == 2 then some (Sum.inr (Sum.inr ((x.1.1,x.1.2.1,(),()),(x.2.1.1++[r.1.1],()),())))
 else (F_r03_Size (r_1.1.1,())).bind
 fun (r_2:Aa)=>some (Sum.inl ((x.1.1,x.1.2.1,(),W (x.1.2.2.2.1+r_2.1.1),()),(x.2.1.1++[r.1.1],()),()))
 else none
 else some (Sum.inr (Sum.inr ((x.1.1,x.1.2.1,(),()),x.2)))) (([],0,(),0,()),([],()),())).bind
 fun (r:AZ)=>Sum.elim (fun (x:A4×Unit×Unit)=>some (x.1,())) (fun (y:Az×A9×Unit)=>some ((y.2.1.1,0,()),())) r
 else none:=by
  unfold F_r06_Page
  funext d
  kernel_rfl
theorem zti:F_r06_word=fun (d:B2)=>(F_r04_Address (d.1.1,d.2)).bind
 fun (r:Ad)=>(F_r02_Load (d.1.2.1,r.1.1,())).bind
 fun (r:Ad)=>some ((r.1.1,()),()):=by
  unfold F_r06_word
  funext d
  kernel_rfl
theorem zpy:F_r06_Starts=fun (d:B1)=>(F_r04_Proper d).bind
 fun (r:A5)=>
 bif !r.1.1 then some (([],1,()),())
 else (rl (AL×A9×Unit) AZ (fun (x:AL×A9×Unit)=>
 bif decide (x.1.2.2.2.1<(d.1.2.2.1.length:Int)) then (F_r06_Page (d.1,x.1.2.2.2)).bind
 fun (r:AQ)=>
 bif r.1.2.1 != 0 then some (Sum.inr (Sum.inl (([],r.1.2),(),())))
 else bif zaA (x.2.1.1.length+r.1.1.length) 8 then some (Sum.inl ((x.1.1,x.1.2.1,(),W (x.1.2.2.2.1+1),()),(x.2.1.1++r.1.1,()),()))
 else none
 else some (Sum.inr (Sum.inr ((x.1.1,x.1.2.1,(),()),x.2)))) (([],0,(),0,()),([],()),())).bind
 fun (r:AZ)=>Sum.elim (fun (x:A4×Unit×Unit)=>some (x.1,())) (fun (y:Az×A9×Unit)=>some ((y.2.1.1,0,()),())) r:=by
  unfold F_r06_Starts
  funext d
  kernel_rfl
theorem znF:F_r06_Objects=fun (d:B1)=>(F_r06_Starts d).bind
 fun (r:AQ)=>(rl (AN×A9×Unit) (AU×A9×Unit) (fun (x:AN×A9×Unit)=>
 bif decide (x.1.2.1<(r.1.1.length:Int)) then
 bif inB x.1.2.1 r.1.1.length then (F_r05_At (d.1,r.1.1.getD x.1.2.1.toNat 0,())).bind
 fun (r_1:Av×Unit)=>
 bif bif r_1.1.1.1 != 0 then inB x.1.2.1 r.1.1.length
 else true then
 bif bif r_1.1.1.1 != 0 then zaA (x.2.1.1.length + [r.1.1.getD x.1.2.1.toNat 0].length) 8
 else true then
 bif r_1.1.1.1 != 0 then some (Sum.inl (((),W (x.1.2.1+1),()),(x.2.1.1++[r.1.1.getD x.1.2.1.toNat 0],()),()))
 else some (Sum.inl (((),W (x.1.2.1+1),()),x.2))
 else none
 else none
 else none
 else some (Sum.inr (((),()),x.2))) (((),0,()),([],()),())).bind
 fun (r_1:AU×A9×Unit)=>some ((r_1.2.1.1,r.1.2),()):=by
  unfold F_r06_Objects
  funext d
  kernel_rfl
theorem zpC:F_r03_Target=fun (d:Ao)=>
 bif !4 == 0 then
 bif bif d.1.tmod 4 != 2 then true
 else !decide (2<0) then
 bif bif d.1.tmod 4 != 2 then true
 else decide (d.1.fdiv (2 ^ min (Int.toNat 2) IntKind.u64.bits) >= 4294967296) then some ((0,false,()),())
 else bif !decide (2<0) then some ((d.1.fdiv (2 ^ min (Int.toNat 2) IntKind.u64.bits),true,()),())
 else none
 else none
 else none:=by
  unfold F_r03_Target
  funext d
  kernel_rfl
theorem ztb:F_r10_keep=fun (d:AX)=>
 bif zaA (0+d.1.2.2.2.1.length) 8 then
 bif zaA ((d.1.2.2.2.1).length + [d.2.1].length) 8 then some (((d.1.1,d.1.2.1,d.1.2.2.1,d.1.2.2.2.1++[d.2.1],d.1.2.2.2.2.1,(d.1.2.2.2.2.2.1.1,W (d.1.2.2.2.2.2.1.2.1+1),d.1.2.2.2.2.2.1.2.2),()),()),())
 else none
 else none:=by
  unfold F_r10_keep
  funext d
  kernel_rfl
theorem zvN:F_r10_Get=fun (d:AX)=>(F_r02_Load (d.1.1.2.1,d.2)).bind
 fun (r:Ad)=>(F_r03_Decode (r.1.1,())).bind
 fun (r:(A7×Bool×Unit)×Unit)=>some ((r.1.1,()),()):=by
  unfold F_r10_Get
  funext d
  kernel_rfl
theorem zmk:F_r03_Pointers=fun (d:B0)=>(rl (AN×A9×Unit) (AU×A9×Unit) (fun (x:AN×A9×Unit)=>
 bif decide (x.1.2.1<d.1.2.1) then (F_r03_Valid d).bind
 fun (r:A5)=>
 bif r.1.1 then (F_r03_Pointer (d.1,x.1.2)).bind
 fun (r:A5)=>
 bif bif r.1.1 then zaA (x.2.1.1.length + [x.1.2.1].length) 8
 else true then
 bif r.1.1 then some (Sum.inl (((),W (x.1.2.1+1),()),(x.2.1.1++[x.1.2.1],()),()))
 else some (Sum.inl (((),W (x.1.2.1+1),()),x.2))
 else none
 else some (Sum.inr (((),()),x.2))
 else some (Sum.inr (((),()),x.2))) (((),0,()),([],()),())).bind
 fun (r:AU×A9×Unit)=>some r.2:=by
  unfold F_r03_Pointers
  funext d
  kernel_rfl
theorem zs8:F_r12_free=fun (d:Ab×Unit)=>
 bif zaA (0+d.1.1.2.2.1.length) 32 then
 bif zaA (0+d.1.1.2.1.length) 8 then (rl (Ao×B8×At×Unit) (Unit×B8×At×Unit) (fun (x:Ao×B8×At×Unit)=>
 bif decide (x.1.1<(x.2.1.2.1.length:Int)) then
 bif inB x.1.1 x.2.1.2.1.length then
 bif bif (x.2.1.2.1.getD x.1.1.toNat PG0).1 == 0 then true
 else (x.2.1.2.1.getD x.1.1.toNat PG0).2.1 != x.2.2.1.2.2.2.2.1 then some (Sum.inl ((W (x.1.1+1),()),x.2.1,(x.2.2.1.1,x.2.2.1.2.1,(),(),x.2.2.1.2.2.2.2),()))
 else bif inB x.1.1 x.2.1.2.1.length then (rl AT B5 (fun (x_1:AT)=>
 bif decide (x_1.1.1<x.2.2.1.1) then
 bif inB (W (W (x.1.1*x.2.2.1.1)+x_1.1.1)) x_1.2.2.1.length then some (Sum.inl ((W (x_1.1.1+1),()),(),x_1.2.2.1.set (W (W (x.1.1*x.2.2.1.1)+x_1.1.1)).toNat 0,()))
 else none
 else some (Sum.inr ((),(),x_1.2.2))) ((0,()),(),x.2.1.1,())).bind
 fun (r:B5)=>some (Sum.inl ((W (x.1.1+1),()),(r.2.2.1,x.2.1.2.1.set x.1.1.toNat PG0,()),(x.2.2.1.1,x.2.2.1.2.1,(),(),x.2.2.1.2.2.2.2.1,x.2.2.1.2.2.2.2.2.1,x.2.2.1.2.2.2.2.2.2.1,x.2.2.1.2.2.2.2.2.2.2.1,x.2.2.1.2.2.2.2.2.2.2.2.1,x.2.2.1.2.2.2.2.2.2.2.2.2.1,x.2.2.1.2.2.2.2.2.2.2.2.2.2.1,x.2.2.1.2.2.2.2.2.2.2.2.2.2.2.1,x.2.2.1.2.2.2.2.2.2.2.2.2.2.2.2.1,W (x.2.2.1.2.2.2.2.2.2.2.2.2.2.2.2.2.1+1),x.2.2.1.2.2.2.2.2.2.2.2.2.2.2.2.2.2),()))
 else none
 else none
 else some (Sum.inr ((),x.2.1,(x.2.2.1.1,x.2.2.1.2.1,(),(),x.2.2.1.2.2.2.2),()))) ((0,()),(d.1.1.2.1,d.1.1.2.2.1,()),(d.1.1.1.1,d.1.1.1.2.1,(),(),d.1.1.2.2.2.1,d.1.1.2.2.2.2.1,d.1.2.1,d.1.2.2.1,d.1.2.2.2.1,d.1.2.2.2.2.1,d.1.2.2.2.2.2.1),())).bind
 fun (r:Unit×B8×At×Unit)=>some (((((r.2.2.1.1,r.2.2.1.2.1,()),r.2.1.1,r.2.1.2.1,r.2.2.1.2.2.2.2.1,r.2.2.1.2.2.2.2.2.1,()),r.2.2.1.2.2.2.2.2.2.1,r.2.2.1.2.2.2.2.2.2.2.1,r.2.2.1.2.2.2.2.2.2.2.2.1,r.2.2.1.2.2.2.2.2.2.2.2.2.1,r.2.2.1.2.2.2.2.2.2.2.2.2.2,()),()),())
 else none
 else none:=by
  unfold F_r12_free
  funext d
  kernel_rfl
theorem znD:F_r12_Collect=fun (d:AA)=>(F_r04_Proper (d.1,())).bind
 fun (r:A5)=>
 bif !r.1.1 then some ((H0,[],[],(0,0,0,0,0,0,()),1,()),())
 else (F_r09_Refers (d.1,d.2.1,())).bind
 fun (r:A5)=>
 bif !r.1.1 then some ((H0,[],[],(0,0,0,0,0,0,()),19,()),())
 else (F_r09_Refers (d.1,d.2.2)).bind
 fun (r:A5)=>
 bif !r.1.1 then some ((H0,[],[],(0,0,0,0,0,0,()),19,()),())
 else (F_r10_Begin (d.1,())).bind
 fun (r:B4)=>(F_r11_Roots (r.1.1,d.2.1,())).bind
 fun (r:(A3×List Int×Int×Unit)×Unit)=>
 bif r.1.2.2.1 != 0 then some ((H0,[],[],(0,0,0,0,0,0,()),r.1.2.2),())
 else (F_r11_All (r.1.1,())).bind
 fun (r_1:B4)=>
 bif r_1.1.2.1 != 0 then some ((H0,[],[],(0,0,0,0,0,0,()),r_1.1.2),())
 else (rl (AN×A9×A0×Unit) (AU×A9×A0×Unit) (fun (x:AN×A9×A0×Unit)=>
 bif decide (x.1.2.1<(d.2.2.1.length:Int)) then
 bif inB x.1.2.1 d.2.2.1.length then
 bif bif d.2.2.1.getD x.1.2.1.toNat 0 != 0 then inB x.1.2.1 d.2.2.1.length
 else true then
 bif d.2.2.1.getD x.1.2.1.toNat 0 != 0 then (F_r12_after ((((x.2.2.1.1,x.2.2.1.2.1,()),x.2.2.1.2.2.1,x.2.2.1.2.2.2.1,x.2.2.1.2.2.2.2.1,x.2.2.1.2.2.2.2.2.1,()),x.2.2.1.2.2.2.2.2.2.1,x.2.2.1.2.2.2.2.2.2.2.1,x.2.2.1.2.2.2.2.2.2.2.2.1,x.2.2.1.2.2.2.2.2.2.2.2.2.1,x.2.2.1.2.2.2.2.2.2.2.2.2.2,()),d.2.2.1.getD x.1.2.1.toNat 0,())).bind
 fun (r:Aa)=>
 bif r.1.1 == 0 then
 bif zaA (x.2.1.1.length + [r.1.1].length) 8 then some (Sum.inl (((),W (x.1.2.1+1),()),(x.2.1.1++[r.1.1],()),(x.2.2.1.1,x.2.2.1.2.1,x.2.2.1.2.2.1,x.2.2.1.2.2.2.1,x.2.2.1.2.2.2.2.1,x.2.2.1.2.2.2.2.2.1,x.2.2.1.2.2.2.2.2.2.1,x.2.2.1.2.2.2.2.2.2.2.1,x.2.2.1.2.2.2.2.2.2.2.2.1,x.2.2.1.2.2.2.2.2.2.2.2.2.1,x.2.2.1.2.2.2.2.2.2.2.2.2.2.1,x.2.2.1.2.2.2.2.2.2.2.2.2.2.2.1,x.2.2.1.2.2.2.2.2.2.2.2.2.2.2.2.1,x.2.2.1.2.2.2.2.2.2.2.2.2.2.2.2.2.1,W (x.2.2.1.2.2.2.2.2.2.2.2.2.2.2.2.2.2.1+1),x.2.2.1.2.2.2.2.2.2.2.2.2.2.2.2.2.2.2),()))
 else none
 else bif zaA (x.2.1.1.length + [r.1.1].length) 8 then some (Sum.inl (((),W (x.1.2.1+1),()),(x.2.1.1++[r.1.1],()),x.2.2))
 else none
 else bif zaA (x.2.1.1.length + [0].length) 8 then some (Sum.inl (((),W (x.1.2.1+1),()),(x.2.1.1++[0],()),x.2.2))
 else none
 else none
 else none
 else some (Sum.inr (((),()),x.2))) (((),0,()),([],()),(r_1.1.1.1.1.1,r_1.1.1.1.1.2.1,r_1.1.1.1.2.1,r_1.1.1.1.2.2.1,r_1.1.1.1.2.2.2.1,r_1.1.1.1.2.2.2.2.1,r_1.1.1.2.1,r_1.1.1.2.2.1,r_1.1.1.2.2.2.1,r_1.1.1.2.2.2.2.1,r_1.1.1.2.2.2.2.2.1),())).bind
 fun (r_2:AU×A9×A0×Unit)=>(F_r12_fill ((((r_2.2.2.1.1,r_2.2.2.1.2.1,()),r_2.2.2.1.2.2.1,r_2.2.2.1.2.2.2.1,r_2.2.2.1.2.2.2.2.1,r_2.2.2.1.2.2.2.2.2.1,()),r_2.2.2.1.2.2.2.2.2.2.1,r_2.2.2.1.2.2.2.2.2.2.2.1,r_2.2.2.1.2.2.2.2.2.2.2.2.1,r_2.2.2.1.2.2.2.2.2.2.2.2.2.1,r_2.2.2.1.2.2.2.2.2.2.2.2.2.2,()),())).bind
 fun (r_3:AO)=>(F_r12_free r_3.1).bind
 fun (r_4:AO)=>
 bif bif decide ((r_4.1.1.2.2.1.length:Int) > 0) then inB (W ((r_4.1.1.2.2.1.length:Int)-1)) r_4.1.1.2.2.1.length
 else true then
 bif decide ((r_4.1.1.2.2.1.length:Int) > 0) then some (((r_4.1.1.1.1,r_4.1.1.1.2.1,r_4.1.1.1.2.2.1,W (1-r_4.1.1.1.2.2.2.1),r_4.1.1.2.2.1.getD (W ((r_4.1.1.2.2.1.length:Int)-1)).toNat 0,()),r.1.2.1,r_2.2.1.1,r_4.1.1.2.2.2.2.2.1,0,()),())
 else some (((r_4.1.1.1.1,r_4.1.1.1.2.1,r_4.1.1.1.2.2.1,W (1-r_4.1.1.1.2.2.2.1),-1,()),r.1.2.1,r_2.2.1.1,r_4.1.1.2.2.2.2.2.1,0,()),())
 else none:=by
  unfold F_r12_Collect
  funext d
  kernel_rfl
theorem zdg:F_made_Make=fun (d:A9)=>
 bif bif decide ((d.1.length:Int) > 300) then decide ((0:Int)<=0/\(0:Int)<=300/\300<=(d.1.length:Int))
 else true then (F_made_Tape_Empty ((bif decide ((d.1.length:Int) > 300) then List.drop (Int.toNat 0) (List.take (Int.toNat 300) d.1)
 else d.1,0,()),())).bind
 fun (r:Aj×A4×Unit)=>(rl (Aj×Unit×A4×As×Unit) (Aj×Unit×A4×As×Unit) (fun (x:Aj×Unit×A4×As×Unit)=>(F_made_Tape_Done (x.2.2.1,())).bind
 fun (r:AS×A4×Unit)=>
 bif !r.1.1 then (F_made_World_Step ((((x.2.2.2.1.1,x.2.2.2.1.2.1,()),x.2.2.2.1.2.2.1,x.2.2.2.1.2.2.2.1,x.2.2.2.1.2.2.2.2.1,x.2.2.2.1.2.2.2.2.2.1,()),x.2.2.2.1.2.2.2.2.2.2),r.2)).bind
 fun (r:Aj×A4×Unit)=>some (Sum.inl (x.1,(),r.2.1,(r.1.1.1.1.1,r.1.1.1.1.2.1,r.1.1.1.2.1,r.1.1.1.2.2.1,r.1.1.1.2.2.2.1,r.1.1.1.2.2.2.2.1,r.1.1.2),()))
 else some (Sum.inr (x.1,(),r.2.1,x.2.2.2))) (r.1,(),r.2.1,(r.1.1.1.1.1,r.1.1.1.1.2.1,r.1.1.1.2.1,r.1.1.1.2.2.1,r.1.1.1.2.2.2.1,r.1.1.1.2.2.2.2.1,r.1.1.2),())).bind
 fun (r:Aj×Unit×A4×As×Unit)=>some (((((r.2.2.2.1.1,r.2.2.2.1.2.1,()),r.2.2.2.1.2.2.1,r.2.2.2.1.2.2.2.1,r.2.2.2.1.2.2.2.2.1,r.2.2.2.1.2.2.2.2.2.1,()),r.2.2.2.1.2.2.2.2.2.2),()),())
 else none:=by
  unfold F_made_Make
  funext d
  kernel_rfl
theorem znK:F_page_within=fun (d:A7)=>some ((bif decide (d.2.1<=d.1) then decide (d.1<=d.2.2.1)
 else false,()),()):=by
  unfold F_page_within
  funext d
  kernel_rfl
theorem zmm:F_page_isSpace=fun (d:Ao)=>some ((bif d.1 == 0 then true
 else d.1 == 1,()),()):=by
  unfold F_page_isSpace
  funext d
  kernel_rfl
theorem zh9:F_page_table_tail=fun (d:AR)=>
 bif inB d.2.1 d.1.2.1.length then
 bif (d.1.2.1.getD d.2.1.toNat PG0).2.2.1 == 0 then
 bif (d.1.2.1.getD d.2.1.toNat PG0).2.2.2.1 == 0 then (F_page_table_owned d).bind
 fun (r:A5)=>some r
 else some ((false,()),())
 else some ((false,()),())
 else none:=by
  unfold F_page_table_tail
  funext d
  kernel_rfl
theorem znB:F_walk_inPage=fun (d:Ay)=>some ((d,()),()):=by
 unfold F_walk_inPage
 funext d
 kernel_rfl
theorem zpw:F_walk_isAny=fun (d:B0)=>some ((true,()),()):=by
 unfold F_walk_isAny
 funext d
 kernel_rfl
theorem zdx:F_bits_fit_c_bits_Unpack_S1=fun (d:Int×List Int×Unit)=>(rl (AE×Unit×A9×Unit) (AS×Unit×A9×Unit⊕AS×Unit×A9×Unit) (fun (x:AE×Unit×A9×Unit)=>
 bif decide (x.1.2.2.1<d.1) then (F_bits_Unpack_S1_c (x.1.2.2.1,x.2.2.1)).bind
 fun (r:Ao×List Int×Unit)=>
 bif decide (r.1.1<1) then some (Sum.inr (Sum.inl ((false,()),(),r.2,())))
 else (F_bits_Unpack_S1_c (x.1.2.2.1,r.2)).bind
 fun (r:Ao×List Int×Unit)=>
 bif decide (r.1.1 > x.1.2.1) then some (Sum.inr (Sum.inl ((false,()),(),r.2,())))
 else (F_bits_Unpack_S1_c (x.1.2.2.1,r.2)).bind
 fun (r:Ao×List Int×Unit)=>some (Sum.inl ((x.1.1,W (x.1.2.1-r.1.1),W (x.1.2.2.1+1),()),(),r.2,()))
 else some (Sum.inr (Sum.inr ((x.1.1,()),(),x.2.2)))) ((false,64,0,()),(),d.2,())).bind
 fun (r:AS×Unit×A9×Unit⊕AS×Unit×A9×Unit)=>Sum.elim (fun (x:AS×Unit×A9×Unit)=>some (x.1,x.2.2.1)) (fun (y:AS×Unit×A9×Unit)=>some ((true,()),y.2.2.1)) r:=by
  unfold F_bits_fit_c_bits_Unpack_S1
  funext d
  kernel_rfl
theorem zk1:F_audit_belongs=fun (d:Ag×Int×A7×Unit)=>
 bif d.2.1 == 2 then some ((d.2.2.1.1 != 0,()),())
 else (F_header_Size d.2.2).bind
 fun (r:Aa)=>(F_page_SmallWords (d.1,())).bind
 fun (r_1:Aa)=>some ((decide (r.1.1<=r_1.1.1),()),()):=by
  unfold F_audit_belongs
  funext d
  kernel_rfl
theorem zmo:F_page_Address=fun (d:Ag×Int×Int×Unit)=>(F_page_ValidConf (d.1,())).bind
 fun (r:A5)=>
 bif !r.1.1 then some ((0,1,()),())
 else (F_page_within (d.2.1,0,W (d.1.2.1-1),())).bind
 fun (r:A5)=>
 bif !r.1.1 then some ((0,2,()),())
 else (F_page_within (d.2.2.1,0,W (d.1.1-1),())).bind
 fun (r:A5)=>
 bif !r.1.1 then some ((0,2,()),())
 else some ((U (4096+U (W (W (d.2.1*d.1.1)+d.2.2.1))),0,()),()):=by
  unfold F_page_Address
  funext d
  kernel_rfl
theorem zpJ:F_audit_span=fun (d:Ay)=>
 bif inB d.2.1 d.1.2.2.1.length then
 bif (d.1.2.2.1.getD d.2.1.toNat PG0).1 == 2 then (F_page_Need (d.1.1,(d.1.2.2.1.getD d.2.1.toNat PG0).2.2.1,())).bind
 fun (r:Aa)=>(F_page_Address (d.1.1,d.2.1,0,())).bind
 fun (r_1:Ad)=>some ((r_1.1.1,U (r_1.1.1+U (W (r.1.1*d.1.1.1))),()),())
 else (F_page_Address (d.1.1,d.2.1,0,())).bind
 fun (r:Ad)=>some ((r.1.1,U (r.1.1+U (W ((bif (d.1.2.2.1.getD d.2.1.toNat PG0).1 == 3 then 0
 else 1)*d.1.1.1))),()),())
 else none:=by
  unfold F_audit_span
  funext d
  kernel_rfl
theorem zpI:F_audit_word=fun (d:Ay)=>
 bif inB (U (d.2.1-4096)) d.1.2.1.length then some ((d.1.2.1.getD (U (d.2.1-4096)).toNat 0,()),())
 else none:=by
  unfold F_audit_word
  funext d
  kernel_rfl
theorem zea:F_audit_findingAt=fun (d:B2)=>(F_page_Of (d.1.1,d.2.2)).bind
 fun (r:B0)=>some (((d.2.1,r.1.1,d.2.2),()),()):=by
  unfold F_audit_findingAt
  funext d
  kernel_rfl
theorem zin:F_audit_checkPage=fun (d:Ay)=>
 bif inB d.2.1 d.1.2.2.1.length then
 bif bif (d.1.2.2.1.getD d.2.1.toNat PG0).1 != 0 then (d.1.2.2.1.getD d.2.1.toNat PG0).2.1 != d.1.2.2.2.1
 else false then some (((2,d.2.1,0,()),()),())
 else (F_audit_partsOf d).bind
 fun (r:(List AD×Int×Unit)×Unit)=>
 bif r.1.2.1 != 0 then some (((3,d.2.1,0,()),()),())
 else (F_audit_checkClasses (d.1,d.2.1,r.1.1,())).bind
 fun (r_1:AB)=>(F_audit_checkDirt (d.1,d.2.1,r.1.1,())).bind
 fun (r:AB)=>(F_cmp_Or_audit_Finding ([(r_1.1.1.1,r_1.1.1.2.1,r_1.1.1.2.2.1,()),(r.1.1.1,r.1.1.2.1,r.1.1.2.2.1,())],())).bind
 fun (r:AB)=>some r
 else none:=by
  unfold F_audit_checkPage
  funext d
  kernel_rfl
theorem zbD:F_walk_list_c_walk_inHeap_S1_walk_isObject=fun (d:B1)=>((listH d).bind
 fun (L:List (Int×Av×Unit))=>fg Am Am (Int×Av×Unit) (fun (y:Int×Av×Unit) (x:Am)=>
 bif y.2.1.2.1 != 0 then some (Sum.inr ((),x.2.1,([],()),y.2.1.2,((),()),()))
 else (F_walk_isObject (y.2.1.1,())).bind
 fun (r:A5)=>
 bif bif r.1.1 then zaA (x.2.1.1.length + [y.1].length) 8
 else true then
 bif r.1.1 then some (Sum.inl ((),(x.2.1.1++[y.1],()),x.2.2.1,x.2.2.2.1,((),()),()))
 else some (Sum.inl ((),x.2.1,x.2.2.1,x.2.2.2.1,((),()),()))
 else none) L ((),([],()),([],()),(0,()),((),()),())).bind
 fun (r:Unit×A9×A9×Ao×AU×Unit⊕Unit×A9×A9×Ao×AU×Unit)=>Sum.elim (fun (x:Am)=>some ((x.2.1.1,0,()),d)) (fun (y:Am)=>some ((y.2.2.1.1,y.2.2.2.1),d)) r:=by
  unfold F_walk_list_c_walk_inHeap_S1_walk_isObject
  funext d
  kernel_rfl
theorem zpH:F_object_Get=fun (d:Ay)=>(F_object_At d).bind
 fun (r:Av×Unit)=>
 bif bif r.1.2.1 == 2 then d.2.1 == 0
 else false then some (((0,0,0,()),5,()),())
 else bif
 bif r.1.2.1 == 0 then r.1.1.1 == 0
 else false then some (((0,0,0,()),4,()),())
 else some r:=by
  unfold F_object_Get
  funext d
  kernel_rfl
theorem zjD:F_evacuate_owned=fun (d:Ab×Unit)=>(F_slices_Clone_uint64 (d.1.1.2.1,())).bind
 fun (r:A9×Unit)=>(F_slices_Clone_api_Page (d.1.1.2.2.1,())).bind
 fun (r_1:(List PgD×Unit)×Unit)=>(F_slices_Clone_uint64 (d.1.2.1,())).bind
 fun (r_2:A9×Unit)=>(F_slices_Clone_int (d.1.2.2.1,())).bind
 fun (r_3:A9×Unit)=>(F_slices_Clone_uint64 (d.1.2.2.2.1,())).bind
 fun (r_4:A9×Unit)=>some ((((d.1.1.1,r.1.1,r_1.1.1,d.1.1.2.2.2),r_2.1.1,r_3.1.1,r_4.1.1,d.1.2.2.2.2),()),()):=by
  unfold F_evacuate_owned
  funext d
  kernel_rfl
theorem zgX:F_evacuate_newSpace=fun (d:B1)=>some ((W (1-d.1.2.2.2.1),()),()):=by
 unfold F_evacuate_newSpace
 funext d
 kernel_rfl
theorem zjE:F_evacuate_Begin=fun (d:B1)=>(F_page_Proper d).bind
 fun (r:A5)=>
 bif !r.1.1 then some (((H0,[],[],[],0,(0,0,0,0,0,0,()),()),1,()),())
 else (F_audit_Good d).bind
 fun (r:A5)=>
 bif !r.1.1 then some (((H0,[],[],[],0,(0,0,0,0,0,0,()),()),19,()),())
 else (F_walk_Objects d).bind
 fun (r:AQ)=>(F_evacuate_owned ((d.1,r.1.1,[],[],0,(0,0,0,0,0,0,()),()),())).bind
 fun (r:AO)=>(rl Ax Ar (fun (x:Ax)=>
 bif decide (x.1.1<(r.1.1.1.2.2.1.length:Int)) then
 bif inB x.1.1 x.2.2.1.length then
 bif bif (x.2.2.1.getD x.1.1.toNat PG0).1 == 1 then decide ((x.2.2.1.getD x.1.1.toNat PG0).2.2.2.1 > 0)
 else false then (F_evacuate_newSpace d).bind
 fun (r:Aa)=>
 bif inB x.1.1 x.2.2.1.length then some (Sum.inl ((W (x.1.1+1),()),(),x.2.2.1.set x.1.1.toNat ((x.2.2.1.getD x.1.1.toNat PG0).1,r.1.1,(x.2.2.1.getD x.1.1.toNat PG0).2.2.1,(x.2.2.1.getD x.1.1.toNat PG0).2.2.2.1,()),()))
 else none
 else some (Sum.inl ((W (x.1.1+1),()),(),x.2.2))
 else none
 else some (Sum.inr ((),(),x.2.2))) ((0,()),(),r.1.1.1.2.2.1,())).bind
 fun (r_1:Ar)=>some ((((r.1.1.1.1,r.1.1.1.2.1,r_1.2.2.1,r.1.1.1.2.2.2),r.1.1.2),0,()),()):=by
  unfold F_evacuate_Begin
  funext d
  kernel_rfl
theorem zmg:F_r10_SameInts=fun (d:List Int×List Int×Unit)=>
 bif (d.1.length:Int) != (d.2.1.length:Int) then some ((false,()),())
 else (rl Af A8 (fun (x:Af)=>
 bif decide (x.1.2.1<(d.1.length:Int)) then
 bif inB x.1.2.1 d.1.length then
 bif inB x.1.2.1 d.2.1.length then
 bif d.1.getD x.1.2.1.toNat 0 != d.2.1.getD x.1.2.1.toNat 0 then some (Sum.inr (Sum.inl ((false,()),(),())))
 else some (Sum.inl ((x.1.1,W (x.1.2.1+1),()),(),()))
 else none
 else none
 else some (Sum.inr (Sum.inr ((x.1.1,()),(),())))) ((false,0,()),(),())).bind
 fun (r:A8)=>Sum.elim (fun (x:Ai)=>some (x.1,())) (fun (y:Ai)=>some ((true,()),())) r:=by
  unfold F_r10_SameInts
  funext d
  kernel_rfl
theorem zfN:F_slices_Contains_int=fun (d:A4)=>(F_slices_Index_int d).bind
 fun (r:Aa)=>some ((decide (r.1.1 >= 0),()),()):=by
  unfold F_slices_Contains_int
  funext d
  kernel_rfl
theorem zpG:F_page_InUse=fun (d:(List PgD)×Unit)=>(rl Ap Ac (fun (x:Ap)=>
 bif decide (x.1.2.1<(d.1.length:Int)) then
 bif inB x.1.2.1 d.1.length then some (Sum.inl ((bif (d.1.getD x.1.2.1.toNat PG0).1 != 0 then W (x.1.1+1)
 else x.1.1,W (x.1.2.1+1),()),(),()))
 else none
 else some (Sum.inr ((x.1.1,()),(),()))) ((0,0,()),(),())).bind
 fun (r:Ac)=>some (r.1,()):=by
  unfold F_page_InUse
  funext d
  kernel_rfl
theorem zd3:F_bits_fit_c_bits_Pack_S1=fun (d:Int×(List Ag)×Unit)=>(rl (AE×Unit×AC×Unit) (AS×Unit×AC×Unit⊕AS×Unit×AC×Unit) (fun (x:AE×Unit×AC×Unit)=>
 bif decide (x.1.2.2.1<d.1) then (F_bits_Pack_S1_c (x.1.2.2.1,x.2.2.1)).bind
 fun (r:Ao×List Ag×Unit)=>
 bif decide (r.1.1<1) then some (Sum.inr (Sum.inl ((false,()),(),r.2,())))
 else (F_bits_Pack_S1_c (x.1.2.2.1,r.2)).bind
 fun (r:Ao×List Ag×Unit)=>
 bif decide (r.1.1 > x.1.2.1) then some (Sum.inr (Sum.inl ((false,()),(),r.2,())))
 else (F_bits_Pack_S1_c (x.1.2.2.1,r.2)).bind
 fun (r:Ao×List Ag×Unit)=>some (Sum.inl ((x.1.1,W (x.1.2.1-r.1.1),W (x.1.2.2.1+1),()),(),r.2,()))
 else some (Sum.inr (Sum.inr ((x.1.1,()),(),x.2.2)))) ((false,64,0,()),(),d.2,())).bind
 fun (r:AS×Unit×AC×Unit⊕AS×Unit×AC×Unit)=>Sum.elim (fun (x:AS×Unit×AC×Unit)=>some (x.1,x.2.2.1)) (fun (y:AS×Unit×AC×Unit)=>some ((true,()),y.2.2.1)) r:=by
  unfold F_bits_fit_c_bits_Pack_S1
  funext d
  kernel_rfl
theorem zeP:F_evacuate_copying_move=fun (d:AH)=>(F_arena_Move (d.1.1.1.2.1,d.1.2.2.2.1,d.1.2.2.1,d.1.2.1,())).bind
 fun (r:AQ)=>
 bif r.1.2.1 != 0 then some (r.1.2,d)
 else (F_header_Forward d.1.2.2.2).bind
 fun (r_1:Ad)=>
 bif r_1.1.2.1 != 0 then some (r_1.1.2,d)
 else (F_arena_Store (r.1.1,d.1.2.2.1,r_1.1.1,())).bind
 fun (r:AQ)=>some (r.1.2,(((d.1.1.1.1,r.1.1,d.1.1.1.2.2),d.1.1.2),d.1.2),()):=by
  unfold F_evacuate_copying_move
  funext d
  kernel_rfl
theorem zfO:F_evacuate_copying_do=fun (d:AH)=>(F_evacuate_copying_place d).bind
 fun (r:Aw)=>
 bif r.1.1 != 0 then some r
 else (F_evacuate_copying_move r.2).bind
 fun (r:Aw)=>
 bif r.1.1 != 0 then some r
 else bif zaA (r.2.1.1.2.2.2.1.length + [r.2.1.2.2.2.1].length) 8 then some ((0,()),((r.2.1.1.1,r.2.1.1.2.1,r.2.1.1.2.2.1,r.2.1.1.2.2.2.1++[r.2.1.2.2.2.1],r.2.1.1.2.2.2.2.1,(W (r.2.1.1.2.2.2.2.2.1.1+1),r.2.1.1.2.2.2.2.2.1.2),()),r.2.1.2),())
 else none:=by
  unfold F_evacuate_copying_do
  funext d
  kernel_rfl
end Go.VI
