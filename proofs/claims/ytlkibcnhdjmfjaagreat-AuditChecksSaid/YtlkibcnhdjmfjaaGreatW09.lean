import Derived.Test.YtlkibcnhdjmfjaaGreatW07
import Derived.Test.YtlkibcnhdjmfjaaGreatW08
set_option linter.unusedSimpArgs false
set_option linter.unusedVariables false
set_option maxRecDepth 100000
set_option maxHeartbeats 4000000
namespace Go.VI
open Go
theorem zgd:F_made_Tape_Header=fun (d:(List Int×Int×Unit)×(Int×Int×Unit)×Unit)=>(F_r04_SmallWords ((d.2.1.1,d.2.1.2.1,()),())).bind
 fun (r:(Int×Unit)×Unit)=>(F_made_Tape_Next ((d.1.1,d.1.2.1,()),r.1.1,())).bind
 fun (r_1:(Int×Unit)×(List Int×Int×Unit)×Unit)=>(F_made_Tape_Next ((r_1.2.1.1,r_1.2.1.2.1,()),12,())).bind
 fun (r_2:(Int×Unit)×(List Int×Int×Unit)×Unit)=>
 bif r_2.1.1 == 0 then (F_made_Tape_Next ((r_2.2.1.1,r_2.2.1.2.1,()),d.2.1.1,())).bind
 fun (r_3:(Int×Unit)×(List Int×Int×Unit)×Unit)=>(F_made_Tape_Next ((r_3.2.1.1,r_3.2.1.2.1,()),4,())).bind
 fun (r_4:(Int×Unit)×(List Int×Int×Unit)×Unit)=>
 bif r_4.1.1 == 0 then some (((2,W (r.1.1+r_3.1.1),0,()),()),(r_4.2.1.1,r_4.2.1.2.1,()),())
 else bif r_4.1.1 == 1 then some (((3,W (r.1.1+r_3.1.1),0,()),()),(r_4.2.1.1,r_4.2.1.2.1,()),())
 else bif !decide (U (if 12<if 32<W (r.1.1+r_3.1.1) then 32
 else W (r.1.1+r_3.1.1) then 12
 else if 32<W (r.1.1+r_3.1.1) then 32
 else W (r.1.1+r_3.1.1))<0) then (F_made_Tape_Next ((r_4.2.1.1,r_4.2.1.2.1,()),W (1*2 ^ min (U (if 12<if 32<W (r.1.1+r_3.1.1) then 32
 else W (r.1.1+r_3.1.1) then 12
 else if 32<W (r.1.1+r_3.1.1) then 32
 else W (r.1.1+r_3.1.1))).toNat IntKind.i64.bits),())).bind
 fun (r_5:(Int×Unit)×(List Int×Int×Unit)×Unit)=>some (((1,if 32<W (r.1.1+r_3.1.1) then 32
 else W (r.1.1+r_3.1.1),U32 r_5.1.1,()),()),(r_5.2.1.1,r_5.2.1.2.1,()),())
 else none
 else (F_made_Tape_Next ((r_2.2.1.1,r_2.2.1.2.1,()),4,())).bind
 fun (r:(Int×Unit)×(List Int×Int×Unit)×Unit)=>
 bif r.1.1 == 0 then some (((2,r_1.1.1,0,()),()),(r.2.1.1,r.2.1.2.1,()),())
 else bif r.1.1 == 1 then some (((3,r_1.1.1,0,()),()),(r.2.1.1,r.2.1.2.1,()),())
 else bif !decide (U (if 12<if 32<r_1.1.1 then 32
 else r_1.1.1 then 12
 else if 32<r_1.1.1 then 32
 else r_1.1.1)<0) then (F_made_Tape_Next ((r.2.1.1,r.2.1.2.1,()),W (1*2 ^ min (U (if 12<if 32<r_1.1.1 then 32
 else r_1.1.1 then 12
 else if 32<r_1.1.1 then 32
 else r_1.1.1)).toNat IntKind.i64.bits),())).bind
 fun (r:(Int×Unit)×(List Int×Int×Unit)×Unit)=>some (((1,if 32<r_1.1.1 then 32
 else r_1.1.1,U32 r.1.1,()),()),(r.2.1.1,r.2.1.2.1,()),())
 else none:=by
  unfold F_made_Tape_Header
  funext d
  kernel_rfl
theorem zq1:F_r04_Need=fun (d:(Int×Int×Unit)×Int×Unit)=>(F_r04_ValidConf ((d.1.1,d.1.2.1,()),())).bind
 fun (r:(Bool×Unit)×Unit)=>
 bif bif !r.1.1 then true
 else decide (d.2.1<1) then some ((-1,()),())
 else (F_r04_SmallWords ((d.1.1,d.1.2.1,()),())).bind
 fun (r:(Int×Unit)×Unit)=>
 bif decide (d.2.1<=r.1.1) then some ((0,()),())
 else (rl ((Int×Int×Unit)×Unit×Unit) ((Int×Unit)×Unit×Unit⊕(Int×Unit)×Unit×Unit) (fun (x:(Int×Int×Unit)×Unit×Unit)=>
 bif decide (x.1.2.1<=4) then
 bif decide (W (x.1.2.1*d.1.1) >= d.2.1) then some (Sum.inr (Sum.inl ((x.1.2.1,()),(),())))
 else some (Sum.inl ((x.1.1,W (x.1.2.1+1),()),(),()))
 else some (Sum.inr (Sum.inr ((x.1.1,()),(),())))) ((0,1,()),(),())).bind
 fun (r:(Int×Unit)×Unit×Unit⊕(Int×Unit)×Unit×Unit)=>Sum.elim (fun (x:(Int×Unit)×Unit×Unit)=>some ((x.1.1,()),())) (fun (y:(Int×Unit)×Unit×Unit)=>some ((-1,()),())) r:=by
  unfold F_r04_Need
  funext d
  kernel_rfl
theorem zpb:F_r04_tails=fun (d:(List PgD)×Int×Int×Unit)=>(rl ((Int×Int×Unit)×Unit×Unit) ((Int×Unit)×Unit×Unit) (fun (x:(Int×Int×Unit)×Unit×Unit)=>
 bif bif decide (x.1.2.1<(d.1.length:Int)) then inB x.1.2.1 d.1.length
 else true then
 bif bif decide (x.1.2.1<(d.1.length:Int)) then
 bif (d.1.getD x.1.2.1.toNat PG0).1 == 3 then inB x.1.2.1 d.1.length
 else true
 else true then
 bif bif decide (x.1.2.1<(d.1.length:Int)) then
 bif (d.1.getD x.1.2.1.toNat PG0).1 == 3 then (d.1.getD x.1.2.1.toNat PG0).2.1 == d.2.2.1
 else false
 else false then some (Sum.inl ((W (x.1.1+1),W (x.1.2.1+1),()),(),()))
 else some (Sum.inr ((x.1.1,()),(),()))
 else none
 else none) ((0,W (d.2.1+1),()),(),())).bind
 fun (r:(Int×Unit)×Unit×Unit)=>some ((r.1.1,()),()):=by
  unfold F_r04_tails
  funext d
  kernel_rfl
theorem zpe:F_r04_InUse=fun (d:(List PgD)×Unit)=>(rl ((Int×Int×Unit)×Unit×Unit) ((Int×Unit)×Unit×Unit) (fun (x:(Int×Int×Unit)×Unit×Unit)=>
 bif decide (x.1.2.1<(d.1.length:Int)) then
 bif inB x.1.2.1 d.1.length then some (Sum.inl ((bif (d.1.getD x.1.2.1.toNat PG0).1 != 0 then W (x.1.1+1)
 else x.1.1,W (x.1.2.1+1),()),(),()))
 else none
 else some (Sum.inr ((x.1.1,()),(),()))) ((0,0,()),(),())).bind
 fun (r:(Int×Unit)×Unit×Unit)=>some ((r.1.1,()),()):=by
  unfold F_r04_InUse
  funext d
  kernel_rfl
theorem zo9:F_r07_large=fun (d:((Int×Int×Unit)×List Int×(List PgD)×Int×Int×Unit)×Int×Int×Unit)=>(F_r04_First (d.1.2.2.1,d.2.2.1,())).bind
 fun (r:(Int×Unit)×Unit)=>
 bif decide (r.1.1<0) then some ((H0,0,false,()),())
 else (F_r04_InUse (d.1.2.2.1,())).bind
 fun (r_1:(Int×Unit)×Unit)=>(F_r04_Limit ((d.1.1.1,d.1.1.2.1,()),())).bind
 fun (r_2:(Int×Unit)×Unit)=>
 bif decide (W (r_1.1.1+d.2.2.1) > r_2.1.1) then some ((H0,0,false,()),())
 else (F_r04_Large ((d.1.1.1,d.1.1.2.1,()),d.1.2.2.1,r.1.1,d.1.2.2.2.1,d.2.1,())).bind
 fun (r_3:(List PgD×Int×Unit)×Unit)=>some ((((d.1.1.1,d.1.1.2.1,()),d.1.2.1,r_3.1.1,d.1.2.2.2.1,d.1.2.2.2.2.1,()),U (W (4096+W (r.1.1*d.1.1.1))),true,()),()):=by
  unfold F_r07_large
  funext d
  kernel_rfl
theorem zq3:F_r02_span=fun (d:List Int×Int×Int×Unit)=>
 bif bif decide (d.2.1<4096) then true
 else decide (d.2.1 > U (4096+U (d.1.length:Int))) then some ((0,false,()),())
 else some ((W (U (d.2.1-4096)),decide (d.2.2.1<=W ((d.1.length:Int)-W (U (d.2.1-4096)))),()),()):=by
  unfold F_r02_span
  funext d
  kernel_rfl
theorem zic:F_made_World_Put=fun (d:(((Int×Int×Unit)×List Int×(List PgD)×Int×Int×Unit)×List Int×List Int×Unit)×(Int×Int×Int×Unit)×Unit)=>(F_r07_New (((d.1.1.1.1,d.1.1.1.2.1,()),d.1.1.2.1,d.1.1.2.2.1,d.1.1.2.2.2.1,d.1.1.2.2.2.2.1,()),(d.2.1.1,d.2.1.2.1,d.2.1.2.2.1,()),())).bind
 fun (r:(HpD×Int×Int×Unit)×Unit)=>
 bif bif r.1.2.2.1 == 0 then zaJ (0+d.1.2.1.length) 8
 else true then
 bif bif r.1.2.2.1 == 0 then zaJ ((d.1.2.1).length + [r.1.2.1].length) 8
 else true then
 bif r.1.2.2.1 == 0 then some (((((r.1.1.1.1,r.1.1.1.2.1,()),r.1.1.2.1,r.1.1.2.2.1,r.1.1.2.2.2.1,r.1.1.2.2.2.2.1,()),d.1.2.1++[r.1.2.1],d.1.2.2.1,()),()),())
 else some (((((d.1.1.1.1,d.1.1.1.2.1,()),d.1.1.2.1,d.1.1.2.2.1,d.1.1.2.2.2.1,d.1.1.2.2.2.2.1,()),d.1.2.1,d.1.2.2.1,()),()),())
 else none
 else none:=by
  unfold F_made_World_Put
  funext d
  kernel_rfl
theorem zuY:F_r05_At=fun (d:((Int×Int×Unit)×List Int×(List PgD)×Int×Int×Unit)×Int×Unit)=>(F_r04_Proper (((d.1.1.1,d.1.1.2.1,()),d.1.2.1,d.1.2.2.1,d.1.2.2.2.1,d.1.2.2.2.2.1,()),())).bind
 fun (r:(Bool×Unit)×Unit)=>
 bif !r.1.1 then some (((0,0,0,()),1,()),())
 else (F_r04_Of ((d.1.1.1,d.1.1.2.1,()),d.2.1,())).bind
 fun (r:(Int×Int×Int×Unit)×Unit)=>
 bif r.1.2.2.1 != 0 then some (((0,0,0,()),2,()),())
 else bif inB r.1.1 d.1.2.2.1.length then (F_r02_Load (d.1.2.1,d.2.1,())).bind
 fun (r_1:(Int×Int×Unit)×Unit)=>(F_r03_Decode (r_1.1.1,())).bind
 fun (r_2:((Int×Int×Int×Unit)×Bool×Unit)×Unit)=>
 bif bif (d.1.2.2.1.getD r.1.1.toNat PG0).1 != 1 then
 bif (d.1.2.2.1.getD r.1.1.toNat PG0).1 != 2 then true
 else bif decide (r.1.2.1 >= (d.1.2.2.1.getD r.1.1.toNat PG0).2.2.1) then true
 else !r_2.1.2.1
 else bif decide (r.1.2.1 >= (d.1.2.2.1.getD r.1.1.toNat PG0).2.2.1) then true
 else !r_2.1.2.1 then some (((0,0,0,()),19,()),())
 else (F_r03_Size ((r_2.1.1.1,r_2.1.1.2.1,r_2.1.1.2.2.1,()),())).bind
 fun (r_3:(Int×Unit)×Unit)=>
 bif bif (d.1.2.2.1.getD r.1.1.toNat PG0).1 == 1 then
 bif decide (W (r.1.2.1+r_3.1.1) > (d.1.2.2.1.getD r.1.1.toNat PG0).2.2.1) then true
 else bif (d.1.2.2.1.getD r.1.1.toNat PG0).1 == 2 then
 bif r.1.2.1 != 0 then true
 else r_3.1.1 != (d.1.2.2.1.getD r.1.1.toNat PG0).2.2.1
 else false
 else bif (d.1.2.2.1.getD r.1.1.toNat PG0).1 == 2 then
 bif r.1.2.1 != 0 then true
 else r_3.1.1 != (d.1.2.2.1.getD r.1.1.toNat PG0).2.2.1
 else false then some (((0,0,0,()),19,()),())
 else some (((r_2.1.1.1,r_2.1.1.2.1,r_2.1.1.2.2.1,()),0,()),())
 else none:=by
  unfold F_r05_At
  funext d
  kernel_rfl
theorem zkx:F_r05_SetField=fun (d:((Int×Int×Unit)×List Int×(List PgD)×Int×Int×Unit)×Int×Int×Int×Unit)=>(F_r05_Field (((d.1.1.1,d.1.1.2.1,()),d.1.2.1,d.1.2.2.1,d.1.2.2.2.1,d.1.2.2.2.2.1,()),d.2.1,d.2.2.1,())).bind
 fun (r:(Int×Int×Unit)×Unit)=>
 bif r.1.2.1 != 0 then some ((H0,r.1.2.1,()),())
 else (F_r02_Store (d.1.2.1,U (U (d.2.1+1)+U d.2.2.1),d.2.2.2.1,())).bind
 fun (r:(List Int×Int×Unit)×Unit)=>some ((((d.1.1.1,d.1.1.2.1,()),r.1.1,d.1.2.2.1,d.1.2.2.2.1,d.1.2.2.2.2.1,()),0,()),()):=by
  unfold F_r05_SetField
  funext d
  kernel_rfl
theorem zqP:F_r09_page=fun (d:((Int×Int×Unit)×List Int×(List PgD)×Int×Int×Unit)×Int×Unit)=>
 bif inB d.2.1 d.1.2.2.1.length then
 bif bif (d.1.2.2.1.getD d.2.1.toNat PG0).1 != 0 then inB d.2.1 d.1.2.2.1.length
 else true then
 bif bif (d.1.2.2.1.getD d.2.1.toNat PG0).1 != 0 then (d.1.2.2.1.getD d.2.1.toNat PG0).2.1 != d.1.2.2.2.1
 else false then some (((2,d.2.1,0,()),()),())
 else (F_r06_Page (((d.1.1.1,d.1.1.2.1,()),d.1.2.1,d.1.2.2.1,d.1.2.2.2.1,d.1.2.2.2.2.1,()),d.2.1,())).bind
 fun (r:(List Int×Int×Unit)×Unit)=>
 bif r.1.2.1 != 0 then some (((3,d.2.1,0,()),()),())
 else (F_r09_class (((d.1.1.1,d.1.1.2.1,()),d.1.2.1,d.1.2.2.1,d.1.2.2.2.1,d.1.2.2.2.2.1,()),d.2.1,r.1.1,())).bind
 fun (r:(Int×Unit)×Unit)=>
 bif r.1.1 != 0 then some (((5,d.2.1,r.1.1,()),()),())
 else (F_r09_dirt (((d.1.1.1,d.1.1.2.1,()),d.1.2.1,d.1.2.2.1,d.1.2.2.2.1,d.1.2.2.2.2.1,()),d.2.1,())).bind
 fun (r:(Int×Unit)×Unit)=>
 bif r.1.1 != 0 then some (((4,d.2.1,r.1.1,()),()),())
 else some (((0,0,0,()),()),())
 else none
 else none:=by
  unfold F_r09_page
  funext d
  kernel_rfl
theorem zny:F_r06_Starts=fun (d:((Int×Int×Unit)×List Int×(List PgD)×Int×Int×Unit)×Unit)=>(F_r04_Proper (((d.1.1.1,d.1.1.2.1,()),d.1.2.1,d.1.2.2.1,d.1.2.2.2.1,d.1.2.2.2.2.1,()),())).bind
 fun (r:(Bool×Unit)×Unit)=>
 bif !r.1.1 then some (([],1,()),())
 else (rl ((List Int×Int×Unit×Int×Unit)×(List Int×Unit)×Unit) ((List Int×Int×Unit)×Unit×Unit⊕(List Int×Int×Unit×Unit)×(List Int×Unit)×Unit) (fun (x:(List Int×Int×Unit×Int×Unit)×(List Int×Unit)×Unit)=>
 bif decide (x.1.2.2.2.1<(d.1.2.2.1.length:Int)) then (F_r06_Page (((d.1.1.1,d.1.1.2.1,()),d.1.2.1,d.1.2.2.1,d.1.2.2.2.1,d.1.2.2.2.2.1,()),x.1.2.2.2.1,())).bind
 fun (r:(List Int×Int×Unit)×Unit)=>
 bif r.1.2.1 != 0 then some (Sum.inr (Sum.inl (([],r.1.2.1,()),(),())))
 else bif zaJ (x.2.1.1.length+r.1.1.length) 8 then some (Sum.inl ((x.1.1,x.1.2.1,(),W (x.1.2.2.2.1+1),()),(x.2.1.1++r.1.1,()),()))
 else none
 else some (Sum.inr (Sum.inr ((x.1.1,x.1.2.1,(),()),(x.2.1.1,()),())))) (([],0,(),0,()),([],()),())).bind
 fun (r:(List Int×Int×Unit)×Unit×Unit⊕(List Int×Int×Unit×Unit)×(List Int×Unit)×Unit)=>Sum.elim (fun (x:(List Int×Int×Unit)×Unit×Unit)=>some ((x.1.1,x.1.2.1,()),())) (fun (y:(List Int×Int×Unit×Unit)×(List Int×Unit)×Unit)=>some ((y.2.1.1,0,()),())) r:=by
  unfold F_r06_Starts
  funext d
  kernel_rfl
theorem znz:F_r05_Fields=fun (d:((Int×Int×Unit)×List Int×(List PgD)×Int×Int×Unit)×Int×Unit)=>(F_r05_Get (((d.1.1.1,d.1.1.2.1,()),d.1.2.1,d.1.2.2.1,d.1.2.2.2.1,d.1.2.2.2.2.1,()),d.2.1,())).bind
 fun (r:((Int×Int×Int×Unit)×Int×Unit)×Unit)=>
 bif r.1.2.1 != 0 then some (([],r.1.2.1,()),())
 else (F_r02_Read (d.1.2.1,U (d.2.1+1),r.1.1.2.1,())).bind
 fun (r:(List Int×Int×Unit)×Unit)=>some ((r.1.1,r.1.2.1,()),()):=by
  unfold F_r05_Fields
  funext d
  kernel_rfl
theorem znC:F_r03_Target=fun (d:Int×Unit)=>
 bif !4 == 0 then
 bif bif d.1.tmod 4 != 2 then true
 else !decide (2<0) then
 bif bif d.1.tmod 4 != 2 then true
 else decide (d.1.fdiv (2 ^ min (Int.toNat 2) IntKind.u64.bits) >= 4294967296) then some ((0,false,()),())
 else bif !decide (2<0) then some ((d.1.fdiv (2 ^ min (Int.toNat 2) IntKind.u64.bits),true,()),())
 else none
 else none
 else none:=by
  unfold F_r03_Target
  funext d
  kernel_rfl
theorem zo4:F_r10_place=fun (d:(((Int×Int×Unit)×List Int×(List PgD)×Int×Int×Unit)×List Int×List Int×List Int×Int×(Int×Int×Int×Int×Int×Int×Unit)×Unit)×Int×Unit)=>
 bif zaJ (0+d.1.1.2.2.1.length) 32 then
 bif bif decide ((d.1.2.2.1.length:Int) > 0) then inB (W ((d.1.2.2.1.length:Int)-1)) d.1.2.2.1.length
 else true then
 bif bif decide ((d.1.2.2.1.length:Int) > 0) then inB (d.1.2.2.1.getD (W ((d.1.2.2.1.length:Int)-1)).toNat 0) (d.1.1.2.2.1).length
 else true then
 bif bif
 bif decide ((d.1.2.2.1.length:Int) > 0) then decide (W (((d.1.1.2.2.1).getD (d.1.2.2.1.getD (W ((d.1.2.2.1.length:Int)-1)).toNat 0).toNat PG0).2.2.1+d.2.1)<=d.1.1.1.1)
 else false then inB (W ((d.1.2.2.1.length:Int)-1)) d.1.2.2.1.length
 else true then
 bif bif decide ((d.1.2.2.1.length:Int) > 0) then decide (W (((d.1.1.2.2.1).getD (d.1.2.2.1.getD (W ((d.1.2.2.1.length:Int)-1)).toNat 0).toNat PG0).2.2.1+d.2.1)<=d.1.1.1.1)
 else false then
 bif inB (d.1.2.2.1.getD (W ((d.1.2.2.1.length:Int)-1)).toNat 0) (d.1.1.2.2.1).length then
 bif inB (d.1.2.2.1.getD (W ((d.1.2.2.1.length:Int)-1)).toNat 0) (d.1.1.2.2.1).length then
 bif inB (d.1.2.2.1.getD (W ((d.1.2.2.1.length:Int)-1)).toNat 0) (d.1.1.2.2.1).length then some (((((d.1.1.1.1,d.1.1.1.2.1,()),d.1.1.2.1,(d.1.1.2.2.1).set (d.1.2.2.1.getD (W ((d.1.2.2.1.length:Int)-1)).toNat 0).toNat (((d.1.1.2.2.1).getD (d.1.2.2.1.getD (W ((d.1.2.2.1.length:Int)-1)).toNat 0).toNat PG0).1,((d.1.1.2.2.1).getD (d.1.2.2.1.getD (W ((d.1.2.2.1.length:Int)-1)).toNat 0).toNat PG0).2.1,W (((d.1.1.2.2.1).getD (d.1.2.2.1.getD (W ((d.1.2.2.1.length:Int)-1)).toNat 0).toNat PG0).2.2.1+d.2.1),((d.1.1.2.2.1).getD (d.1.2.2.1.getD (W ((d.1.2.2.1.length:Int)-1)).toNat 0).toNat PG0).2.2.2.1,()),d.1.1.2.2.2.1,d.1.1.2.2.2.2.1,()),d.1.2.1,d.1.2.2.1,d.1.2.2.2.1,d.1.2.2.2.2.1,(d.1.2.2.2.2.2.1.1,d.1.2.2.2.2.2.1.2.1,d.1.2.2.2.2.2.1.2.2.1,d.1.2.2.2.2.2.1.2.2.2.1,d.1.2.2.2.2.2.1.2.2.2.2.1,d.1.2.2.2.2.2.1.2.2.2.2.2.1,()),()),U (W (W (4096+W (d.1.2.2.1.getD (W ((d.1.2.2.1.length:Int)-1)).toNat 0*d.1.1.1.1))+((d.1.1.2.2.1).getD (d.1.2.2.1.getD (W ((d.1.2.2.1.length:Int)-1)).toNat 0).toNat PG0).2.2.1)),true,()),())
 else none
 else none
 else none
 else (F_r04_First (d.1.1.2.2.1,1,())).bind
 fun (r:(Int×Unit)×Unit)=>
 bif decide (r.1.1<0) then some (((H0,[],[],[],0,(0,0,0,0,0,0,()),()),0,false,()),())
 else (F_r04_Small_o (d.1.1.2.2.1,r.1.1,W (1-d.1.1.2.2.2.1),())).bind
 fun (r_1:(List PgD×Int×Unit)×Unit)=>
 bif zaJ (0+d.1.2.2.1.length) 8 then
 bif zaJ ((d.1.2.2.1).length + [r.1.1].length) 8 then
 bif inB r.1.1 r_1.1.1.length then
 bif inB r.1.1 r_1.1.1.length then
 bif inB r.1.1 r_1.1.1.length then some (((((d.1.1.1.1,d.1.1.1.2.1,()),d.1.1.2.1,r_1.1.1.set r.1.1.toNat ((r_1.1.1.getD r.1.1.toNat PG0).1,(r_1.1.1.getD r.1.1.toNat PG0).2.1,W ((r_1.1.1.getD r.1.1.toNat PG0).2.2.1+d.2.1),(r_1.1.1.getD r.1.1.toNat PG0).2.2.2.1,()),d.1.1.2.2.2.1,d.1.1.2.2.2.2.1,()),d.1.2.1,d.1.2.2.1++[r.1.1],d.1.2.2.2.1,d.1.2.2.2.2.1,(d.1.2.2.2.2.2.1.1,d.1.2.2.2.2.2.1.2.1,d.1.2.2.2.2.2.1.2.2.1,d.1.2.2.2.2.2.1.2.2.2.1,d.1.2.2.2.2.2.1.2.2.2.2.1,d.1.2.2.2.2.2.1.2.2.2.2.2.1,()),()),U (W (W (4096+W (r.1.1*d.1.1.1.1))+(r_1.1.1.getD r.1.1.toNat PG0).2.2.1)),true,()),())
 else none
 else none
 else none
 else none
 else none
 else none
 else none
 else none
 else none:=by
  unfold F_r10_place
  funext d
  kernel_rfl
theorem zq5:F_r02_Move=fun (d:List Int×Int×Int×Int×Unit)=>(F_r02_Read (d.1,d.2.2.1,d.2.2.2.1,())).bind
 fun (r:(List Int×Int×Unit)×Unit)=>
 bif r.1.2.1 != 0 then some (([],r.1.2.1,()),())
 else (F_r02_Write (d.1,d.2.1,r.1.1,())).bind
 fun (r:(List Int×Int×Unit)×Unit)=>some ((r.1.1,r.1.2.1,()),()):=by
  unfold F_r02_Move
  funext d
  kernel_rfl
theorem zo2:F_r11_Roots=fun (d:(((Int×Int×Unit)×List Int×(List PgD)×Int×Int×Unit)×List Int×List Int×List Int×Int×(Int×Int×Int×Int×Int×Int×Unit)×Unit)×List Int×Unit)=>(rl ((List Int×Int×Unit×Int×Unit)×(List Int×Unit)×(Int×Int×List Int×List PgD×Int×Int×List Int×List Int×List Int×Int×Int×Int×Int×Int×Int×Int×Unit)×(Int×Int×List Int×List PgD×Int×Int×List Int×List Int×List Int×Int×Int×Int×Int×Int×Int×Int×Unit)×Unit) ((List Int×Int×Unit)×Unit×(Int×Int×List Int×List PgD×Int×Int×List Int×List Int×List Int×Int×Int×Int×Int×Int×Int×Int×Unit)×(Int×Int×List Int×List PgD×Int×Int×List Int×List Int×List Int×Int×Int×Int×Int×Int×Int×Int×Unit)×Unit⊕(List Int×Int×Unit×Unit)×(List Int×Unit)×(Int×Int×List Int×List PgD×Int×Int×List Int×List Int×List Int×Int×Int×Int×Int×Int×Int×Int×Unit)×(Int×Int×List Int×List PgD×Int×Int×List Int×List Int×List Int×Int×Int×Int×Int×Int×Int×Int×Unit)×Unit) (fun (x:(List Int×Int×Unit×Int×Unit)×(List Int×Unit)×(Int×Int×List Int×List PgD×Int×Int×List Int×List Int×List Int×Int×Int×Int×Int×Int×Int×Int×Unit)×(Int×Int×List Int×List PgD×Int×Int×List Int×List Int×List Int×Int×Int×Int×Int×Int×Int×Int×Unit)×Unit)=>
 bif decide (x.1.2.2.2.1<(d.2.1.length:Int)) then
 bif inB x.1.2.2.2.1 d.2.1.length then (F_r10_Forward ((((x.2.2.1.1,x.2.2.1.2.1,()),x.2.2.1.2.2.1,x.2.2.1.2.2.2.1,x.2.2.1.2.2.2.2.1,x.2.2.1.2.2.2.2.2.1,()),x.2.2.1.2.2.2.2.2.2.1,x.2.2.1.2.2.2.2.2.2.2.1,x.2.2.1.2.2.2.2.2.2.2.2.1,x.2.2.1.2.2.2.2.2.2.2.2.2.1,(x.2.2.1.2.2.2.2.2.2.2.2.2.2.1,x.2.2.1.2.2.2.2.2.2.2.2.2.2.2.1,x.2.2.1.2.2.2.2.2.2.2.2.2.2.2.2.1,x.2.2.1.2.2.2.2.2.2.2.2.2.2.2.2.2.1,x.2.2.1.2.2.2.2.2.2.2.2.2.2.2.2.2.2.1,x.2.2.1.2.2.2.2.2.2.2.2.2.2.2.2.2.2.2.1,()),()),d.2.1.getD x.1.2.2.2.1.toNat 0,())).bind
 fun (r:((HpD×List Int×List Int×List Int×Int×(Int×Int×Int×Int×Int×Int×Unit)×Unit)×Int×Int×Unit)×Unit)=>
 bif r.1.2.2.1 != 0 then some (Sum.inr (Sum.inl (([],r.1.2.2.1,()),(),(x.2.2.1.1,x.2.2.1.2.1,x.2.2.1.2.2.1,x.2.2.1.2.2.2.1,x.2.2.1.2.2.2.2.1,x.2.2.1.2.2.2.2.2.1,x.2.2.1.2.2.2.2.2.2.1,x.2.2.1.2.2.2.2.2.2.2.1,x.2.2.1.2.2.2.2.2.2.2.2.1,x.2.2.1.2.2.2.2.2.2.2.2.2.1,x.2.2.1.2.2.2.2.2.2.2.2.2.2.1,x.2.2.1.2.2.2.2.2.2.2.2.2.2.2.1,x.2.2.1.2.2.2.2.2.2.2.2.2.2.2.2.1,x.2.2.1.2.2.2.2.2.2.2.2.2.2.2.2.2.1,x.2.2.1.2.2.2.2.2.2.2.2.2.2.2.2.2.2.1,x.2.2.1.2.2.2.2.2.2.2.2.2.2.2.2.2.2.2.1,()),(0,0,[],[],0,0,[],[],[],0,0,0,0,0,0,0,()),())))
 else bif zaJ (x.2.1.1.length + [r.1.2.1].length) 8 then some (Sum.inl ((x.1.1,x.1.2.1,(),W (x.1.2.2.2.1+1),()),(x.2.1.1++[r.1.2.1],()),(r.1.1.1.1.1,r.1.1.1.1.2.1,r.1.1.1.2.1,r.1.1.1.2.2.1,r.1.1.1.2.2.2.1,r.1.1.1.2.2.2.2.1,r.1.1.2.1,r.1.1.2.2.1,r.1.1.2.2.2.1,r.1.1.2.2.2.2.1,r.1.1.2.2.2.2.2.1.1,r.1.1.2.2.2.2.2.1.2.1,r.1.1.2.2.2.2.2.1.2.2.1,r.1.1.2.2.2.2.2.1.2.2.2.1,r.1.1.2.2.2.2.2.1.2.2.2.2.1,r.1.1.2.2.2.2.2.1.2.2.2.2.2.1,()),(x.2.2.2.1.1,x.2.2.2.1.2.1,x.2.2.2.1.2.2.1,x.2.2.2.1.2.2.2.1,x.2.2.2.1.2.2.2.2.1,x.2.2.2.1.2.2.2.2.2.1,x.2.2.2.1.2.2.2.2.2.2.1,x.2.2.2.1.2.2.2.2.2.2.2.1,x.2.2.2.1.2.2.2.2.2.2.2.2.1,x.2.2.2.1.2.2.2.2.2.2.2.2.2.1,x.2.2.2.1.2.2.2.2.2.2.2.2.2.2.1,x.2.2.2.1.2.2.2.2.2.2.2.2.2.2.2.1,x.2.2.2.1.2.2.2.2.2.2.2.2.2.2.2.2.1,x.2.2.2.1.2.2.2.2.2.2.2.2.2.2.2.2.2.1,x.2.2.2.1.2.2.2.2.2.2.2.2.2.2.2.2.2.2.1,x.2.2.2.1.2.2.2.2.2.2.2.2.2.2.2.2.2.2.2.1,()),()))
 else none
 else none
 else some (Sum.inr (Sum.inr ((x.1.1,x.1.2.1,(),()),(x.2.1.1,()),(x.2.2.1.1,x.2.2.1.2.1,x.2.2.1.2.2.1,x.2.2.1.2.2.2.1,x.2.2.1.2.2.2.2.1,x.2.2.1.2.2.2.2.2.1,x.2.2.1.2.2.2.2.2.2.1,x.2.2.1.2.2.2.2.2.2.2.1,x.2.2.1.2.2.2.2.2.2.2.2.1,x.2.2.1.2.2.2.2.2.2.2.2.2.1,x.2.2.1.2.2.2.2.2.2.2.2.2.2.1,x.2.2.1.2.2.2.2.2.2.2.2.2.2.2.1,x.2.2.1.2.2.2.2.2.2.2.2.2.2.2.2.1,x.2.2.1.2.2.2.2.2.2.2.2.2.2.2.2.2.1,x.2.2.1.2.2.2.2.2.2.2.2.2.2.2.2.2.2.1,x.2.2.1.2.2.2.2.2.2.2.2.2.2.2.2.2.2.2.1,()),(x.2.2.2.1.1,x.2.2.2.1.2.1,x.2.2.2.1.2.2.1,x.2.2.2.1.2.2.2.1,x.2.2.2.1.2.2.2.2.1,x.2.2.2.1.2.2.2.2.2.1,x.2.2.2.1.2.2.2.2.2.2.1,x.2.2.2.1.2.2.2.2.2.2.2.1,x.2.2.2.1.2.2.2.2.2.2.2.2.1,x.2.2.2.1.2.2.2.2.2.2.2.2.2.1,x.2.2.2.1.2.2.2.2.2.2.2.2.2.2.1,x.2.2.2.1.2.2.2.2.2.2.2.2.2.2.2.1,x.2.2.2.1.2.2.2.2.2.2.2.2.2.2.2.2.1,x.2.2.2.1.2.2.2.2.2.2.2.2.2.2.2.2.2.1,x.2.2.2.1.2.2.2.2.2.2.2.2.2.2.2.2.2.2.1,x.2.2.2.1.2.2.2.2.2.2.2.2.2.2.2.2.2.2.2.1,()),())))) (([],0,(),0,()),([],()),(d.1.1.1.1,d.1.1.1.2.1,d.1.1.2.1,d.1.1.2.2.1,d.1.1.2.2.2.1,d.1.1.2.2.2.2.1,d.1.2.1,d.1.2.2.1,d.1.2.2.2.1,d.1.2.2.2.2.1,d.1.2.2.2.2.2.1.1,d.1.2.2.2.2.2.1.2.1,d.1.2.2.2.2.2.1.2.2.1,d.1.2.2.2.2.2.1.2.2.2.1,d.1.2.2.2.2.2.1.2.2.2.2.1,d.1.2.2.2.2.2.1.2.2.2.2.2.1,()),(0,0,[],[],0,0,[],[],[],0,0,0,0,0,0,0,()),())).bind
 fun (r:(List Int×Int×Unit)×Unit×(Int×Int×List Int×List PgD×Int×Int×List Int×List Int×List Int×Int×Int×Int×Int×Int×Int×Int×Unit)×(Int×Int×List Int×List PgD×Int×Int×List Int×List Int×List Int×Int×Int×Int×Int×Int×Int×Int×Unit)×Unit⊕(List Int×Int×Unit×Unit)×(List Int×Unit)×(Int×Int×List Int×List PgD×Int×Int×List Int×List Int×List Int×Int×Int×Int×Int×Int×Int×Int×Unit)×(Int×Int×List Int×List PgD×Int×Int×List Int×List Int×List Int×Int×Int×Int×Int×Int×Int×Int×Unit)×Unit)=>Sum.elim (fun (x:(List Int×Int×Unit)×Unit×(Int×Int×List Int×List PgD×Int×Int×List Int×List Int×List Int×Int×Int×Int×Int×Int×Int×Int×Unit)×(Int×Int×List Int×List PgD×Int×Int×List Int×List Int×List Int×Int×Int×Int×Int×Int×Int×Int×Unit)×Unit)=>some (((((x.2.2.2.1.1,x.2.2.2.1.2.1,()),x.2.2.2.1.2.2.1,x.2.2.2.1.2.2.2.1,x.2.2.2.1.2.2.2.2.1,x.2.2.2.1.2.2.2.2.2.1,()),x.2.2.2.1.2.2.2.2.2.2.1,x.2.2.2.1.2.2.2.2.2.2.2.1,x.2.2.2.1.2.2.2.2.2.2.2.2.1,x.2.2.2.1.2.2.2.2.2.2.2.2.2.1,(x.2.2.2.1.2.2.2.2.2.2.2.2.2.2.1,x.2.2.2.1.2.2.2.2.2.2.2.2.2.2.2.1,x.2.2.2.1.2.2.2.2.2.2.2.2.2.2.2.2.1,x.2.2.2.1.2.2.2.2.2.2.2.2.2.2.2.2.2.1,x.2.2.2.1.2.2.2.2.2.2.2.2.2.2.2.2.2.2.1,x.2.2.2.1.2.2.2.2.2.2.2.2.2.2.2.2.2.2.2.1,()),()),x.1.1,x.1.2.1,()),())) (fun (y:(List Int×Int×Unit×Unit)×(List Int×Unit)×(Int×Int×List Int×List PgD×Int×Int×List Int×List Int×List Int×Int×Int×Int×Int×Int×Int×Int×Unit)×(Int×Int×List Int×List PgD×Int×Int×List Int×List Int×List Int×Int×Int×Int×Int×Int×Int×Int×Unit)×Unit)=>some (((((y.2.2.1.1,y.2.2.1.2.1,()),y.2.2.1.2.2.1,y.2.2.1.2.2.2.1,y.2.2.1.2.2.2.2.1,y.2.2.1.2.2.2.2.2.1,()),y.2.2.1.2.2.2.2.2.2.1,y.2.2.1.2.2.2.2.2.2.2.1,y.2.2.1.2.2.2.2.2.2.2.2.1,y.2.2.1.2.2.2.2.2.2.2.2.2.1,(y.2.2.1.2.2.2.2.2.2.2.2.2.2.1,y.2.2.1.2.2.2.2.2.2.2.2.2.2.2.1,y.2.2.1.2.2.2.2.2.2.2.2.2.2.2.2.1,y.2.2.1.2.2.2.2.2.2.2.2.2.2.2.2.2.1,y.2.2.1.2.2.2.2.2.2.2.2.2.2.2.2.2.2.1,y.2.2.1.2.2.2.2.2.2.2.2.2.2.2.2.2.2.2.1,()),()),y.2.1.1,0,()),())) r:=by
  unfold F_r11_Roots
  funext d
  kernel_rfl
theorem zqL:F_r12_fill=fun (d:(((Int×Int×Unit)×List Int×(List PgD)×Int×Int×Unit)×List Int×List Int×List Int×Int×(Int×Int×Int×Int×Int×Int×Unit)×Unit)×Unit)=>(rl ((Int×Unit)×Unit×(Int×Int×List Int×List PgD×Int×Int×List Int×List Int×List Int×Int×Int×Int×Int×Int×Int×Int×Unit)×Unit) (Unit×Unit×(Int×Int×List Int×List PgD×Int×Int×List Int×List Int×List Int×Int×Int×Int×Int×Int×Int×Int×Unit)×Unit) (fun (x:(Int×Unit)×Unit×(Int×Int×List Int×List PgD×Int×Int×List Int×List Int×List Int×Int×Int×Int×Int×Int×Int×Int×Unit)×Unit)=>
 bif decide (x.1.1<(x.2.2.1.2.2.2.2.2.2.1.length:Int)) then
 bif inB x.1.1 x.2.2.1.2.2.2.2.2.2.1.length then (F_r04_Of ((x.2.2.1.1,x.2.2.1.2.1,()),x.2.2.1.2.2.2.2.2.2.1.getD x.1.1.toNat 0,())).bind
 fun (r:(Int×Int×Int×Unit)×Unit)=>(F_r10_Promoted ((((x.2.2.1.1,x.2.2.1.2.1,()),x.2.2.1.2.2.1,x.2.2.1.2.2.2.1,x.2.2.1.2.2.2.2.1,x.2.2.1.2.2.2.2.2.1,()),x.2.2.1.2.2.2.2.2.2.1,x.2.2.1.2.2.2.2.2.2.2.1,x.2.2.1.2.2.2.2.2.2.2.2.1,x.2.2.1.2.2.2.2.2.2.2.2.2.1,(x.2.2.1.2.2.2.2.2.2.2.2.2.2.1,x.2.2.1.2.2.2.2.2.2.2.2.2.2.2.1,x.2.2.1.2.2.2.2.2.2.2.2.2.2.2.2.1,x.2.2.1.2.2.2.2.2.2.2.2.2.2.2.2.2.1,x.2.2.1.2.2.2.2.2.2.2.2.2.2.2.2.2.2.1,x.2.2.1.2.2.2.2.2.2.2.2.2.2.2.2.2.2.2.1,()),()),r.1.1,())).bind
 fun (r:(Bool×Unit)×Unit)=>
 bif bif !r.1.1 then true
 else inB x.1.1 x.2.2.1.2.2.2.2.2.2.1.length then
 bif !r.1.1 then some (Sum.inl ((W (x.1.1+1),()),(),(x.2.2.1.1,x.2.2.1.2.1,x.2.2.1.2.2.1,x.2.2.1.2.2.2.1,x.2.2.1.2.2.2.2.1,x.2.2.1.2.2.2.2.2.1,x.2.2.1.2.2.2.2.2.2.1,x.2.2.1.2.2.2.2.2.2.2.1,x.2.2.1.2.2.2.2.2.2.2.2.1,x.2.2.1.2.2.2.2.2.2.2.2.2.1,x.2.2.1.2.2.2.2.2.2.2.2.2.2.1,x.2.2.1.2.2.2.2.2.2.2.2.2.2.2.1,x.2.2.1.2.2.2.2.2.2.2.2.2.2.2.2.1,x.2.2.1.2.2.2.2.2.2.2.2.2.2.2.2.2.1,x.2.2.1.2.2.2.2.2.2.2.2.2.2.2.2.2.2.1,x.2.2.1.2.2.2.2.2.2.2.2.2.2.2.2.2.2.2.1,()),()))
 else (F_r06_Has (x.2.2.1.2.2.2.2.2.2.2.2.1,x.2.2.1.2.2.2.2.2.2.1.getD x.1.1.toNat 0,())).bind
 fun (r:(Bool×Unit)×Unit)=>
 bif r.1.1 then some (Sum.inl ((W (x.1.1+1),()),(),(x.2.2.1.1,x.2.2.1.2.1,x.2.2.1.2.2.1,x.2.2.1.2.2.2.1,x.2.2.1.2.2.2.2.1,x.2.2.1.2.2.2.2.2.1,x.2.2.1.2.2.2.2.2.2.1,x.2.2.1.2.2.2.2.2.2.2.1,x.2.2.1.2.2.2.2.2.2.2.2.1,x.2.2.1.2.2.2.2.2.2.2.2.2.1,x.2.2.1.2.2.2.2.2.2.2.2.2.2.1,x.2.2.1.2.2.2.2.2.2.2.2.2.2.2.1,x.2.2.1.2.2.2.2.2.2.2.2.2.2.2.2.1,x.2.2.1.2.2.2.2.2.2.2.2.2.2.2.2.2.1,x.2.2.1.2.2.2.2.2.2.2.2.2.2.2.2.2.2.1,x.2.2.1.2.2.2.2.2.2.2.2.2.2.2.2.2.2.2.1,()),()))
 else bif inB x.1.1 x.2.2.1.2.2.2.2.2.2.1.length then (F_r10_Get ((((x.2.2.1.1,x.2.2.1.2.1,()),x.2.2.1.2.2.1,x.2.2.1.2.2.2.1,x.2.2.1.2.2.2.2.1,x.2.2.1.2.2.2.2.2.1,()),x.2.2.1.2.2.2.2.2.2.1,x.2.2.1.2.2.2.2.2.2.2.1,x.2.2.1.2.2.2.2.2.2.2.2.1,x.2.2.1.2.2.2.2.2.2.2.2.2.1,(x.2.2.1.2.2.2.2.2.2.2.2.2.2.1,x.2.2.1.2.2.2.2.2.2.2.2.2.2.2.1,x.2.2.1.2.2.2.2.2.2.2.2.2.2.2.2.1,x.2.2.1.2.2.2.2.2.2.2.2.2.2.2.2.2.1,x.2.2.1.2.2.2.2.2.2.2.2.2.2.2.2.2.2.1,x.2.2.1.2.2.2.2.2.2.2.2.2.2.2.2.2.2.2.1,()),()),x.2.2.1.2.2.2.2.2.2.1.getD x.1.1.toNat 0,())).bind
 fun (r:((Int×Int×Int×Unit)×Unit)×Unit)=>(F_r03_Encode ((0,r.1.1.2.1,0,()),())).bind
 fun (r_1:(Int×Int×Unit)×Unit)=>
 bif inB x.1.1 x.2.2.1.2.2.2.2.2.2.1.length then
 bif decide (0<=r.1.1.2.1) then
 bif zaJ ([r_1.1.1].length+r.1.1.2.1.toNat) 8 then (F_r02_Write (x.2.2.1.2.2.1,x.2.2.1.2.2.2.2.2.2.1.getD x.1.1.toNat 0,[r_1.1.1]++List.replicate r.1.1.2.1.toNat (0:Int),())).bind
 fun (r:(List Int×Int×Unit)×Unit)=>some (Sum.inl ((W (x.1.1+1),()),(),(x.2.2.1.1,x.2.2.1.2.1,r.1.1,x.2.2.1.2.2.2.1,x.2.2.1.2.2.2.2.1,x.2.2.1.2.2.2.2.2.1,x.2.2.1.2.2.2.2.2.2.1,x.2.2.1.2.2.2.2.2.2.2.1,x.2.2.1.2.2.2.2.2.2.2.2.1,x.2.2.1.2.2.2.2.2.2.2.2.2.1,x.2.2.1.2.2.2.2.2.2.2.2.2.2.1,x.2.2.1.2.2.2.2.2.2.2.2.2.2.2.1,W (x.2.2.1.2.2.2.2.2.2.2.2.2.2.2.2.1+1),x.2.2.1.2.2.2.2.2.2.2.2.2.2.2.2.2.1,x.2.2.1.2.2.2.2.2.2.2.2.2.2.2.2.2.2.1,x.2.2.1.2.2.2.2.2.2.2.2.2.2.2.2.2.2.2.1,()),()))
 else none
 else none
 else none
 else none
 else none
 else none
 else some (Sum.inr ((),(),(x.2.2.1.1,x.2.2.1.2.1,x.2.2.1.2.2.1,x.2.2.1.2.2.2.1,x.2.2.1.2.2.2.2.1,x.2.2.1.2.2.2.2.2.1,x.2.2.1.2.2.2.2.2.2.1,x.2.2.1.2.2.2.2.2.2.2.1,x.2.2.1.2.2.2.2.2.2.2.2.1,x.2.2.1.2.2.2.2.2.2.2.2.2.1,x.2.2.1.2.2.2.2.2.2.2.2.2.2.1,x.2.2.1.2.2.2.2.2.2.2.2.2.2.2.1,x.2.2.1.2.2.2.2.2.2.2.2.2.2.2.2.1,x.2.2.1.2.2.2.2.2.2.2.2.2.2.2.2.2.1,x.2.2.1.2.2.2.2.2.2.2.2.2.2.2.2.2.2.1,x.2.2.1.2.2.2.2.2.2.2.2.2.2.2.2.2.2.2.1,()),()))) ((0,()),(),(d.1.1.1.1,d.1.1.1.2.1,d.1.1.2.1,d.1.1.2.2.1,d.1.1.2.2.2.1,d.1.1.2.2.2.2.1,d.1.2.1,d.1.2.2.1,d.1.2.2.2.1,d.1.2.2.2.2.1,d.1.2.2.2.2.2.1.1,d.1.2.2.2.2.2.1.2.1,d.1.2.2.2.2.2.1.2.2.1,d.1.2.2.2.2.2.1.2.2.2.1,d.1.2.2.2.2.2.1.2.2.2.2.1,d.1.2.2.2.2.2.1.2.2.2.2.2.1,()),())).bind
 fun (r:Unit×Unit×(Int×Int×List Int×List PgD×Int×Int×List Int×List Int×List Int×Int×Int×Int×Int×Int×Int×Int×Unit)×Unit)=>some (((((r.2.2.1.1,r.2.2.1.2.1,()),r.2.2.1.2.2.1,r.2.2.1.2.2.2.1,r.2.2.1.2.2.2.2.1,r.2.2.1.2.2.2.2.2.1,()),r.2.2.1.2.2.2.2.2.2.1,r.2.2.1.2.2.2.2.2.2.2.1,r.2.2.1.2.2.2.2.2.2.2.2.1,r.2.2.1.2.2.2.2.2.2.2.2.2.1,(r.2.2.1.2.2.2.2.2.2.2.2.2.2.1,r.2.2.1.2.2.2.2.2.2.2.2.2.2.2.1,r.2.2.1.2.2.2.2.2.2.2.2.2.2.2.2.1,r.2.2.1.2.2.2.2.2.2.2.2.2.2.2.2.2.1,r.2.2.1.2.2.2.2.2.2.2.2.2.2.2.2.2.2.1,r.2.2.1.2.2.2.2.2.2.2.2.2.2.2.2.2.2.2.1,()),()),()),()):=by
  unfold F_r12_fill
  funext d
  kernel_rfl
theorem zqK:F_r12_free=fun (d:(((Int×Int×Unit)×List Int×(List PgD)×Int×Int×Unit)×List Int×List Int×List Int×Int×(Int×Int×Int×Int×Int×Int×Unit)×Unit)×Unit)=>
 bif zaJ (0+d.1.1.2.2.1.length) 32 then
 bif zaJ (0+d.1.1.2.1.length) 8 then (rl ((Int×Unit)×(List Int×List PgD×Unit)×(Int×Int×Unit×Unit×Int×Int×List Int×List Int×List Int×Int×Int×Int×Int×Int×Int×Int×Unit)×Unit) (Unit×(List Int×List PgD×Unit)×(Int×Int×Unit×Unit×Int×Int×List Int×List Int×List Int×Int×Int×Int×Int×Int×Int×Int×Unit)×Unit) (fun (x:(Int×Unit)×(List Int×List PgD×Unit)×(Int×Int×Unit×Unit×Int×Int×List Int×List Int×List Int×Int×Int×Int×Int×Int×Int×Int×Unit)×Unit)=>
 bif decide (x.1.1<(x.2.1.2.1.length:Int)) then
 bif inB x.1.1 x.2.1.2.1.length then
 bif bif (x.2.1.2.1.getD x.1.1.toNat PG0).1 == 0 then true
 else (x.2.1.2.1.getD x.1.1.toNat PG0).2.1 != x.2.2.1.2.2.2.2.1 then some (Sum.inl ((W (x.1.1+1),()),(x.2.1.1,x.2.1.2.1,()),(x.2.2.1.1,x.2.2.1.2.1,(),(),x.2.2.1.2.2.2.2.1,x.2.2.1.2.2.2.2.2.1,x.2.2.1.2.2.2.2.2.2.1,x.2.2.1.2.2.2.2.2.2.2.1,x.2.2.1.2.2.2.2.2.2.2.2.1,x.2.2.1.2.2.2.2.2.2.2.2.2.1,x.2.2.1.2.2.2.2.2.2.2.2.2.2.1,x.2.2.1.2.2.2.2.2.2.2.2.2.2.2.1,x.2.2.1.2.2.2.2.2.2.2.2.2.2.2.2.1,x.2.2.1.2.2.2.2.2.2.2.2.2.2.2.2.2.1,x.2.2.1.2.2.2.2.2.2.2.2.2.2.2.2.2.2.1,x.2.2.1.2.2.2.2.2.2.2.2.2.2.2.2.2.2.2.1,()),()))
 else bif inB x.1.1 x.2.1.2.1.length then (rl ((Int×Unit)×Unit×List Int×Unit) (Unit×Unit×List Int×Unit) (fun (x_1:(Int×Unit)×Unit×List Int×Unit)=>
 bif decide (x_1.1.1<x.2.2.1.1) then
 bif inB (W (W (x.1.1*x.2.2.1.1)+x_1.1.1)) x_1.2.2.1.length then some (Sum.inl ((W (x_1.1.1+1),()),(),x_1.2.2.1.set (W (W (x.1.1*x.2.2.1.1)+x_1.1.1)).toNat 0,()))
 else none
 else some (Sum.inr ((),(),x_1.2.2.1,()))) ((0,()),(),x.2.1.1,())).bind
 fun (r:Unit×Unit×List Int×Unit)=>some (Sum.inl ((W (x.1.1+1),()),(r.2.2.1,x.2.1.2.1.set x.1.1.toNat PG0,()),(x.2.2.1.1,x.2.2.1.2.1,(),(),x.2.2.1.2.2.2.2.1,x.2.2.1.2.2.2.2.2.1,x.2.2.1.2.2.2.2.2.2.1,x.2.2.1.2.2.2.2.2.2.2.1,x.2.2.1.2.2.2.2.2.2.2.2.1,x.2.2.1.2.2.2.2.2.2.2.2.2.1,x.2.2.1.2.2.2.2.2.2.2.2.2.2.1,x.2.2.1.2.2.2.2.2.2.2.2.2.2.2.1,x.2.2.1.2.2.2.2.2.2.2.2.2.2.2.2.1,W (x.2.2.1.2.2.2.2.2.2.2.2.2.2.2.2.2.1+1),x.2.2.1.2.2.2.2.2.2.2.2.2.2.2.2.2.2.1,x.2.2.1.2.2.2.2.2.2.2.2.2.2.2.2.2.2.2.1,()),()))
 else none
 else none
 else some (Sum.inr ((),(x.2.1.1,x.2.1.2.1,()),(x.2.2.1.1,x.2.2.1.2.1,(),(),x.2.2.1.2.2.2.2.1,x.2.2.1.2.2.2.2.2.1,x.2.2.1.2.2.2.2.2.2.1,x.2.2.1.2.2.2.2.2.2.2.1,x.2.2.1.2.2.2.2.2.2.2.2.1,x.2.2.1.2.2.2.2.2.2.2.2.2.1,x.2.2.1.2.2.2.2.2.2.2.2.2.2.1,x.2.2.1.2.2.2.2.2.2.2.2.2.2.2.1,x.2.2.1.2.2.2.2.2.2.2.2.2.2.2.2.1,x.2.2.1.2.2.2.2.2.2.2.2.2.2.2.2.2.1,x.2.2.1.2.2.2.2.2.2.2.2.2.2.2.2.2.2.1,x.2.2.1.2.2.2.2.2.2.2.2.2.2.2.2.2.2.2.1,()),()))) ((0,()),(d.1.1.2.1,d.1.1.2.2.1,()),(d.1.1.1.1,d.1.1.1.2.1,(),(),d.1.1.2.2.2.1,d.1.1.2.2.2.2.1,d.1.2.1,d.1.2.2.1,d.1.2.2.2.1,d.1.2.2.2.2.1,d.1.2.2.2.2.2.1.1,d.1.2.2.2.2.2.1.2.1,d.1.2.2.2.2.2.1.2.2.1,d.1.2.2.2.2.2.1.2.2.2.1,d.1.2.2.2.2.2.1.2.2.2.2.1,d.1.2.2.2.2.2.1.2.2.2.2.2.1,()),())).bind
 fun (r:Unit×(List Int×List PgD×Unit)×(Int×Int×Unit×Unit×Int×Int×List Int×List Int×List Int×Int×Int×Int×Int×Int×Int×Int×Unit)×Unit)=>some (((((r.2.2.1.1,r.2.2.1.2.1,()),r.2.1.1,r.2.1.2.1,r.2.2.1.2.2.2.2.1,r.2.2.1.2.2.2.2.2.1,()),r.2.2.1.2.2.2.2.2.2.1,r.2.2.1.2.2.2.2.2.2.2.1,r.2.2.1.2.2.2.2.2.2.2.2.1,r.2.2.1.2.2.2.2.2.2.2.2.2.1,(r.2.2.1.2.2.2.2.2.2.2.2.2.2.1,r.2.2.1.2.2.2.2.2.2.2.2.2.2.2.1,r.2.2.1.2.2.2.2.2.2.2.2.2.2.2.2.1,r.2.2.1.2.2.2.2.2.2.2.2.2.2.2.2.2.1,r.2.2.1.2.2.2.2.2.2.2.2.2.2.2.2.2.2.1,r.2.2.1.2.2.2.2.2.2.2.2.2.2.2.2.2.2.2.1,()),()),()),())
 else none
 else none:=by
  unfold F_r12_free
  funext d
  kernel_rfl
theorem zpk:F_page_size=fun (d:(Int×Int×Unit)×Unit)=>some ((W (d.1.1*d.1.2.1),()),()):=by
 unfold F_page_size
 funext d
 kernel_rfl
theorem zlV:F_page_isPins=fun (d:Int×Unit)=>(F_page_within (d.1,0,2147483647,())).bind
 fun (r:(Bool×Unit)×Unit)=>some ((r.1.1,()),()):=by
  unfold F_page_isPins
  funext d
  kernel_rfl
theorem zpl:F_page_Need=fun (d:(Int×Int×Unit)×Int×Unit)=>(F_page_ValidConf ((d.1.1,d.1.2.1,()),())).bind
 fun (r:(Bool×Unit)×Unit)=>
 bif !r.1.1 then some ((-1,()),())
 else (F_page_within (d.2.1,1,W (4*d.1.1),())).bind
 fun (r:(Bool×Unit)×Unit)=>
 bif !r.1.1 then some ((-1,()),())
 else (F_page_SmallWords ((d.1.1,d.1.2.1,()),())).bind
 fun (r:(Int×Unit)×Unit)=>
 bif decide (d.2.1<=r.1.1) then some ((0,()),())
 else bif !d.1.1 == 0 then some ((W ((W (W (d.2.1+d.1.1)-1)).tdiv d.1.1),()),())
 else none:=by
  unfold F_page_Need
  funext d
  kernel_rfl
theorem zfK:F_page_table_proper=fun (d:((Int×Int×Unit)×(List PgD)×Unit)×Unit)=>(rl ((Bool×Int×Unit)×Unit×Unit) ((Bool×Unit)×Unit×Unit⊕(Bool×Unit)×Unit×Unit) (fun (x:(Bool×Int×Unit)×Unit×Unit)=>
 bif decide (x.1.2.1<(d.1.2.1.length:Int)) then
 bif inB x.1.2.1 d.1.2.1.length then (F_page_within ((d.1.2.1.getD x.1.2.1.toNat PG0).1,0,3,())).bind
 fun (r:(Bool×Unit)×Unit)=>
 bif !r.1.1 then some (Sum.inr (Sum.inl ((false,()),(),())))
 else bif decide ((d.1.2.1.getD x.1.2.1.toNat PG0).1=(0:Int)) then (F_page_table_free (((d.1.1.1,d.1.1.2.1,()),d.1.2.1,()),x.1.2.1,())).bind
 fun (r:(Bool×Unit)×Unit)=>
 bif !r.1.1 then some (Sum.inr (Sum.inl ((false,()),(),())))
 else some (Sum.inl ((x.1.1,W (x.1.2.1+1),()),(),()))
 else bif decide ((d.1.2.1.getD x.1.2.1.toNat PG0).1=(1:Int)) then (F_page_table_small (((d.1.1.1,d.1.1.2.1,()),d.1.2.1,()),x.1.2.1,())).bind
 fun (r:(Bool×Unit)×Unit)=>
 bif !r.1.1 then some (Sum.inr (Sum.inl ((false,()),(),())))
 else some (Sum.inl ((x.1.1,W (x.1.2.1+1),()),(),()))
 else bif decide ((d.1.2.1.getD x.1.2.1.toNat PG0).1=(2:Int)) then (F_page_table_large (((d.1.1.1,d.1.1.2.1,()),d.1.2.1,()),x.1.2.1,())).bind
 fun (r:(Bool×Unit)×Unit)=>
 bif !r.1.1 then some (Sum.inr (Sum.inl ((false,()),(),())))
 else some (Sum.inl ((x.1.1,W (x.1.2.1+1),()),(),()))
 else bif decide ((d.1.2.1.getD x.1.2.1.toNat PG0).1=(3:Int)) then (F_page_table_tail (((d.1.1.1,d.1.1.2.1,()),d.1.2.1,()),x.1.2.1,())).bind
 fun (r:(Bool×Unit)×Unit)=>
 bif !r.1.1 then some (Sum.inr (Sum.inl ((false,()),(),())))
 else some (Sum.inl ((x.1.1,W (x.1.2.1+1),()),(),()))
 else bif false then none
 else none
 else none
 else some (Sum.inr (Sum.inr ((x.1.1,()),(),())))) ((false,0,()),(),())).bind
 fun (r:(Bool×Unit)×Unit×Unit⊕(Bool×Unit)×Unit×Unit)=>Sum.elim (fun (x:(Bool×Unit)×Unit×Unit)=>some ((x.1.1,()),())) (fun (y:(Bool×Unit)×Unit×Unit)=>some ((true,()),())) r:=by
  unfold F_page_table_proper
  funext d
  kernel_rfl
theorem zpo:F_bits_Ones=fun (d:Int×Unit)=>
 bif decide (d.1<0) then some ((0,()),())
 else bif !decide (d.1<0) then some ((U (U (1*2 ^ min d.1.toNat IntKind.u64.bits)-1),()),())
 else none:=by
  unfold F_bits_Ones
  funext d
  kernel_rfl
theorem zkC:F_header_Valid=fun (d:(Int×Int×Int×Unit)×Unit)=>
 bif d.1.1 == 1 then
 bif decide (d.1.2.1 >= 0) then
 bif decide (d.1.2.1<=32) then (F_bits_Ones (d.1.2.1,())).bind
 fun (r:(Int×Unit)×Unit)=>some ((decide (U d.1.2.2.1<=r.1.1),()),())
 else some ((false,()),())
 else some ((false,()),())
 else bif
 bif d.1.1 == 0 then d.1.1 == 0
 else bif d.1.1 == 2 then d.1.1 == 2
 else d.1.1 == 3 then some ((bif decide (d.1.2.1 >= 0) then
 bif decide (d.1.2.1<=255) then (d.1.1,d.1.2.1,d.1.2.2.1,()).1 == (d.1.1,d.1.2.1,0,()).1&&((d.1.1,d.1.2.1,d.1.2.2.1,()).2.1 == (d.1.1,d.1.2.1,0,()).2.1&&((d.1.1,d.1.2.1,d.1.2.2.1,()).2.2.1 == (d.1.1,d.1.2.1,0,()).2.2.1&&true))
 else false
 else false,()),())
 else some ((false,()),()):=by
  unfold F_header_Valid
  funext d
  kernel_rfl
theorem zlY:F_header_Size=fun (d:(Int×Int×Int×Unit)×Unit)=>(F_header_Valid ((d.1.1,d.1.2.1,d.1.2.2.1,()),())).bind
 fun (r:(Bool×Unit)×Unit)=>
 bif !r.1.1 then some ((0,()),())
 else some ((W (d.1.2.1+1),()),()):=by
  unfold F_header_Size
  funext d
  kernel_rfl
theorem zjt:F_object_reader=fun (d:((Int×Int×Unit)×List Int×(List PgD)×Int×Int×Unit)×Unit)=>some (((((d.1.1.1,d.1.1.2.1,()),d.1.2.1,d.1.2.2.1,d.1.2.2.2.1,d.1.2.2.2.2.1,()),()),()),()):=by
 unfold F_object_reader
 funext d
 kernel_rfl
theorem zl0:F_arena_Index=fun (d:List Int×Int×Unit)=>(F_arena_locate (d.1,d.2.1,1,())).bind
 fun (r:(Int×Int×Unit)×Unit)=>some ((r.1.1,r.1.2.1,()),()):=by
  unfold F_arena_Index
  funext d
  kernel_rfl
theorem znJ:F_arena_Load=fun (d:List Int×Int×Unit)=>(F_arena_Index (d.1,d.2.1,())).bind
 fun (r:(Int×Int×Unit)×Unit)=>
 bif r.1.2.1 != 0 then some ((0,r.1.2.1,()),())
 else bif inB r.1.1 d.1.length then some ((d.1.getD r.1.1.toNat 0,0,()),())
 else none:=by
  unfold F_arena_Load
  funext d
  kernel_rfl
theorem zlZ:F_bits_Unpack=fun (d:Int×List Int×Unit)=>(F_bits_fit_c_bits_Unpack_S1 ((d.2.1.length:Int),d.2.1,())).bind
 fun (r:(Bool×Unit)×List Int×Unit)=>
 bif !r.1.1 then some (([],1,()),())
 else bif decide (0<=(r.2.1.length:Int)/\(r.2.1.length:Int)<=(r.2.1.length:Int)) then
 bif zaJ ((r.2.1.length:Int)).toNat 8 then (rl ((Int×Int×Unit)×Unit×List Int×Unit) ((Int×Unit)×Unit×List Int×Unit) (fun (x:(Int×Int×Unit)×Unit×List Int×Unit)=>
 bif decide (x.1.2.1<(r.2.1.length:Int)) then
 bif inB x.1.2.1 r.2.1.length then (F_bits_Ones (r.2.1.getD x.1.2.1.toNat 0,())).bind
 fun (r_1:(Int×Unit)×Unit)=>
 bif inB x.1.2.1 x.2.2.1.length then
 bif inB x.1.2.1 r.2.1.length then
 bif !decide (r.2.1.getD x.1.2.1.toNat 0<0) then some (Sum.inl ((x.1.1.fdiv (2 ^ min (r.2.1.getD x.1.2.1.toNat 0).toNat IntKind.u64.bits),W (x.1.2.1+1),()),(),x.2.2.1.set x.1.2.1.toNat (zcx IntKind.u64 (fun (x1 x2:BitVec IntKind.u64.bits)=>x1 &&& x2) x.1.1 r_1.1.1),()))
 else none
 else none
 else none
 else none
 else some (Sum.inr ((x.1.1,()),(),x.2.2.1,()))) ((d.1,0,()),(),List.replicate ((r.2.1.length:Int)).toNat (0:Int),())).bind
 fun (r:(Int×Unit)×Unit×List Int×Unit)=>
 bif r.1.1 != 0 then some (([],2,()),())
 else some ((r.2.2.1,0,()),())
 else none
 else none:=by
  unfold F_bits_Unpack
  funext d
  kernel_rfl
theorem zpm:F_object_At=fun (d:((Int×Int×Unit)×List Int×(List PgD)×Int×Int×Unit)×Int×Unit)=>(F_page_Proper (((d.1.1.1,d.1.1.2.1,()),d.1.2.1,d.1.2.2.1,d.1.2.2.2.1,d.1.2.2.2.2.1,()),())).bind
 fun (r:(Bool×Unit)×Unit)=>
 bif !r.1.1 then some (((0,0,0,()),1,()),())
 else (F_page_Of ((d.1.1.1,d.1.1.2.1,()),d.2.1,())).bind
 fun (r:(Int×Int×Int×Unit)×Unit)=>
 bif r.1.2.2.1 != 0 then some (((0,0,0,()),r.1.2.2.1,()),())
 else (F_object_reader (((d.1.1.1,d.1.1.2.1,()),d.1.2.1,d.1.2.2.1,d.1.2.2.2.1,d.1.2.2.2.2.1,()),())).bind
 fun (r_1:((HpD×Unit)×Unit)×Unit)=>(F_object_reader_S1_c (d.2.1,((r_1.1.1.1.1.1,r_1.1.1.1.1.2.1,()),r_1.1.1.1.2.1,r_1.1.1.1.2.2.1,r_1.1.1.1.2.2.2.1,r_1.1.1.1.2.2.2.2.1,()),())).bind
 fun (r_2:(Int×Int×Unit)×HpD×Unit)=>
 bif r_2.1.2.1 != 0 then some (((0,0,0,()),r_2.1.2.1,()),())
 else (F_header_Decode (r_2.1.1,())).bind
 fun (r_3:((Int×Int×Int×Unit)×Bool×Unit)×Unit)=>
 bif bif !r_3.1.2.1 then true
 else inB r.1.1 d.1.2.2.1.length then
 bif !r_3.1.2.1 then some (((0,0,0,()),19,()),())
 else (F_header_Size ((r_3.1.1.1,r_3.1.1.2.1,r_3.1.1.2.2.1,()),())).bind
 fun (r_4:(Int×Unit)×Unit)=>(F_object_fits (((d.1.2.2.1.getD r.1.1.toNat PG0).1,(d.1.2.2.1.getD r.1.1.toNat PG0).2.1,(d.1.2.2.1.getD r.1.1.toNat PG0).2.2.1,(d.1.2.2.1.getD r.1.1.toNat PG0).2.2.2.1,()),r.1.2.1,r_4.1.1,())).bind
 fun (r:(Bool×Unit)×Unit)=>
 bif !r.1.1 then some (((0,0,0,()),19,()),())
 else some (((r_3.1.1.1,r_3.1.1.2.1,r_3.1.1.2.2.1,()),0,()),())
 else none:=by
  unfold F_object_At
  funext d
  kernel_rfl
theorem zjv:F_audit_belongs=fun (d:(Int×Int×Unit)×Int×(Int×Int×Int×Unit)×Unit)=>
 bif d.2.1 == 2 then some ((d.2.2.1.1 != 0,()),())
 else (F_header_Size ((d.2.2.1.1,d.2.2.1.2.1,d.2.2.1.2.2.1,()),())).bind
 fun (r:(Int×Unit)×Unit)=>(F_page_SmallWords ((d.1.1,d.1.2.1,()),())).bind
 fun (r_1:(Int×Unit)×Unit)=>some ((decide (r.1.1<=r_1.1.1),()),()):=by
  unfold F_audit_belongs
  funext d
  kernel_rfl
theorem znH:F_audit_word=fun (d:((Int×Int×Unit)×List Int×(List PgD)×Int×Int×Unit)×Int×Unit)=>
 bif inB (U (d.2.1-4096)) d.1.2.1.length then some ((d.1.2.1.getD (U (d.2.1-4096)).toNat 0,()),())
 else none:=by
  unfold F_audit_word
  funext d
  kernel_rfl
theorem zih:F_header_Pointer=fun (d:(Int×Int×Int×Unit)×Int×Unit)=>(F_header_Valid ((d.1.1,d.1.2.1,d.1.2.2.1,()),())).bind
 fun (r:(Bool×Unit)×Unit)=>
 bif bif !r.1.1 then true
 else bif decide (d.2.1<0) then true
 else decide (d.2.1 >= d.1.2.1) then some ((false,()),())
 else bif
 bif d.1.1 == 2 then true
 else bif d.1.1 == 1 then !decide (d.2.1<0)
 else true then some ((bif d.1.1 == 2 then true
 else bif d.1.1 == 1 then zcx IntKind.u32 (fun (x1 x2:BitVec IntKind.u32.bits)=>x1 &&& x2) (d.1.2.2.1.fdiv (2 ^ min d.2.1.toNat IntKind.u32.bits)) 1 == 1
 else false,()),())
 else none:=by
  unfold F_header_Pointer
  funext d
  kernel_rfl
theorem zg0:F_header_Pointers=fun (d:(Int×Int×Int×Unit)×Unit)=>(F_header_Valid ((d.1.1,d.1.2.1,d.1.2.2.1,()),())).bind
 fun (r:(Bool×Unit)×Unit)=>
 bif !r.1.1 then some (([],()),())
 else (rl ((Unit×Int×Unit)×(List Int×Unit)×Unit) ((Unit×Unit)×(List Int×Unit)×Unit) (fun (x:(Unit×Int×Unit)×(List Int×Unit)×Unit)=>
 bif decide (x.1.2.1<d.1.2.1) then (F_header_Pointer ((d.1.1,d.1.2.1,d.1.2.2.1,()),x.1.2.1,())).bind
 fun (r:(Bool×Unit)×Unit)=>
 bif bif r.1.1 then zaJ (x.2.1.1.length + [x.1.2.1].length) 8
 else true then
 bif r.1.1 then some (Sum.inl (((),W (x.1.2.1+1),()),(x.2.1.1++[x.1.2.1],()),()))
 else some (Sum.inl (((),W (x.1.2.1+1),()),(x.2.1.1,()),()))
 else none
 else some (Sum.inr (((),()),(x.2.1.1,()),()))) (((),0,()),([],()),())).bind
 fun (r:(Unit×Unit)×(List Int×Unit)×Unit)=>some ((r.2.1.1,()),()):=by
  unfold F_header_Pointers
  funext d
  kernel_rfl
theorem zg1:F_cmp_Less_uint64=fun (d:Int×Int×Unit)=>(F_cmp_isNaN_uint64 (d.1,())).bind
 fun (r:(Bool×Unit)×Unit)=>
 bif r.1.1 then (F_cmp_isNaN_uint64 (d.2.1,())).bind
 fun (r:(Bool×Unit)×Unit)=>some ((bif !r.1.1 then true
 else decide (d.1<d.2.1),()),())
 else some ((decide (d.1<d.2.1),()),()):=by
  unfold F_cmp_Less_uint64
  funext d
  kernel_rfl
theorem zeP:F_slices_isNaN_uint64=fun (d:Int×Unit)=>some ((d.1 != d.1,()),()):=by
 unfold F_slices_isNaN_uint64
 funext d
 kernel_rfl
theorem zdV:F_audit_Check=fun (d:((Int×Int×Unit)×List Int×(List PgD)×Int×Int×Unit)×Unit)=>(F_page_Proper (((d.1.1.1,d.1.1.2.1,()),d.1.2.1,d.1.2.2.1,d.1.2.2.2.1,d.1.2.2.2.2.1,()),())).bind
 fun (r:(Bool×Unit)×Unit)=>
 bif !r.1.1 then some (((1,0,0,()),()),())
 else (rl ((Int×Unit)×Unit×(Int×Int×Int×Unit)×Unit) (Unit×Unit×(Int×Int×Int×Unit)×Unit⊕Unit×Unit×(Int×Int×Int×Unit)×Unit) (fun (x:(Int×Unit)×Unit×(Int×Int×Int×Unit)×Unit)=>
 bif decide (x.1.1<(d.1.2.2.1.length:Int)) then (F_audit_checkPage (((d.1.1.1,d.1.1.2.1,()),d.1.2.1,d.1.2.2.1,d.1.2.2.2.1,d.1.2.2.2.2.1,()),x.1.1,())).bind
 fun (r:((Int×Int×Int×Unit)×Unit)×Unit)=>
 bif !((r.1.1.1,r.1.1.2.1,r.1.1.2.2.1,()).1 == (0,0,0,()).1&&((r.1.1.1,r.1.1.2.1,r.1.1.2.2.1,()).2.1 == (0,0,0,()).2.1&&((r.1.1.1,r.1.1.2.1,r.1.1.2.2.1,()).2.2.1 == (0,0,0,()).2.2.1&&true))) then some (Sum.inr (Sum.inl ((),(),(r.1.1.1,r.1.1.2.1,r.1.1.2.2.1,()),())))
 else some (Sum.inl ((W (x.1.1+1),()),(),(x.2.2.1.1,x.2.2.1.2.1,x.2.2.1.2.2.1,()),()))
 else some (Sum.inr (Sum.inr ((),(),(x.2.2.1.1,x.2.2.1.2.1,x.2.2.1.2.2.1,()),())))) ((0,()),(),(0,0,0,()),())).bind
 fun (r:Unit×Unit×(Int×Int×Int×Unit)×Unit⊕Unit×Unit×(Int×Int×Int×Unit)×Unit)=>Sum.elim (fun (x:Unit×Unit×(Int×Int×Int×Unit)×Unit)=>some (((x.2.2.1.1,x.2.2.1.2.1,x.2.2.1.2.2.1,()),()),())) (fun (y:Unit×Unit×(Int×Int×Int×Unit)×Unit)=>(F_audit_checkPointers (((d.1.1.1,d.1.1.2.1,()),d.1.2.1,d.1.2.2.1,d.1.2.2.2.1,d.1.2.2.2.2.1,()),())).bind
 fun (r:((Int×Int×Int×Unit)×Unit)×Unit)=>(F_audit_checkCrowd (((d.1.1.1,d.1.1.2.1,()),d.1.2.1,d.1.2.2.1,d.1.2.2.2.1,d.1.2.2.2.2.1,()),())).bind
 fun (r_1:((Int×Int×Int×Unit)×Unit)×Unit)=>(F_cmp_Or_audit_Finding ([(r.1.1.1,r.1.1.2.1,r.1.1.2.2.1,()),(r_1.1.1.1,r_1.1.1.2.1,r_1.1.1.2.2.1,())],())).bind
 fun (r:((Int×Int×Int×Unit)×Unit)×Unit)=>some (((r.1.1.1,r.1.1.2.1,r.1.1.2.2.1,()),()),())) r:=by
  unfold F_audit_Check
  funext d
  kernel_rfl
theorem zg2:F_audit_Good=fun (d:((Int×Int×Unit)×List Int×(List PgD)×Int×Int×Unit)×Unit)=>(F_audit_Check (((d.1.1.1,d.1.1.2.1,()),d.1.2.1,d.1.2.2.1,d.1.2.2.2.1,d.1.2.2.2.2.1,()),())).bind
 fun (r:((Int×Int×Int×Unit)×Unit)×Unit)=>some (((r.1.1.1,r.1.1.2.1,r.1.1.2.2.1,()).1 == (0,0,0,()).1&&((r.1.1.1,r.1.1.2.1,r.1.1.2.2.1,()).2.1 == (0,0,0,()).2.1&&((r.1.1.1,r.1.1.2.1,r.1.1.2.2.1,()).2.2.1 == (0,0,0,()).2.2.1&&true)),()),()):=by
  unfold F_audit_Good
  funext d
  kernel_rfl
end Go.VI
