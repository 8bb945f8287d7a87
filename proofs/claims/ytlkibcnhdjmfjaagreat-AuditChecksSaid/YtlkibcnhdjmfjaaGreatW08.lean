import Derived.Test.YtlkibcnhdjmfjaaGreatW01
import Derived.Test.YtlkibcnhdjmfjaaGreatW03
import Derived.Test.YtlkibcnhdjmfjaaGreatW07
import Derived.Laws.Bits64
set_option linter.unusedSimpArgs false
set_option linter.unusedVariables false
set_option maxRecDepth 100000
set_option maxHeartbeats 4000000
noncomputable section
namespace Go.VI
abbrev rl(X Y:Type)(f:X->Option (X⊕Y))(x:X):Option Y:=runLoop f x
abbrev fg(X Y V:Type)(f:V->X->Option (X⊕Y))(L:List V)(x:X):Option (X⊕Y):=zhf f L x
end Go.VI
namespace Go.VI
open Go
abbrev W(n:Int):Int:=IntKind.i64.wrap n
abbrev U(n:Int):Int:=IntKind.u64.wrap n
abbrev U32(n:Int):Int:=IntKind.u32.wrap n
abbrev CfD:=Int×Int×Unit
abbrev PgD:=Int×Int×Int×Int×Unit
abbrev HpD:=CfD×List Int×List PgD×Int×Int×Unit
abbrev PG0:PgD:=(0,0,0,0,())
abbrev H0:HpD:=((0,0,()),[],[],0,0,())
def Tot{α:Type}(Q:α->Prop)(o:Option α):Prop:=∃ r,o=some r/\Q r
theorem Tot.mono{α:Type}{P Q:α->Prop}{o:Option α}(h:Tot P o)(f:∀ r,P r->Q r):Tot Q o:=h.imp fun _ k=>⟨k.1,f _ k.2⟩
theorem zad{α β:Type}{P:α->Prop}{Q:β->Prop}{o:Option α}{f:α->Option β}(h:Tot P o)(k:∀ r,P r->Tot Q (f r)):Tot Q (o.bind f):=by
 obtain ⟨r,rfl,hr⟩:=h;exact k r hr
theorem zac{α:Type}{Q:α->Prop}{c:Bool}{a b:Option α}(h:c=true->Tot Q a)(k:c=false->Tot Q b):Tot Q (cond c a b):=by
 cases c
 · exact k rfl
 · exact h rfl
theorem zae{α:Type}{Q:α->Prop}{c:Bool}{a:Option α}(h:c=true)(k:Tot Q a):Tot Q (cond c a none):=by
 subst h;exact k
theorem zab{α:Type}{Q:α->Prop}{r:α}(h:Q r):Tot Q (some r):=⟨r,rfl,h⟩
theorem zbp{α β γ:Type}{Q:γ->Prop}{y:α⊕β}{l:α->Option γ}{r:β->Option γ}(h:∀ a,y = .inl a->Tot Q (l a))(k:∀ b,y = .inr b->Tot Q (r b)):Tot Q (Sum.elim l r y):=by
 cases y
 · exact h _ rfl
 · exact k _ rfl
theorem zao{X Y:Type}{f:X->Option (X⊕Y)}{x:X}(Inv:X->Prop)(μ:X->Nat){Q:Y->Prop}(h0:Inv x)(h:∀ x,Inv x->Tot (Sum.elim (fun x'=>Inv x'/\μ x'<μ x) Q) (f x)):Tot Q (runLoop f x):=by
 have key:∀ (n:Nat) (x:X),μ x<=n->Inv x->∃ k y,iter f k x=some y/\Q y:=by
  intro n;induction n with
  | zero=>
   intro x hx hi;obtain ⟨r,hr,hq⟩:=h x hi;cases r with
   | inl x'=>have:=hq.2;omega
   | inr y=>exact ⟨1,y,by simp [iter,hr],hq⟩
  | succ n ih=>
   intro x hx hi;obtain ⟨r,hr,hq⟩:=h x hi;cases r with
   | inl x'=>
    obtain ⟨k,y,h1,h2⟩:=ih x' (by have:=hq.2;omega) hq.1
    exact ⟨k+1,y,by simp [iter,hr,h1],h2⟩
   | inr y=>exact ⟨1,y,by simp [iter,hr],hq⟩
 obtain ⟨k,y,h1,h2⟩:=key (μ x) x (qam _) h0;exact ⟨y,zmo h1,h2⟩
theorem W_id{n:Int}(h : -9223372036854775808<=n/\n<9223372036854775808):W n=n:=by rw [W,IntKind.wrap_i64];omega
theorem zvG(n:Int):0<=U n/\U n<18446744073709551616:=by rw [U,IntKind.wrap_u64];omega
theorem U_id{n:Int}(h:0<=n/\n<18446744073709551616):U n=n:=by rw [U,IntKind.wrap_u64];omega
theorem zaj{i:Int}{n:Nat}:inB i n=true↔0<=i/\i<n:=by simp [inB]
theorem zan{n b:Nat}:zaJ n b=true↔n*b<=140737488355328:=by simp [zaJ]
end Go.VI
namespace Go.VI
open Go
theorem zig:F_made_Tape_Conf=fun (d:(List Int×Int×Unit)×Unit)=>(F_made_Tape_Next ((d.1.1,d.1.2.1,()),4,())).bind
 fun (r:(Int×Unit)×(List Int×Int×Unit)×Unit)=>
 bif inB r.1.1 [16,16,20,32].length then (F_made_Tape_Next ((r.2.1.1,r.2.1.2.1,()),5,())).bind
 fun (r_1:(Int×Unit)×(List Int×Int×Unit)×Unit)=>
 bif inB r_1.1.1 [8,12,16,20,24].length then some ((([16,16,20,32].getD r.1.1.toNat 0,[8,12,16,20,24].getD r_1.1.1.toNat 0,()),()),(r_1.2.1.1,r_1.2.1.2.1,()),())
 else none
 else none:=by
  unfold F_made_Tape_Conf
  funext d
  kernel_rfl
theorem zgY:F_made_Tape_Empty=fun (d:(List Int×Int×Unit)×Unit)=>(F_made_Tape_Conf ((d.1.1,d.1.2.1,()),())).bind
 fun (r:((Int×Int×Unit)×Unit)×(List Int×Int×Unit)×Unit)=>(F_r04_New ((r.1.1.1,r.1.1.2.1,()),())).bind
 fun (r_1:(HpD×Int×Unit)×Unit)=>some (((((r_1.1.1.1.1,r_1.1.1.1.2.1,()),r_1.1.1.2.1,r_1.1.1.2.2.1,r_1.1.1.2.2.2.1,r_1.1.1.2.2.2.2.1,()),[],[],()),()),(r.2.1.1,r.2.1.2.1,()),()):=by
  unfold F_made_Tape_Empty
  funext d
  kernel_rfl
theorem zia:F_r04_SmallWords=fun (d:(Int×Int×Unit)×Unit)=>(F_r04_ValidConf ((d.1.1,d.1.2.1,()),())).bind
 fun (r:(Bool×Unit)×Unit)=>
 bif !r.1.1 then some ((0,()),())
 else bif !4 == 0 then some ((W (d.1.1.tdiv 4),()),())
 else none:=by
  unfold F_r04_SmallWords
  funext d
  kernel_rfl
theorem zpd:F_r04_Large=fun (d:(Int×Int×Unit)×(List PgD)×Int×Int×Int×Unit)=>(F_r04_Need ((d.1.1,d.1.2.1,()),d.2.2.2.2.1,())).bind
 fun (r:(Int×Unit)×Unit)=>
 bif bif decide (r.1.1<1) then true
 else bif decide (d.2.2.2.1<0) then true
 else decide (d.2.2.2.1 > 1) then some (([],1,()),())
 else (F_r04_take (d.2.1,d.2.2.1,r.1.1,(2,d.2.2.2.1,d.2.2.2.2.1,0,()),(3,d.2.2.2.1,0,0,()),())).bind
 fun (r:(List PgD×Int×Unit)×Unit)=>some ((r.1.1,r.1.2.1,()),()):=by
  unfold F_r04_Large
  funext d
  kernel_rfl
theorem zqX:F_r05_Init=fun (d:((Int×Int×Unit)×List Int×(List PgD)×Int×Int×Unit)×Int×(Int×Int×Int×Unit)×Unit)=>(F_r03_Encode ((d.2.2.1.1,d.2.2.1.2.1,d.2.2.1.2.2.1,()),())).bind
 fun (r:(Int×Int×Unit)×Unit)=>(F_r04_Proper (((d.1.1.1,d.1.1.2.1,()),d.1.2.1,d.1.2.2.1,d.1.2.2.2.1,d.1.2.2.2.2.1,()),())).bind
 fun (r_1:(Bool×Unit)×Unit)=>
 bif bif !r_1.1.1 then true
 else r.1.2.1 != 0 then some ((H0,1,()),())
 else bif decide (0<=d.2.2.1.2.1) then
 bif zaJ ([r.1.1].length+d.2.2.1.2.1.toNat) 8 then (F_r02_Write (d.1.2.1,d.2.1,[r.1.1]++List.replicate d.2.2.1.2.1.toNat (0:Int),())).bind
 fun (r:(List Int×Int×Unit)×Unit)=>
 bif r.1.2.1 != 0 then some ((H0,r.1.2.1,()),())
 else some ((((d.1.1.1,d.1.1.2.1,()),r.1.1,d.1.2.2.1,d.1.2.2.2.1,d.1.2.2.2.2.1,()),0,()),())
 else none
 else none:=by
  unfold F_r05_Init
  funext d
  kernel_rfl
theorem zth:F_r07_New=fun (d:((Int×Int×Unit)×List Int×(List PgD)×Int×Int×Unit)×(Int×Int×Int×Unit)×Unit)=>(F_r04_Proper (((d.1.1.1,d.1.1.2.1,()),d.1.2.1,d.1.2.2.1,d.1.2.2.2.1,d.1.2.2.2.2.1,()),())).bind
 fun (r:(Bool×Unit)×Unit)=>
 bif !r.1.1 then some ((H0,0,1,()),())
 else (F_r07_Asks ((d.1.1.1,d.1.1.2.1,()),(d.2.1.1,d.2.1.2.1,d.2.1.2.2.1,()),())).bind
 fun (r:(Bool×Unit)×Unit)=>
 bif !r.1.1 then some ((H0,0,1,()),())
 else (F_r03_Size ((d.2.1.1,d.2.1.2.1,d.2.1.2.2.1,()),())).bind
 fun (r:(Int×Unit)×Unit)=>(F_r04_Need ((d.1.1.1,d.1.1.2.1,()),r.1.1,())).bind
 fun (r_1:(Int×Unit)×Unit)=>(F_r07_small (((d.1.1.1,d.1.1.2.1,()),d.1.2.1,d.1.2.2.1,d.1.2.2.2.1,d.1.2.2.2.2.1,()),r.1.1,())).bind
 fun (r_2:(HpD×Int×Bool×Unit)×Unit)=>
 bif decide (r_1.1.1 > 0) then (F_r07_large (((d.1.1.1,d.1.1.2.1,()),d.1.2.1,d.1.2.2.1,d.1.2.2.2.1,d.1.2.2.2.2.1,()),r.1.1,r_1.1.1,())).bind
 fun (r:(HpD×Int×Bool×Unit)×Unit)=>
 bif !r.1.2.2.1 then some ((H0,0,3,()),())
 else (F_r05_Init (((r.1.1.1.1,r.1.1.1.2.1,()),r.1.1.2.1,r.1.1.2.2.1,r.1.1.2.2.2.1,r.1.1.2.2.2.2.1,()),r.1.2.1,(d.2.1.1,d.2.1.2.1,d.2.1.2.2.1,()),())).bind
 fun (r_3:(HpD×Int×Unit)×Unit)=>some ((((r_3.1.1.1.1,r_3.1.1.1.2.1,()),r_3.1.1.2.1,r_3.1.1.2.2.1,r_3.1.1.2.2.2.1,r_3.1.1.2.2.2.2.1,()),r.1.2.1,0,()),())
 else bif !r_2.1.2.2.1 then some ((H0,0,3,()),())
 else (F_r05_Init (((r_2.1.1.1.1,r_2.1.1.1.2.1,()),r_2.1.1.2.1,r_2.1.1.2.2.1,r_2.1.1.2.2.2.1,r_2.1.1.2.2.2.2.1,()),r_2.1.2.1,(d.2.1.1,d.2.1.2.1,d.2.1.2.2.1,()),())).bind
 fun (r:(HpD×Int×Unit)×Unit)=>some ((((r.1.1.1.1,r.1.1.1.2.1,()),r.1.1.2.1,r.1.1.2.2.1,r.1.1.2.2.2.1,r.1.1.2.2.2.2.1,()),r_2.1.2.1,0,()),()):=by
  unfold F_r07_New
  funext d
  kernel_rfl
theorem zgU:F_made_World_pick=fun (d:(((Int×Int×Unit)×List Int×(List PgD)×Int×Int×Unit)×List Int×List Int×Unit)×(List Int×Int×Unit)×Unit)=>
 bif zaJ ([0].length+d.1.2.1.length) 8 then
 bif zaJ (([0]++d.1.2.1).length+d.1.2.2.1.length) 8 then (F_made_Tape_Next ((d.2.1.1,d.2.1.2.1,()),↑([0]++d.1.2.1++d.1.2.2.1).length,())).bind
 fun (r:(Int×Unit)×(List Int×Int×Unit)×Unit)=>
 bif inB r.1.1 ([0]++d.1.2.1++d.1.2.2.1).length then some ((([0]++d.1.2.1++d.1.2.2.1).getD r.1.1.toNat 0,()),(r.2.1.1,r.2.1.2.1,()),())
 else none
 else none
 else none:=by
  unfold F_made_World_pick
  funext d
  kernel_rfl
theorem ztj:F_r05_Get=fun (d:((Int×Int×Unit)×List Int×(List PgD)×Int×Int×Unit)×Int×Unit)=>(F_r04_Proper (((d.1.1.1,d.1.1.2.1,()),d.1.2.1,d.1.2.2.1,d.1.2.2.2.1,d.1.2.2.2.2.1,()),())).bind
 fun (r:(Bool×Unit)×Unit)=>
 bif !r.1.1 then some (((0,0,0,()),1,()),())
 else bif d.2.1 == 0 then some (((0,0,0,()),5,()),())
 else (F_r05_At (((d.1.1.1,d.1.1.2.1,()),d.1.2.1,d.1.2.2.1,d.1.2.2.2.1,d.1.2.2.2.2.1,()),d.2.1,())).bind
 fun (r:((Int×Int×Int×Unit)×Int×Unit)×Unit)=>
 bif bif r.1.2.1 == 0 then r.1.1.1 == 0
 else false then some (((0,0,0,()),4,()),())
 else some (((r.1.1.1,r.1.1.2.1,r.1.1.2.2.1,()),r.1.2.1,()),()):=by
  unfold F_r05_Get
  funext d
  kernel_rfl
theorem zpa:F_r05_Field=fun (d:((Int×Int×Unit)×List Int×(List PgD)×Int×Int×Unit)×Int×Int×Unit)=>(F_r05_Get (((d.1.1.1,d.1.1.2.1,()),d.1.2.1,d.1.2.2.1,d.1.2.2.2.1,d.1.2.2.2.2.1,()),d.2.1,())).bind
 fun (r:((Int×Int×Int×Unit)×Int×Unit)×Unit)=>
 bif r.1.2.1 != 0 then some ((0,r.1.2.1,()),())
 else bif
 bif decide (d.2.2.1<0) then true
 else decide (d.2.2.1 >= r.1.1.2.1) then some ((0,2,()),())
 else (F_r02_Load (d.1.2.1,U (U (d.2.1+1)+U d.2.2.1),())).bind
 fun (r:(Int×Int×Unit)×Unit)=>some ((r.1.1,r.1.2.1,()),()):=by
  unfold F_r05_Field
  funext d
  kernel_rfl
theorem zpi:F_r02_Store=fun (d:List Int×Int×Int×Unit)=>(F_r02_Write (d.1,d.2.1,[d.2.2.1],())).bind
 fun (r:(List Int×Int×Unit)×Unit)=>some ((r.1.1,r.1.2.1,()),()):=by
  unfold F_r02_Store
  funext d
  kernel_rfl
theorem zgW:F_made_World_Link=fun (d:(((Int×Int×Unit)×List Int×(List PgD)×Int×Int×Unit)×List Int×List Int×Unit)×(List Int×Int×Unit)×Unit)=>(F_made_World_pick ((((d.1.1.1.1,d.1.1.1.2.1,()),d.1.1.2.1,d.1.1.2.2.1,d.1.1.2.2.2.1,d.1.1.2.2.2.2.1,()),d.1.2.1,d.1.2.2.1,()),(d.2.1.1,d.2.1.2.1,()),())).bind
 fun (r:(Int×Unit)×(List Int×Int×Unit)×Unit)=>(F_made_World_pick ((((d.1.1.1.1,d.1.1.1.2.1,()),d.1.1.2.1,d.1.1.2.2.1,d.1.1.2.2.2.1,d.1.1.2.2.2.2.1,()),d.1.2.1,d.1.2.2.1,()),(r.2.1.1,r.2.1.2.1,()),())).bind
 fun (r_1:(Int×Unit)×(List Int×Int×Unit)×Unit)=>(F_made_Tape_Next ((r_1.2.1.1,r_1.2.1.2.1,()),8,())).bind
 fun (r_2:(Int×Unit)×(List Int×Int×Unit)×Unit)=>(F_r05_Get (((d.1.1.1.1,d.1.1.1.2.1,()),d.1.1.2.1,d.1.1.2.2.1,d.1.1.2.2.2.1,d.1.1.2.2.2.2.1,()),r.1.1,())).bind
 fun (r_3:((Int×Int×Int×Unit)×Int×Unit)×Unit)=>
 bif bif r_3.1.2.1 != 0 then true
 else r_3.1.1.2.1 == 0 then some (((((d.1.1.1.1,d.1.1.1.2.1,()),d.1.1.2.1,d.1.1.2.2.1,d.1.1.2.2.2.1,d.1.1.2.2.2.2.1,()),d.1.2.1,d.1.2.2.1,()),()),(r_2.2.1.1,r_2.2.1.2.1,()),())
 else bif !r_3.1.1.2.1 == 0 then (F_r03_Pointer ((r_3.1.1.1,r_3.1.1.2.1,r_3.1.1.2.2.1,()),r_2.1.1.tmod r_3.1.1.2.1,())).bind
 fun (r_4:(Bool×Unit)×Unit)=>
 bif !r_4.1.1 then (F_made_Tape_Next ((r_2.2.1.1,r_2.2.1.2.1,()),1048576,())).bind
 fun (r_5:(Int×Unit)×(List Int×Int×Unit)×Unit)=>(F_r05_SetField (((d.1.1.1.1,d.1.1.1.2.1,()),d.1.1.2.1,d.1.1.2.2.1,d.1.1.2.2.2.1,d.1.1.2.2.2.2.1,()),r.1.1,r_2.1.1.tmod r_3.1.1.2.1,U r_5.1.1,())).bind
 fun (r:(HpD×Int×Unit)×Unit)=>some (((((r.1.1.1.1,r.1.1.1.2.1,()),r.1.1.2.1,r.1.1.2.2.1,r.1.1.2.2.2.1,r.1.1.2.2.2.2.1,()),d.1.2.1,d.1.2.2.1,()),()),(r_5.2.1.1,r_5.2.1.2.1,()),())
 else (F_r05_SetField (((d.1.1.1.1,d.1.1.1.2.1,()),d.1.1.2.1,d.1.1.2.2.1,d.1.1.2.2.2.1,d.1.1.2.2.2.2.1,()),r.1.1,r_2.1.1.tmod r_3.1.1.2.1,r_1.1.1,())).bind
 fun (r:(HpD×Int×Unit)×Unit)=>some (((((r.1.1.1.1,r.1.1.1.2.1,()),r.1.1.2.1,r.1.1.2.2.1,r.1.1.2.2.2.1,r.1.1.2.2.2.2.1,()),d.1.2.1,d.1.2.2.1,()),()),(r_2.2.1.1,r_2.2.1.2.1,()),())
 else none:=by
  unfold F_made_World_Link
  funext d
  kernel_rfl
theorem zgT:F_made_crowd=fun (d:((Int×Int×Unit)×List Int×(List PgD)×Int×Int×Unit)×Unit)=>(rl ((Int×Int×Unit)×Unit×Unit) ((Int×Unit)×Unit×Unit) (fun (x:(Int×Int×Unit)×Unit×Unit)=>
 bif decide (x.1.2.1<(d.1.2.2.1.length:Int)) then
 bif inB x.1.2.1 d.1.2.2.1.length then
 bif bif (d.1.2.2.1.getD x.1.2.1.toNat PG0).1 == 1 then inB x.1.2.1 d.1.2.2.1.length
 else true then some (Sum.inl ((bif
 bif (d.1.2.2.1.getD x.1.2.1.toNat PG0).1 == 1 then decide ((d.1.2.2.1.getD x.1.2.1.toNat PG0).2.2.2.1 > 0)
 else false then W (x.1.1+1)
 else x.1.1,W (x.1.2.1+1),()),(),()))
 else none
 else none
 else some (Sum.inr ((x.1.1,()),(),()))) ((0,0,()),(),())).bind
 fun (r:(Int×Unit)×Unit×Unit)=>some ((r.1.1,()),()):=by
  unfold F_made_crowd
  funext d
  kernel_rfl
theorem zlR:F_r04_Address=fun (d:(Int×Int×Unit)×Int×Int×Unit)=>(F_r04_ValidConf ((d.1.1,d.1.2.1,()),())).bind
 fun (r:(Bool×Unit)×Unit)=>
 bif !r.1.1 then some ((0,1,()),())
 else bif
 bif decide (d.2.1<0) then true
 else bif decide (d.2.1 >= d.1.2.1) then true
 else bif decide (d.2.2.1<0) then true
 else decide (d.2.2.1 >= d.1.1) then some ((0,2,()),())
 else some ((U (W (W (4096+W (d.2.1*d.1.1))+d.2.2.1)),0,()),()):=by
  unfold F_r04_Address
  funext d
  kernel_rfl
theorem zqV:F_r06_Word=fun (d:((Int×Int×Unit)×List Int×(List PgD)×Int×Int×Unit)×Int×Int×Unit)=>(F_r06_word (((d.1.1.1,d.1.1.2.1,()),d.1.2.1,d.1.2.2.1,d.1.2.2.2.1,d.1.2.2.2.2.1,()),d.2.1,d.2.2.1,())).bind
 fun (r:(Int×Unit)×Unit)=>some ((r.1.1,()),()):=by
  unfold F_r06_Word
  funext d
  kernel_rfl
theorem zkw:F_r09_pointers=fun (d:((Int×Int×Unit)×List Int×(List PgD)×Int×Int×Unit)×Unit)=>(F_r06_Objects (((d.1.1.1,d.1.1.2.1,()),d.1.2.1,d.1.2.2.1,d.1.2.2.2.1,d.1.2.2.2.2.1,()),())).bind
 fun (r:(List Int×Int×Unit)×Unit)=>(rl ((Int×Unit)×Unit×(Int×Int×Int×Unit)×Unit) (Unit×Unit×(Int×Int×Int×Unit)×Unit⊕Unit×Unit×(Int×Int×Int×Unit)×Unit) (fun (x:(Int×Unit)×Unit×(Int×Int×Int×Unit)×Unit)=>
 bif decide (x.1.1<(r.1.1.length:Int)) then
 bif inB x.1.1 r.1.1.length then (F_r05_Get (((d.1.1.1,d.1.1.2.1,()),d.1.2.1,d.1.2.2.1,d.1.2.2.2.1,d.1.2.2.2.2.1,()),r.1.1.getD x.1.1.toNat 0,())).bind
 fun (r_1:((Int×Int×Int×Unit)×Int×Unit)×Unit)=>
 bif inB x.1.1 r.1.1.length then (F_r05_Fields (((d.1.1.1,d.1.1.2.1,()),d.1.2.1,d.1.2.2.1,d.1.2.2.2.1,d.1.2.2.2.2.1,()),r.1.1.getD x.1.1.toNat 0,())).bind
 fun (r_2:(List Int×Int×Unit)×Unit)=>(rl ((Int×Unit)×Unit×(Int×Int×Int×Unit)×Unit) (Unit×Unit×(Int×Int×Int×Unit)×Unit⊕Unit×Unit×(Int×Int×Int×Unit)×Unit) (fun (x_1:(Int×Unit)×Unit×(Int×Int×Int×Unit)×Unit)=>
 bif decide (x_1.1.1<(r_2.1.1.length:Int)) then (F_r03_Pointer ((r_1.1.1.1,r_1.1.1.2.1,r_1.1.1.2.2.1,()),x_1.1.1,())).bind
 fun (r_3:(Bool×Unit)×Unit)=>
 bif bif r_3.1.1 then inB x_1.1.1 r_2.1.1.length
 else true then
 bif bif r_3.1.1 then
 bif r_2.1.1.getD x_1.1.1.toNat 0 != 0 then inB x_1.1.1 r_2.1.1.length
 else true
 else true then
 bif r_3.1.1 then
 bif r_2.1.1.getD x_1.1.1.toNat 0 != 0 then (F_r06_Has (r.1.1,r_2.1.1.getD x_1.1.1.toNat 0,())).bind
 fun (r_4:(Bool×Unit)×Unit)=>
 bif bif !r_4.1.1 then inB x.1.1 r.1.1.length
 else true then
 bif !r_4.1.1 then (F_r04_Of ((d.1.1.1,d.1.1.2.1,()),U (U (r.1.1.getD x.1.1.toNat 0+1)+U x_1.1.1),())).bind
 fun (r_5:(Int×Int×Int×Unit)×Unit)=>some (Sum.inr (Sum.inl ((),(),(6,r_5.1.1,U (U (r.1.1.getD x.1.1.toNat 0+1)+U x_1.1.1),()),())))
 else some (Sum.inl ((W (x_1.1.1+1),()),(),(x_1.2.2.1.1,x_1.2.2.1.2.1,x_1.2.2.1.2.2.1,()),()))
 else none
 else some (Sum.inl ((W (x_1.1.1+1),()),(),(x_1.2.2.1.1,x_1.2.2.1.2.1,x_1.2.2.1.2.2.1,()),()))
 else some (Sum.inl ((W (x_1.1.1+1),()),(),(x_1.2.2.1.1,x_1.2.2.1.2.1,x_1.2.2.1.2.2.1,()),()))
 else none
 else none
 else some (Sum.inr (Sum.inr ((),(),(x_1.2.2.1.1,x_1.2.2.1.2.1,x_1.2.2.1.2.2.1,()),())))) ((0,()),(),(x.2.2.1.1,x.2.2.1.2.1,x.2.2.1.2.2.1,()),())).bind
 fun (r:Unit×Unit×(Int×Int×Int×Unit)×Unit⊕Unit×Unit×(Int×Int×Int×Unit)×Unit)=>Sum.elim (fun (x:Unit×Unit×(Int×Int×Int×Unit)×Unit)=>some (Sum.inr (Sum.inl ((),(),(x.2.2.1.1,x.2.2.1.2.1,x.2.2.1.2.2.1,()),())))) (fun (y:Unit×Unit×(Int×Int×Int×Unit)×Unit)=>some (Sum.inl ((W (x.1.1+1),()),(),(y.2.2.1.1,y.2.2.1.2.1,y.2.2.1.2.2.1,()),()))) r
 else none
 else none
 else some (Sum.inr (Sum.inr ((),(),(x.2.2.1.1,x.2.2.1.2.1,x.2.2.1.2.2.1,()),())))) ((0,()),(),(0,0,0,()),())).bind
 fun (r:Unit×Unit×(Int×Int×Int×Unit)×Unit⊕Unit×Unit×(Int×Int×Int×Unit)×Unit)=>Sum.elim (fun (x:Unit×Unit×(Int×Int×Int×Unit)×Unit)=>some (((x.2.2.1.1,x.2.2.1.2.1,x.2.2.1.2.2.1,()),()),())) (fun (y:Unit×Unit×(Int×Int×Int×Unit)×Unit)=>some (((0,0,0,()),()),())) r:=by
  unfold F_r09_pointers
  funext d
  kernel_rfl
theorem zo7:F_r09_Check=fun (d:((Int×Int×Unit)×List Int×(List PgD)×Int×Int×Unit)×Unit)=>(F_r04_Proper (((d.1.1.1,d.1.1.2.1,()),d.1.2.1,d.1.2.2.1,d.1.2.2.2.1,d.1.2.2.2.2.1,()),())).bind
 fun (r:(Bool×Unit)×Unit)=>
 bif !r.1.1 then some (((1,0,0,()),()),())
 else (rl ((Int×Unit)×Unit×(Int×Int×Int×Unit)×Unit) (Unit×Unit×(Int×Int×Int×Unit)×Unit⊕Unit×Unit×(Int×Int×Int×Unit)×Unit) (fun (x:(Int×Unit)×Unit×(Int×Int×Int×Unit)×Unit)=>
 bif decide (x.1.1<(d.1.2.2.1.length:Int)) then (F_r09_page (((d.1.1.1,d.1.1.2.1,()),d.1.2.1,d.1.2.2.1,d.1.2.2.2.1,d.1.2.2.2.2.1,()),x.1.1,())).bind
 fun (r:((Int×Int×Int×Unit)×Unit)×Unit)=>
 bif r.1.1.1 != 0 then some (Sum.inr (Sum.inl ((),(),(r.1.1.1,r.1.1.2.1,r.1.1.2.2.1,()),())))
 else some (Sum.inl ((W (x.1.1+1),()),(),(x.2.2.1.1,x.2.2.1.2.1,x.2.2.1.2.2.1,()),()))
 else some (Sum.inr (Sum.inr ((),(),(x.2.2.1.1,x.2.2.1.2.1,x.2.2.1.2.2.1,()),())))) ((0,()),(),(0,0,0,()),())).bind
 fun (r:Unit×Unit×(Int×Int×Int×Unit)×Unit⊕Unit×Unit×(Int×Int×Int×Unit)×Unit)=>Sum.elim (fun (x:Unit×Unit×(Int×Int×Int×Unit)×Unit)=>some (((x.2.2.1.1,x.2.2.1.2.1,x.2.2.1.2.2.1,()),()),())) (fun (y:Unit×Unit×(Int×Int×Int×Unit)×Unit)=>(F_r09_pointers (((d.1.1.1,d.1.1.2.1,()),d.1.2.1,d.1.2.2.1,d.1.2.2.2.1,d.1.2.2.2.2.1,()),())).bind
 fun (r:((Int×Int×Int×Unit)×Unit)×Unit)=>
 bif r.1.1.1 != 0 then some (((r.1.1.1,r.1.1.2.1,r.1.1.2.2.1,()),()),())
 else (rl ((Int×Int×Unit)×Unit×Unit) ((Int×Unit)×Unit×Unit) (fun (x:(Int×Int×Unit)×Unit×Unit)=>
 bif decide (x.1.2.1<(d.1.2.2.1.length:Int)) then
 bif inB x.1.2.1 d.1.2.2.1.length then
 bif bif (d.1.2.2.1.getD x.1.2.1.toNat PG0).1 == 1 then inB x.1.2.1 d.1.2.2.1.length
 else true then some (Sum.inl ((bif
 bif (d.1.2.2.1.getD x.1.2.1.toNat PG0).1 == 1 then decide ((d.1.2.2.1.getD x.1.2.1.toNat PG0).2.2.2.1 > 0)
 else false then W (x.1.1+1)
 else x.1.1,W (x.1.2.1+1),()),(),()))
 else none
 else none
 else some (Sum.inr ((x.1.1,()),(),()))) ((0,0,()),(),())).bind
 fun (r:(Int×Unit)×Unit×Unit)=>
 bif !4 == 0 then
 bif decide (r.1.1 > W (d.1.1.2.1.tdiv 4)) then some (((7,0,0,()),()),())
 else some (((0,0,0,()),()),())
 else none) r:=by
  unfold F_r09_Check
  funext d
  kernel_rfl
theorem zqS:F_r09_Good=fun (d:((Int×Int×Unit)×List Int×(List PgD)×Int×Int×Unit)×Unit)=>(F_r09_Check (((d.1.1.1,d.1.1.2.1,()),d.1.2.1,d.1.2.2.1,d.1.2.2.2.1,d.1.2.2.2.2.1,()),())).bind
 fun (r:((Int×Int×Int×Unit)×Unit)×Unit)=>some (((r.1.1.1,r.1.1.2.1,r.1.1.2.2.1,()).1 == (0,0,0,()).1&&((r.1.1.1,r.1.1.2.1,r.1.1.2.2.1,()).2.1 == (0,0,0,()).2.1&&((r.1.1.1,r.1.1.2.1,r.1.1.2.2.1,()).2.2.1 == (0,0,0,()).2.2.1&&true)),()),()):=by
  unfold F_r09_Good
  funext d
  kernel_rfl
theorem zo3:F_r10_taken=fun (d:(((Int×Int×Unit)×List Int×(List PgD)×Int×Int×Unit)×List Int×List Int×List Int×Int×(Int×Int×Int×Int×Int×Int×Unit)×Unit)×Int×Unit)=>(rl ((Bool×Int×Unit)×Unit×Unit) ((Bool×Unit)×Unit×Unit⊕(Bool×Unit)×Unit×Unit) (fun (x:(Bool×Int×Unit)×Unit×Unit)=>
 bif decide (x.1.2.1<(d.1.2.2.1.length:Int)) then
 bif inB x.1.2.1 d.1.2.2.1.length then
 bif d.1.2.2.1.getD x.1.2.1.toNat 0 == d.2.1 then some (Sum.inr (Sum.inl ((true,()),(),())))
 else some (Sum.inl ((x.1.1,W (x.1.2.1+1),()),(),()))
 else none
 else some (Sum.inr (Sum.inr ((x.1.1,()),(),())))) ((false,0,()),(),())).bind
 fun (r:(Bool×Unit)×Unit×Unit⊕(Bool×Unit)×Unit×Unit)=>Sum.elim (fun (x:(Bool×Unit)×Unit×Unit)=>some ((x.1.1,()),())) (fun (y:(Bool×Unit)×Unit×Unit)=>some ((false,()),())) r:=by
  unfold F_r10_taken
  funext d
  kernel_rfl
theorem zlT:F_r03_Forward=fun (d:Int×Unit)=>
 bif decide (d.1 >= 4294967296) then some ((0,1,()),())
 else some ((U (U (4*d.1)+2),0,()),()):=by
  unfold F_r03_Forward
  funext d
  kernel_rfl
theorem zdL:F_made_Make=fun (d:List Int×Unit)=>
 bif bif decide ((d.1.length:Int) > 300) then decide ((0:Int)<=0/\(0:Int)<=300/\300<=(d.1.length:Int))
 else true then (F_made_Tape_Empty ((bif decide ((d.1.length:Int) > 300) then List.drop (Int.toNat 0) (List.take (Int.toNat 300) d.1)
 else d.1,0,()),())).bind
 fun (r:((HpD×List Int×List Int×Unit)×Unit)×(List Int×Int×Unit)×Unit)=>(rl (((HpD×List Int×List Int×Unit)×Unit)×Unit×(List Int×Int×Unit)×(Int×Int×List Int×List PgD×Int×Int×List Int×List Int×Unit)×Unit) (((HpD×List Int×List Int×Unit)×Unit)×Unit×(List Int×Int×Unit)×(Int×Int×List Int×List PgD×Int×Int×List Int×List Int×Unit)×Unit) (fun (x:((HpD×List Int×List Int×Unit)×Unit)×Unit×(List Int×Int×Unit)×(Int×Int×List Int×List PgD×Int×Int×List Int×List Int×Unit)×Unit)=>(F_made_Tape_Done ((x.2.2.1.1,x.2.2.1.2.1,()),())).bind
 fun (r:(Bool×Unit)×(List Int×Int×Unit)×Unit)=>
 bif !r.1.1 then (F_made_World_Step ((((x.2.2.2.1.1,x.2.2.2.1.2.1,()),x.2.2.2.1.2.2.1,x.2.2.2.1.2.2.2.1,x.2.2.2.1.2.2.2.2.1,x.2.2.2.1.2.2.2.2.2.1,()),x.2.2.2.1.2.2.2.2.2.2.1,x.2.2.2.1.2.2.2.2.2.2.2.1,()),(r.2.1.1,r.2.1.2.1,()),())).bind
 fun (r:((HpD×List Int×List Int×Unit)×Unit)×(List Int×Int×Unit)×Unit)=>some (Sum.inl (((((x.1.1.1.1.1,x.1.1.1.1.2.1,()),x.1.1.1.2.1,x.1.1.1.2.2.1,x.1.1.1.2.2.2.1,x.1.1.1.2.2.2.2.1,()),x.1.1.2.1,x.1.1.2.2.1,()),()),(),(r.2.1.1,r.2.1.2.1,()),(r.1.1.1.1.1,r.1.1.1.1.2.1,r.1.1.1.2.1,r.1.1.1.2.2.1,r.1.1.1.2.2.2.1,r.1.1.1.2.2.2.2.1,r.1.1.2.1,r.1.1.2.2.1,()),()))
 else some (Sum.inr (((((x.1.1.1.1.1,x.1.1.1.1.2.1,()),x.1.1.1.2.1,x.1.1.1.2.2.1,x.1.1.1.2.2.2.1,x.1.1.1.2.2.2.2.1,()),x.1.1.2.1,x.1.1.2.2.1,()),()),(),(r.2.1.1,r.2.1.2.1,()),(x.2.2.2.1.1,x.2.2.2.1.2.1,x.2.2.2.1.2.2.1,x.2.2.2.1.2.2.2.1,x.2.2.2.1.2.2.2.2.1,x.2.2.2.1.2.2.2.2.2.1,x.2.2.2.1.2.2.2.2.2.2.1,x.2.2.2.1.2.2.2.2.2.2.2.1,()),()))) (((((r.1.1.1.1.1,r.1.1.1.1.2.1,()),r.1.1.1.2.1,r.1.1.1.2.2.1,r.1.1.1.2.2.2.1,r.1.1.1.2.2.2.2.1,()),r.1.1.2.1,r.1.1.2.2.1,()),()),(),(r.2.1.1,r.2.1.2.1,()),(r.1.1.1.1.1,r.1.1.1.1.2.1,r.1.1.1.2.1,r.1.1.1.2.2.1,r.1.1.1.2.2.2.1,r.1.1.1.2.2.2.2.1,r.1.1.2.1,r.1.1.2.2.1,()),())).bind
 fun (r:((HpD×List Int×List Int×Unit)×Unit)×Unit×(List Int×Int×Unit)×(Int×Int×List Int×List PgD×Int×Int×List Int×List Int×Unit)×Unit)=>some (((((r.2.2.2.1.1,r.2.2.2.1.2.1,()),r.2.2.2.1.2.2.1,r.2.2.2.1.2.2.2.1,r.2.2.2.1.2.2.2.2.1,r.2.2.2.1.2.2.2.2.2.1,()),r.2.2.2.1.2.2.2.2.2.2.1,r.2.2.2.1.2.2.2.2.2.2.2.1,()),()),())
 else none:=by
  unfold F_made_Make
  funext d
  kernel_rfl
theorem zgS:F_page_SmallWords=fun (d:(Int×Int×Unit)×Unit)=>(F_page_ValidConf ((d.1.1,d.1.2.1,()),())).bind
 fun (r:(Bool×Unit)×Unit)=>
 bif !r.1.1 then some ((0,()),())
 else bif !4 == 0 then some ((W (d.1.1.tdiv 4),()),())
 else none:=by
  unfold F_page_SmallWords
  funext d
  kernel_rfl
theorem zga:F_page_table_owned=fun (d:((Int×Int×Unit)×(List PgD)×Unit)×Int×Unit)=>(rl ((Bool×Int×Unit)×Unit×Unit) ((Bool×Unit)×Unit×Unit⊕(Bool×Unit)×Unit×Unit) (fun (x:(Bool×Int×Unit)×Unit×Unit)=>
 bif decide (x.1.2.1<=d.2.1) then
 bif inB (W (d.2.1-x.1.2.1)) d.1.2.1.length then
 bif (d.1.2.1.getD (W (d.2.1-x.1.2.1)).toNat PG0).1 == 2 then (F_page_Need ((d.1.1.1,d.1.1.2.1,()),(d.1.2.1.getD (W (d.2.1-x.1.2.1)).toNat PG0).2.2.1,())).bind
 fun (r:(Int×Unit)×Unit)=>some (Sum.inr (Sum.inl ((decide (x.1.2.1<r.1.1),()),(),())))
 else some (Sum.inl ((x.1.1,W (x.1.2.1+1),()),(),()))
 else none
 else some (Sum.inr (Sum.inr ((x.1.1,()),(),())))) ((false,1,()),(),())).bind
 fun (r:(Bool×Unit)×Unit×Unit⊕(Bool×Unit)×Unit×Unit)=>Sum.elim (fun (x:(Bool×Unit)×Unit×Unit)=>some ((x.1.1,()),())) (fun (y:(Bool×Unit)×Unit×Unit)=>some ((false,()),())) r:=by
  unfold F_page_table_owned
  funext d
  kernel_rfl
theorem zlK:F_walk_inPage=fun (d:((Int×Int×Unit)×List Int×(List PgD)×Int×Int×Unit)×Int×Unit)=>some (((((d.1.1.1,d.1.1.2.1,()),d.1.2.1,d.1.2.2.1,d.1.2.2.2.1,d.1.2.2.2.2.1,()),d.2.1,()),()),()):=by
 unfold F_walk_inPage
 funext d
 kernel_rfl
theorem znw:F_walk_isAny=fun (d:(Int×Int×Int×Unit)×Unit)=>some ((true,()),()):=by
 unfold F_walk_isAny
 funext d
 kernel_rfl
theorem zjr:F_walk_isObject=fun (d:(Int×Int×Int×Unit)×Unit)=>some ((d.1.1 != 0,()),()):=by
 unfold F_walk_isObject
 funext d
 kernel_rfl
theorem zby:F_walk_list_c_walk_inHeap_S1_walk_isObject=fun (d:((Int×Int×Unit)×List Int×(List PgD)×Int×Int×Unit)×Unit)=>((listH (((d.1.1.1,d.1.1.2.1,()),d.1.2.1,d.1.2.2.1,d.1.2.2.2.1,d.1.2.2.2.2.1,()),())).bind
 fun (L:List (Int×((Int×Int×Int×Unit)×Int×Unit)×Unit))=>fg (Unit×(List Int×Unit)×(List Int×Unit)×(Int×Unit)×(Unit×Unit)×Unit) (Unit×(List Int×Unit)×(List Int×Unit)×(Int×Unit)×(Unit×Unit)×Unit) (Int×((Int×Int×Int×Unit)×Int×Unit)×Unit) (fun (y:Int×((Int×Int×Int×Unit)×Int×Unit)×Unit) (x:Unit×(List Int×Unit)×(List Int×Unit)×(Int×Unit)×(Unit×Unit)×Unit)=>
 bif y.2.1.2.1 != 0 then some (Sum.inr ((),(x.2.1.1,()),([],()),(y.2.1.2.1,()),((),()),()))
 else (F_walk_isObject ((y.2.1.1.1,y.2.1.1.2.1,y.2.1.1.2.2.1,()),())).bind
 fun (r:(Bool×Unit)×Unit)=>
 bif bif r.1.1 then zaJ (x.2.1.1.length + [y.1].length) 8
 else true then
 bif r.1.1 then some (Sum.inl ((),(x.2.1.1++[y.1],()),(x.2.2.1.1,()),(x.2.2.2.1.1,()),((),()),()))
 else some (Sum.inl ((),(x.2.1.1,()),(x.2.2.1.1,()),(x.2.2.2.1.1,()),((),()),()))
 else none) L ((),([],()),([],()),(0,()),((),()),())).bind
 fun (r:Unit×(List Int×Unit)×(List Int×Unit)×(Int×Unit)×(Unit×Unit)×Unit⊕Unit×(List Int×Unit)×(List Int×Unit)×(Int×Unit)×(Unit×Unit)×Unit)=>Sum.elim (fun (x:Unit×(List Int×Unit)×(List Int×Unit)×(Int×Unit)×(Unit×Unit)×Unit)=>some ((x.2.1.1,0,()),((d.1.1.1,d.1.1.2.1,()),d.1.2.1,d.1.2.2.1,d.1.2.2.2.1,d.1.2.2.2.2.1,()),())) (fun (y:Unit×(List Int×Unit)×(List Int×Unit)×(Int×Unit)×(Unit×Unit)×Unit)=>some ((y.2.2.1.1,y.2.2.2.1.1,()),((d.1.1.1,d.1.1.2.1,()),d.1.2.1,d.1.2.2.1,d.1.2.2.2.1,d.1.2.2.2.2.1,()),())) r:=by
  unfold F_walk_list_c_walk_inHeap_S1_walk_isObject
  funext d
  kernel_rfl
theorem zkD:F_arena_locate=fun (d:List Int×Int×Int×Unit)=>
 bif decide (d.2.2.1<0) then some ((0,1,()),())
 else bif decide (d.2.1<4096) then some ((0,2,()),())
 else bif
 bif decide (U (d.2.1-4096) > U (d.1.length:Int)) then true
 else decide (U d.2.2.1 > U (U (d.1.length:Int)-U (d.2.1-4096))) then some ((0,2,()),())
 else some ((W (U (d.2.1-4096)),0,()),()):=by
  unfold F_arena_locate
  funext d
  kernel_rfl
theorem ztl:F_page_Of=fun (d:(Int×Int×Unit)×Int×Unit)=>(F_page_ValidConf ((d.1.1,d.1.2.1,()),())).bind
 fun (r:(Bool×Unit)×Unit)=>
 bif !r.1.1 then some ((0,0,1,()),())
 else bif decide (d.2.1<4096) then some ((0,0,2,()),())
 else (F_page_size ((d.1.1,d.1.2.1,()),())).bind
 fun (r:(Int×Unit)×Unit)=>
 bif decide (U (d.2.1-4096) >= U r.1.1) then some ((0,0,2,()),())
 else bif !d.1.1 == 0 then
 bif !d.1.1 == 0 then some ((W ((W (U (d.2.1-4096))).tdiv d.1.1),(W (U (d.2.1-4096))).tmod d.1.1,0,()),())
 else none
 else none:=by
  unfold F_page_Of
  funext d
  kernel_rfl
theorem zdb:F_bits_fit_c_bits_Unpack_S1=fun (d:Int×List Int×Unit)=>(rl ((Bool×Int×Int×Unit)×Unit×(List Int×Unit)×Unit) ((Bool×Unit)×Unit×(List Int×Unit)×Unit⊕(Bool×Unit)×Unit×(List Int×Unit)×Unit) (fun (x:(Bool×Int×Int×Unit)×Unit×(List Int×Unit)×Unit)=>
 bif decide (x.1.2.2.1<d.1) then (F_bits_Unpack_S1_c (x.1.2.2.1,x.2.2.1.1,())).bind
 fun (r:(Int×Unit)×List Int×Unit)=>
 bif decide (r.1.1<1) then some (Sum.inr (Sum.inl ((false,()),(),(r.2.1,()),())))
 else (F_bits_Unpack_S1_c (x.1.2.2.1,r.2.1,())).bind
 fun (r:(Int×Unit)×List Int×Unit)=>
 bif decide (r.1.1 > x.1.2.1) then some (Sum.inr (Sum.inl ((false,()),(),(r.2.1,()),())))
 else (F_bits_Unpack_S1_c (x.1.2.2.1,r.2.1,())).bind
 fun (r:(Int×Unit)×List Int×Unit)=>some (Sum.inl ((x.1.1,W (x.1.2.1-r.1.1),W (x.1.2.2.1+1),()),(),(r.2.1,()),()))
 else some (Sum.inr (Sum.inr ((x.1.1,()),(),(x.2.2.1.1,()),())))) ((false,64,0,()),(),(d.2.1,()),())).bind
 fun (r:(Bool×Unit)×Unit×(List Int×Unit)×Unit⊕(Bool×Unit)×Unit×(List Int×Unit)×Unit)=>Sum.elim (fun (x:(Bool×Unit)×Unit×(List Int×Unit)×Unit)=>some ((x.1.1,()),x.2.2.1.1,())) (fun (y:(Bool×Unit)×Unit×(List Int×Unit)×Unit)=>some ((true,()),y.2.2.1.1,())) r:=by
  unfold F_bits_fit_c_bits_Unpack_S1
  funext d
  kernel_rfl
theorem zju:F_header_Decode=fun (d:Int×Unit)=>(F_bits_Unpack (d.1,[2,2,12,32],())).bind
 fun (r:(List Int×Int×Unit)×Unit)=>
 bif bif r.1.2.1 != 0 then true
 else inB 0 r.1.1.length then
 bif bif r.1.2.1 != 0 then true
 else r.1.1.getD (Int.toNat 0) 0 != 1 then some (((0,0,0,()),false,()),())
 else bif inB 1 r.1.1.length then
 bif inB 2 r.1.1.length then
 bif inB 3 r.1.1.length then (F_header_Valid ((W (r.1.1.getD (Int.toNat 1) 0),W (r.1.1.getD (Int.toNat 2) 0),U32 (r.1.1.getD (Int.toNat 3) 0),()),())).bind
 fun (r_1:(Bool×Unit)×Unit)=>
 bif !r_1.1.1 then some (((0,0,0,()),false,()),())
 else some (((W (r.1.1.getD (Int.toNat 1) 0),W (r.1.1.getD (Int.toNat 2) 0),U32 (r.1.1.getD (Int.toNat 3) 0),()),true,()),())
 else none
 else none
 else none
 else none:=by
  unfold F_header_Decode
  funext d
  kernel_rfl
theorem zc0:F_audit_checkClasses=fun (d:((Int×Int×Unit)×List Int×(List PgD)×Int×Int×Unit)×Int×(List (Int×(Int×Int×Int×Unit)×Unit))×Unit)=>(rl ((Int×Unit)×Unit×(Int×Int×Int×Unit)×Unit) (Unit×Unit×(Int×Int×Int×Unit)×Unit⊕Unit×Unit×(Int×Int×Int×Unit)×Unit) (fun (x:(Int×Unit)×Unit×(Int×Int×Int×Unit)×Unit)=>
 bif decide (x.1.1<(d.2.2.1.length:Int)) then
 bif inB x.1.1 d.2.2.1.length then
 bif inB d.2.1 d.1.2.2.1.length then (F_audit_belongs ((d.1.1.1,d.1.1.2.1,()),(d.1.2.2.1.getD d.2.1.toNat PG0).1,((d.2.2.1.getD x.1.1.toNat (0,(0,0,0,()),())).2.1.1,(d.2.2.1.getD x.1.1.toNat (0,(0,0,0,()),())).2.1.2.1,(d.2.2.1.getD x.1.1.toNat (0,(0,0,0,()),())).2.1.2.2.1,()),())).bind
 fun (r:(Bool×Unit)×Unit)=>
 bif !r.1.1 then some (Sum.inr (Sum.inl ((),(),(5,d.2.1,(d.2.2.1.getD x.1.1.toNat (0,(0,0,0,()),())).1,()),())))
 else some (Sum.inl ((W (x.1.1+1),()),(),(x.2.2.1.1,x.2.2.1.2.1,x.2.2.1.2.2.1,()),()))
 else none
 else none
 else some (Sum.inr (Sum.inr ((),(),(x.2.2.1.1,x.2.2.1.2.1,x.2.2.1.2.2.1,()),())))) ((0,()),(),(0,0,0,()),())).bind
 fun (r:Unit×Unit×(Int×Int×Int×Unit)×Unit⊕Unit×Unit×(Int×Int×Int×Unit)×Unit)=>Sum.elim (fun (x:Unit×Unit×(Int×Int×Int×Unit)×Unit)=>some (((x.2.2.1.1,x.2.2.1.2.1,x.2.2.1.2.2.1,()),()),())) (fun (y:Unit×Unit×(Int×Int×Int×Unit)×Unit)=>some (((0,0,0,()),()),())) r:=by
  unfold F_audit_checkClasses
  funext d
  kernel_rfl
theorem znI:F_audit_span=fun (d:((Int×Int×Unit)×List Int×(List PgD)×Int×Int×Unit)×Int×Unit)=>
 bif inB d.2.1 d.1.2.2.1.length then
 bif (d.1.2.2.1.getD d.2.1.toNat PG0).1 == 2 then (F_page_Need ((d.1.1.1,d.1.1.2.1,()),(d.1.2.2.1.getD d.2.1.toNat PG0).2.2.1,())).bind
 fun (r:(Int×Unit)×Unit)=>(F_page_Address ((d.1.1.1,d.1.1.2.1,()),d.2.1,0,())).bind
 fun (r_1:(Int×Int×Unit)×Unit)=>some ((r_1.1.1,U (r_1.1.1+U (W (r.1.1*d.1.1.1))),()),())
 else (F_page_Address ((d.1.1.1,d.1.1.2.1,()),d.2.1,0,())).bind
 fun (r:(Int×Int×Unit)×Unit)=>some ((r.1.1,U (r.1.1+U (W ((bif (d.1.2.2.1.getD d.2.1.toNat PG0).1 == 3 then 0
 else 1)*d.1.1.1))),()),())
 else none:=by
  unfold F_audit_span
  funext d
  kernel_rfl
theorem zgZ:F_l09_AuditChecks=fun (d:((Int×Int×Unit)×List Int×(List PgD)×Int×Int×Unit)×List Int×List Int×Unit)=>(F_made_Make (d.2.1,())).bind
 fun (r:((HpD×List Int×List Int×Unit)×Unit)×Unit)=>(F_made_World_Spoil ((((r.1.1.1.1.1,r.1.1.1.1.2.1,()),r.1.1.1.2.1,r.1.1.1.2.2.1,r.1.1.1.2.2.2.1,r.1.1.1.2.2.2.2.1,()),r.1.1.2.1,r.1.1.2.2.1,()),(d.2.2.1,0,()),())).bind
 fun (r_1:((HpD×List Int×List Int×Unit)×Unit)×(List Int×Int×Unit)×Unit)=>(F_made_World_Spoil ((((r.1.1.1.1.1,r.1.1.1.1.2.1,()),r.1.1.1.2.1,r.1.1.1.2.2.1,r.1.1.1.2.2.2.1,r.1.1.1.2.2.2.2.1,()),r.1.1.2.1,r.1.1.2.2.1,()),(r_1.2.1.1,r_1.2.1.2.1,()),())).bind
 fun (r_2:((HpD×List Int×List Int×Unit)×Unit)×(List Int×Int×Unit)×Unit)=>(F_made_World_Spoil ((((r_2.1.1.1.1.1,r_2.1.1.1.1.2.1,()),r_2.1.1.1.2.1,r_2.1.1.1.2.2.1,r_2.1.1.1.2.2.2.1,r_2.1.1.1.2.2.2.2.1,()),r_2.1.1.2.1,r_2.1.1.2.2.1,()),(r_2.2.1.1,r_2.2.1.2.1,()),())).bind
 fun (r_3:((HpD×List Int×List Int×Unit)×Unit)×(List Int×Int×Unit)×Unit)=>(F_made_Light (((d.1.1.1,d.1.1.2.1,()),d.1.2.1,d.1.2.2.1,d.1.2.2.2.1,d.1.2.2.2.2.1,()),())).bind
 fun (r_4:(Bool×Unit)×Unit)=>
 bif bif r_4.1.1 then zaJ ([((r.1.1.1.1.1,r.1.1.1.1.2.1,()),r.1.1.1.2.1,r.1.1.1.2.2.1,r.1.1.1.2.2.2.1,r.1.1.1.2.2.2.2.1,()),((r_1.1.1.1.1.1,r_1.1.1.1.1.2.1,()),r_1.1.1.1.2.1,r_1.1.1.1.2.2.1,r_1.1.1.1.2.2.2.1,r_1.1.1.1.2.2.2.2.1,()),((r_3.1.1.1.1.1,r_3.1.1.1.1.2.1,()),r_3.1.1.1.2.1,r_3.1.1.1.2.2.1,r_3.1.1.1.2.2.2.1,r_3.1.1.1.2.2.2.2.1,())].length + [((d.1.1.1,d.1.1.2.1,()),d.1.2.1,d.1.2.2.1,d.1.2.2.2.1,d.1.2.2.2.2.1,())].length) 80
 else true then
 bif r_4.1.1 then (rl ((Bool×Int×Unit)×Unit×Unit) ((Bool×Unit)×Unit×Unit⊕(Bool×Unit)×Unit×Unit) (fun (x:(Bool×Int×Unit)×Unit×Unit)=>
 bif decide (x.1.2.1 < ↑([((r.1.1.1.1.1,r.1.1.1.1.2.1,()),r.1.1.1.2.1,r.1.1.1.2.2.1,r.1.1.1.2.2.2.1,r.1.1.1.2.2.2.2.1,()),((r_1.1.1.1.1.1,r_1.1.1.1.1.2.1,()),r_1.1.1.1.2.1,r_1.1.1.1.2.2.1,r_1.1.1.1.2.2.2.1,r_1.1.1.1.2.2.2.2.1,()),((r_3.1.1.1.1.1,r_3.1.1.1.1.2.1,()),r_3.1.1.1.2.1,r_3.1.1.1.2.2.1,r_3.1.1.1.2.2.2.1,r_3.1.1.1.2.2.2.2.1,())]++[((d.1.1.1,d.1.1.2.1,()),d.1.2.1,d.1.2.2.1,d.1.2.2.2.1,d.1.2.2.2.2.1,())]).length) then
 bif inB x.1.2.1 ([((r.1.1.1.1.1,r.1.1.1.1.2.1,()),r.1.1.1.2.1,r.1.1.1.2.2.1,r.1.1.1.2.2.2.1,r.1.1.1.2.2.2.2.1,()),((r_1.1.1.1.1.1,r_1.1.1.1.1.2.1,()),r_1.1.1.1.2.1,r_1.1.1.1.2.2.1,r_1.1.1.1.2.2.2.1,r_1.1.1.1.2.2.2.2.1,()),((r_3.1.1.1.1.1,r_3.1.1.1.1.2.1,()),r_3.1.1.1.2.1,r_3.1.1.1.2.2.1,r_3.1.1.1.2.2.2.1,r_3.1.1.1.2.2.2.2.1,())]++[((d.1.1.1,d.1.1.2.1,()),d.1.2.1,d.1.2.2.1,d.1.2.2.2.1,d.1.2.2.2.2.1,())]).length then (F_audit_Check ((((([((r.1.1.1.1.1,r.1.1.1.1.2.1,()),r.1.1.1.2.1,r.1.1.1.2.2.1,r.1.1.1.2.2.2.1,r.1.1.1.2.2.2.2.1,()),((r_1.1.1.1.1.1,r_1.1.1.1.1.2.1,()),r_1.1.1.1.2.1,r_1.1.1.1.2.2.1,r_1.1.1.1.2.2.2.1,r_1.1.1.1.2.2.2.2.1,()),((r_3.1.1.1.1.1,r_3.1.1.1.1.2.1,()),r_3.1.1.1.2.1,r_3.1.1.1.2.2.1,r_3.1.1.1.2.2.2.1,r_3.1.1.1.2.2.2.2.1,())]++[((d.1.1.1,d.1.1.2.1,()),d.1.2.1,d.1.2.2.1,d.1.2.2.2.1,d.1.2.2.2.2.1,())]).getD x.1.2.1.toNat H0).1.1,(([((r.1.1.1.1.1,r.1.1.1.1.2.1,()),r.1.1.1.2.1,r.1.1.1.2.2.1,r.1.1.1.2.2.2.1,r.1.1.1.2.2.2.2.1,()),((r_1.1.1.1.1.1,r_1.1.1.1.1.2.1,()),r_1.1.1.1.2.1,r_1.1.1.1.2.2.1,r_1.1.1.1.2.2.2.1,r_1.1.1.1.2.2.2.2.1,()),((r_3.1.1.1.1.1,r_3.1.1.1.1.2.1,()),r_3.1.1.1.2.1,r_3.1.1.1.2.2.1,r_3.1.1.1.2.2.2.1,r_3.1.1.1.2.2.2.2.1,())]++[((d.1.1.1,d.1.1.2.1,()),d.1.2.1,d.1.2.2.1,d.1.2.2.2.1,d.1.2.2.2.2.1,())]).getD x.1.2.1.toNat H0).1.2.1,()),(([((r.1.1.1.1.1,r.1.1.1.1.2.1,()),r.1.1.1.2.1,r.1.1.1.2.2.1,r.1.1.1.2.2.2.1,r.1.1.1.2.2.2.2.1,()),((r_1.1.1.1.1.1,r_1.1.1.1.1.2.1,()),r_1.1.1.1.2.1,r_1.1.1.1.2.2.1,r_1.1.1.1.2.2.2.1,r_1.1.1.1.2.2.2.2.1,()),((r_3.1.1.1.1.1,r_3.1.1.1.1.2.1,()),r_3.1.1.1.2.1,r_3.1.1.1.2.2.1,r_3.1.1.1.2.2.2.1,r_3.1.1.1.2.2.2.2.1,())]++[((d.1.1.1,d.1.1.2.1,()),d.1.2.1,d.1.2.2.1,d.1.2.2.2.1,d.1.2.2.2.2.1,())]).getD x.1.2.1.toNat H0).2.1,(([((r.1.1.1.1.1,r.1.1.1.1.2.1,()),r.1.1.1.2.1,r.1.1.1.2.2.1,r.1.1.1.2.2.2.1,r.1.1.1.2.2.2.2.1,()),((r_1.1.1.1.1.1,r_1.1.1.1.1.2.1,()),r_1.1.1.1.2.1,r_1.1.1.1.2.2.1,r_1.1.1.1.2.2.2.1,r_1.1.1.1.2.2.2.2.1,()),((r_3.1.1.1.1.1,r_3.1.1.1.1.2.1,()),r_3.1.1.1.2.1,r_3.1.1.1.2.2.1,r_3.1.1.1.2.2.2.1,r_3.1.1.1.2.2.2.2.1,())]++[((d.1.1.1,d.1.1.2.1,()),d.1.2.1,d.1.2.2.1,d.1.2.2.2.1,d.1.2.2.2.2.1,())]).getD x.1.2.1.toNat H0).2.2.1,(([((r.1.1.1.1.1,r.1.1.1.1.2.1,()),r.1.1.1.2.1,r.1.1.1.2.2.1,r.1.1.1.2.2.2.1,r.1.1.1.2.2.2.2.1,()),((r_1.1.1.1.1.1,r_1.1.1.1.1.2.1,()),r_1.1.1.1.2.1,r_1.1.1.1.2.2.1,r_1.1.1.1.2.2.2.1,r_1.1.1.1.2.2.2.2.1,()),((r_3.1.1.1.1.1,r_3.1.1.1.1.2.1,()),r_3.1.1.1.2.1,r_3.1.1.1.2.2.1,r_3.1.1.1.2.2.2.1,r_3.1.1.1.2.2.2.2.1,())]++[((d.1.1.1,d.1.1.2.1,()),d.1.2.1,d.1.2.2.1,d.1.2.2.2.1,d.1.2.2.2.2.1,())]).getD x.1.2.1.toNat H0).2.2.2.1,(([((r.1.1.1.1.1,r.1.1.1.1.2.1,()),r.1.1.1.2.1,r.1.1.1.2.2.1,r.1.1.1.2.2.2.1,r.1.1.1.2.2.2.2.1,()),((r_1.1.1.1.1.1,r_1.1.1.1.1.2.1,()),r_1.1.1.1.2.1,r_1.1.1.1.2.2.1,r_1.1.1.1.2.2.2.1,r_1.1.1.1.2.2.2.2.1,()),((r_3.1.1.1.1.1,r_3.1.1.1.1.2.1,()),r_3.1.1.1.2.1,r_3.1.1.1.2.2.1,r_3.1.1.1.2.2.2.1,r_3.1.1.1.2.2.2.2.1,())]++[((d.1.1.1,d.1.1.2.1,()),d.1.2.1,d.1.2.2.1,d.1.2.2.2.1,d.1.2.2.2.2.1,())]).getD x.1.2.1.toNat H0).2.2.2.2.1,()),())).bind
 fun (r_5:((Int×Int×Int×Unit)×Unit)×Unit)=>(F_r09_Check ((((([((r.1.1.1.1.1,r.1.1.1.1.2.1,()),r.1.1.1.2.1,r.1.1.1.2.2.1,r.1.1.1.2.2.2.1,r.1.1.1.2.2.2.2.1,()),((r_1.1.1.1.1.1,r_1.1.1.1.1.2.1,()),r_1.1.1.1.2.1,r_1.1.1.1.2.2.1,r_1.1.1.1.2.2.2.1,r_1.1.1.1.2.2.2.2.1,()),((r_3.1.1.1.1.1,r_3.1.1.1.1.2.1,()),r_3.1.1.1.2.1,r_3.1.1.1.2.2.1,r_3.1.1.1.2.2.2.1,r_3.1.1.1.2.2.2.2.1,())]++[((d.1.1.1,d.1.1.2.1,()),d.1.2.1,d.1.2.2.1,d.1.2.2.2.1,d.1.2.2.2.2.1,())]).getD x.1.2.1.toNat H0).1.1,(([((r.1.1.1.1.1,r.1.1.1.1.2.1,()),r.1.1.1.2.1,r.1.1.1.2.2.1,r.1.1.1.2.2.2.1,r.1.1.1.2.2.2.2.1,()),((r_1.1.1.1.1.1,r_1.1.1.1.1.2.1,()),r_1.1.1.1.2.1,r_1.1.1.1.2.2.1,r_1.1.1.1.2.2.2.1,r_1.1.1.1.2.2.2.2.1,()),((r_3.1.1.1.1.1,r_3.1.1.1.1.2.1,()),r_3.1.1.1.2.1,r_3.1.1.1.2.2.1,r_3.1.1.1.2.2.2.1,r_3.1.1.1.2.2.2.2.1,())]++[((d.1.1.1,d.1.1.2.1,()),d.1.2.1,d.1.2.2.1,d.1.2.2.2.1,d.1.2.2.2.2.1,())]).getD x.1.2.1.toNat H0).1.2.1,()),(([((r.1.1.1.1.1,r.1.1.1.1.2.1,()),r.1.1.1.2.1,r.1.1.1.2.2.1,r.1.1.1.2.2.2.1,r.1.1.1.2.2.2.2.1,()),((r_1.1.1.1.1.1,r_1.1.1.1.1.2.1,()),r_1.1.1.1.2.1,r_1.1.1.1.2.2.1,r_1.1.1.1.2.2.2.1,r_1.1.1.1.2.2.2.2.1,()),((r_3.1.1.1.1.1,r_3.1.1.1.1.2.1,()),r_3.1.1.1.2.1,r_3.1.1.1.2.2.1,r_3.1.1.1.2.2.2.1,r_3.1.1.1.2.2.2.2.1,())]++[((d.1.1.1,d.1.1.2.1,()),d.1.2.1,d.1.2.2.1,d.1.2.2.2.1,d.1.2.2.2.2.1,())]).getD x.1.2.1.toNat H0).2.1,(([((r.1.1.1.1.1,r.1.1.1.1.2.1,()),r.1.1.1.2.1,r.1.1.1.2.2.1,r.1.1.1.2.2.2.1,r.1.1.1.2.2.2.2.1,()),((r_1.1.1.1.1.1,r_1.1.1.1.1.2.1,()),r_1.1.1.1.2.1,r_1.1.1.1.2.2.1,r_1.1.1.1.2.2.2.1,r_1.1.1.1.2.2.2.2.1,()),((r_3.1.1.1.1.1,r_3.1.1.1.1.2.1,()),r_3.1.1.1.2.1,r_3.1.1.1.2.2.1,r_3.1.1.1.2.2.2.1,r_3.1.1.1.2.2.2.2.1,())]++[((d.1.1.1,d.1.1.2.1,()),d.1.2.1,d.1.2.2.1,d.1.2.2.2.1,d.1.2.2.2.2.1,())]).getD x.1.2.1.toNat H0).2.2.1,(([((r.1.1.1.1.1,r.1.1.1.1.2.1,()),r.1.1.1.2.1,r.1.1.1.2.2.1,r.1.1.1.2.2.2.1,r.1.1.1.2.2.2.2.1,()),((r_1.1.1.1.1.1,r_1.1.1.1.1.2.1,()),r_1.1.1.1.2.1,r_1.1.1.1.2.2.1,r_1.1.1.1.2.2.2.1,r_1.1.1.1.2.2.2.2.1,()),((r_3.1.1.1.1.1,r_3.1.1.1.1.2.1,()),r_3.1.1.1.2.1,r_3.1.1.1.2.2.1,r_3.1.1.1.2.2.2.1,r_3.1.1.1.2.2.2.2.1,())]++[((d.1.1.1,d.1.1.2.1,()),d.1.2.1,d.1.2.2.1,d.1.2.2.2.1,d.1.2.2.2.2.1,())]).getD x.1.2.1.toNat H0).2.2.2.1,(([((r.1.1.1.1.1,r.1.1.1.1.2.1,()),r.1.1.1.2.1,r.1.1.1.2.2.1,r.1.1.1.2.2.2.1,r.1.1.1.2.2.2.2.1,()),((r_1.1.1.1.1.1,r_1.1.1.1.1.2.1,()),r_1.1.1.1.2.1,r_1.1.1.1.2.2.1,r_1.1.1.1.2.2.2.1,r_1.1.1.1.2.2.2.2.1,()),((r_3.1.1.1.1.1,r_3.1.1.1.1.2.1,()),r_3.1.1.1.2.1,r_3.1.1.1.2.2.1,r_3.1.1.1.2.2.2.1,r_3.1.1.1.2.2.2.2.1,())]++[((d.1.1.1,d.1.1.2.1,()),d.1.2.1,d.1.2.2.1,d.1.2.2.2.1,d.1.2.2.2.2.1,())]).getD x.1.2.1.toNat H0).2.2.2.2.1,()),())).bind
 fun (r_6:((Int×Int×Int×Unit)×Unit)×Unit)=>
 bif r_5.1.1.1 != r_6.1.1.1 then some (Sum.inr (Sum.inl ((false,()),(),())))
 else bif r_5.1.1.2.1 != r_6.1.1.2.1 then some (Sum.inr (Sum.inl ((false,()),(),())))
 else bif r_5.1.1.2.2.1 != r_6.1.1.2.2.1 then some (Sum.inr (Sum.inl ((false,()),(),())))
 else (F_audit_Good ((((([((r.1.1.1.1.1,r.1.1.1.1.2.1,()),r.1.1.1.2.1,r.1.1.1.2.2.1,r.1.1.1.2.2.2.1,r.1.1.1.2.2.2.2.1,()),((r_1.1.1.1.1.1,r_1.1.1.1.1.2.1,()),r_1.1.1.1.2.1,r_1.1.1.1.2.2.1,r_1.1.1.1.2.2.2.1,r_1.1.1.1.2.2.2.2.1,()),((r_3.1.1.1.1.1,r_3.1.1.1.1.2.1,()),r_3.1.1.1.2.1,r_3.1.1.1.2.2.1,r_3.1.1.1.2.2.2.1,r_3.1.1.1.2.2.2.2.1,())]++[((d.1.1.1,d.1.1.2.1,()),d.1.2.1,d.1.2.2.1,d.1.2.2.2.1,d.1.2.2.2.2.1,())]).getD x.1.2.1.toNat H0).1.1,(([((r.1.1.1.1.1,r.1.1.1.1.2.1,()),r.1.1.1.2.1,r.1.1.1.2.2.1,r.1.1.1.2.2.2.1,r.1.1.1.2.2.2.2.1,()),((r_1.1.1.1.1.1,r_1.1.1.1.1.2.1,()),r_1.1.1.1.2.1,r_1.1.1.1.2.2.1,r_1.1.1.1.2.2.2.1,r_1.1.1.1.2.2.2.2.1,()),((r_3.1.1.1.1.1,r_3.1.1.1.1.2.1,()),r_3.1.1.1.2.1,r_3.1.1.1.2.2.1,r_3.1.1.1.2.2.2.1,r_3.1.1.1.2.2.2.2.1,())]++[((d.1.1.1,d.1.1.2.1,()),d.1.2.1,d.1.2.2.1,d.1.2.2.2.1,d.1.2.2.2.2.1,())]).getD x.1.2.1.toNat H0).1.2.1,()),(([((r.1.1.1.1.1,r.1.1.1.1.2.1,()),r.1.1.1.2.1,r.1.1.1.2.2.1,r.1.1.1.2.2.2.1,r.1.1.1.2.2.2.2.1,()),((r_1.1.1.1.1.1,r_1.1.1.1.1.2.1,()),r_1.1.1.1.2.1,r_1.1.1.1.2.2.1,r_1.1.1.1.2.2.2.1,r_1.1.1.1.2.2.2.2.1,()),((r_3.1.1.1.1.1,r_3.1.1.1.1.2.1,()),r_3.1.1.1.2.1,r_3.1.1.1.2.2.1,r_3.1.1.1.2.2.2.1,r_3.1.1.1.2.2.2.2.1,())]++[((d.1.1.1,d.1.1.2.1,()),d.1.2.1,d.1.2.2.1,d.1.2.2.2.1,d.1.2.2.2.2.1,())]).getD x.1.2.1.toNat H0).2.1,(([((r.1.1.1.1.1,r.1.1.1.1.2.1,()),r.1.1.1.2.1,r.1.1.1.2.2.1,r.1.1.1.2.2.2.1,r.1.1.1.2.2.2.2.1,()),((r_1.1.1.1.1.1,r_1.1.1.1.1.2.1,()),r_1.1.1.1.2.1,r_1.1.1.1.2.2.1,r_1.1.1.1.2.2.2.1,r_1.1.1.1.2.2.2.2.1,()),((r_3.1.1.1.1.1,r_3.1.1.1.1.2.1,()),r_3.1.1.1.2.1,r_3.1.1.1.2.2.1,r_3.1.1.1.2.2.2.1,r_3.1.1.1.2.2.2.2.1,())]++[((d.1.1.1,d.1.1.2.1,()),d.1.2.1,d.1.2.2.1,d.1.2.2.2.1,d.1.2.2.2.2.1,())]).getD x.1.2.1.toNat H0).2.2.1,(([((r.1.1.1.1.1,r.1.1.1.1.2.1,()),r.1.1.1.2.1,r.1.1.1.2.2.1,r.1.1.1.2.2.2.1,r.1.1.1.2.2.2.2.1,()),((r_1.1.1.1.1.1,r_1.1.1.1.1.2.1,()),r_1.1.1.1.2.1,r_1.1.1.1.2.2.1,r_1.1.1.1.2.2.2.1,r_1.1.1.1.2.2.2.2.1,()),((r_3.1.1.1.1.1,r_3.1.1.1.1.2.1,()),r_3.1.1.1.2.1,r_3.1.1.1.2.2.1,r_3.1.1.1.2.2.2.1,r_3.1.1.1.2.2.2.2.1,())]++[((d.1.1.1,d.1.1.2.1,()),d.1.2.1,d.1.2.2.1,d.1.2.2.2.1,d.1.2.2.2.2.1,())]).getD x.1.2.1.toNat H0).2.2.2.1,(([((r.1.1.1.1.1,r.1.1.1.1.2.1,()),r.1.1.1.2.1,r.1.1.1.2.2.1,r.1.1.1.2.2.2.1,r.1.1.1.2.2.2.2.1,()),((r_1.1.1.1.1.1,r_1.1.1.1.1.2.1,()),r_1.1.1.1.2.1,r_1.1.1.1.2.2.1,r_1.1.1.1.2.2.2.1,r_1.1.1.1.2.2.2.2.1,()),((r_3.1.1.1.1.1,r_3.1.1.1.1.2.1,()),r_3.1.1.1.2.1,r_3.1.1.1.2.2.1,r_3.1.1.1.2.2.2.1,r_3.1.1.1.2.2.2.2.1,())]++[((d.1.1.1,d.1.1.2.1,()),d.1.2.1,d.1.2.2.1,d.1.2.2.2.1,d.1.2.2.2.2.1,())]).getD x.1.2.1.toNat H0).2.2.2.2.1,()),())).bind
 fun (r_7:(Bool×Unit)×Unit)=>(F_r09_Good ((((([((r.1.1.1.1.1,r.1.1.1.1.2.1,()),r.1.1.1.2.1,r.1.1.1.2.2.1,r.1.1.1.2.2.2.1,r.1.1.1.2.2.2.2.1,()),((r_1.1.1.1.1.1,r_1.1.1.1.1.2.1,()),r_1.1.1.1.2.1,r_1.1.1.1.2.2.1,r_1.1.1.1.2.2.2.1,r_1.1.1.1.2.2.2.2.1,()),((r_3.1.1.1.1.1,r_3.1.1.1.1.2.1,()),r_3.1.1.1.2.1,r_3.1.1.1.2.2.1,r_3.1.1.1.2.2.2.1,r_3.1.1.1.2.2.2.2.1,())]++[((d.1.1.1,d.1.1.2.1,()),d.1.2.1,d.1.2.2.1,d.1.2.2.2.1,d.1.2.2.2.2.1,())]).getD x.1.2.1.toNat H0).1.1,(([((r.1.1.1.1.1,r.1.1.1.1.2.1,()),r.1.1.1.2.1,r.1.1.1.2.2.1,r.1.1.1.2.2.2.1,r.1.1.1.2.2.2.2.1,()),((r_1.1.1.1.1.1,r_1.1.1.1.1.2.1,()),r_1.1.1.1.2.1,r_1.1.1.1.2.2.1,r_1.1.1.1.2.2.2.1,r_1.1.1.1.2.2.2.2.1,()),((r_3.1.1.1.1.1,r_3.1.1.1.1.2.1,()),r_3.1.1.1.2.1,r_3.1.1.1.2.2.1,r_3.1.1.1.2.2.2.1,r_3.1.1.1.2.2.2.2.1,())]++[((d.1.1.1,d.1.1.2.1,()),d.1.2.1,d.1.2.2.1,d.1.2.2.2.1,d.1.2.2.2.2.1,())]).getD x.1.2.1.toNat H0).1.2.1,()),(([((r.1.1.1.1.1,r.1.1.1.1.2.1,()),r.1.1.1.2.1,r.1.1.1.2.2.1,r.1.1.1.2.2.2.1,r.1.1.1.2.2.2.2.1,()),((r_1.1.1.1.1.1,r_1.1.1.1.1.2.1,()),r_1.1.1.1.2.1,r_1.1.1.1.2.2.1,r_1.1.1.1.2.2.2.1,r_1.1.1.1.2.2.2.2.1,()),((r_3.1.1.1.1.1,r_3.1.1.1.1.2.1,()),r_3.1.1.1.2.1,r_3.1.1.1.2.2.1,r_3.1.1.1.2.2.2.1,r_3.1.1.1.2.2.2.2.1,())]++[((d.1.1.1,d.1.1.2.1,()),d.1.2.1,d.1.2.2.1,d.1.2.2.2.1,d.1.2.2.2.2.1,())]).getD x.1.2.1.toNat H0).2.1,(([((r.1.1.1.1.1,r.1.1.1.1.2.1,()),r.1.1.1.2.1,r.1.1.1.2.2.1,r.1.1.1.2.2.2.1,r.1.1.1.2.2.2.2.1,()),((r_1.1.1.1.1.1,r_1.1.1.1.1.2.1,()),r_1.1.1.1.2.1,r_1.1.1.1.2.2.1,r_1.1.1.1.2.2.2.1,r_1.1.1.1.2.2.2.2.1,()),((r_3.1.1.1.1.1,r_3.1.1.1.1.2.1,()),r_3.1.1.1.2.1,r_3.1.1.1.2.2.1,r_3.1.1.1.2.2.2.1,r_3.1.1.1.2.2.2.2.1,())]++[((d.1.1.1,d.1.1.2.1,()),d.1.2.1,d.1.2.2.1,d.1.2.2.2.1,d.1.2.2.2.2.1,())]).getD x.1.2.1.toNat H0).2.2.1,(([((r.1.1.1.1.1,r.1.1.1.1.2.1,()),r.1.1.1.2.1,r.1.1.1.2.2.1,r.1.1.1.2.2.2.1,r.1.1.1.2.2.2.2.1,()),((r_1.1.1.1.1.1,r_1.1.1.1.1.2.1,()),r_1.1.1.1.2.1,r_1.1.1.1.2.2.1,r_1.1.1.1.2.2.2.1,r_1.1.1.1.2.2.2.2.1,()),((r_3.1.1.1.1.1,r_3.1.1.1.1.2.1,()),r_3.1.1.1.2.1,r_3.1.1.1.2.2.1,r_3.1.1.1.2.2.2.1,r_3.1.1.1.2.2.2.2.1,())]++[((d.1.1.1,d.1.1.2.1,()),d.1.2.1,d.1.2.2.1,d.1.2.2.2.1,d.1.2.2.2.2.1,())]).getD x.1.2.1.toNat H0).2.2.2.1,(([((r.1.1.1.1.1,r.1.1.1.1.2.1,()),r.1.1.1.2.1,r.1.1.1.2.2.1,r.1.1.1.2.2.2.1,r.1.1.1.2.2.2.2.1,()),((r_1.1.1.1.1.1,r_1.1.1.1.1.2.1,()),r_1.1.1.1.2.1,r_1.1.1.1.2.2.1,r_1.1.1.1.2.2.2.1,r_1.1.1.1.2.2.2.2.1,()),((r_3.1.1.1.1.1,r_3.1.1.1.1.2.1,()),r_3.1.1.1.2.1,r_3.1.1.1.2.2.1,r_3.1.1.1.2.2.2.1,r_3.1.1.1.2.2.2.2.1,())]++[((d.1.1.1,d.1.1.2.1,()),d.1.2.1,d.1.2.2.1,d.1.2.2.2.1,d.1.2.2.2.2.1,())]).getD x.1.2.1.toNat H0).2.2.2.2.1,()),())).bind
 fun (r:(Bool×Unit)×Unit)=>
 bif !r_7.1.1 == r.1.1 then some (Sum.inr (Sum.inl ((false,()),(),())))
 else some (Sum.inl ((x.1.1,W (x.1.2.1+1),()),(),()))
 else none
 else some (Sum.inr (Sum.inr ((x.1.1,()),(),())))) ((false,0,()),(),())).bind
 fun (r:(Bool×Unit)×Unit×Unit⊕(Bool×Unit)×Unit×Unit)=>Sum.elim (fun (x:(Bool×Unit)×Unit×Unit)=>some ((x.1.1,()),())) (fun (y:(Bool×Unit)×Unit×Unit)=>(F_l09_awake ()).bind
 fun (r:(Bool×Unit)×Unit)=>some ((r.1.1,()),())) r
 else (rl ((Bool×Int×Unit)×Unit×Unit) ((Bool×Unit)×Unit×Unit⊕(Bool×Unit)×Unit×Unit) (fun (x:(Bool×Int×Unit)×Unit×Unit)=>
 bif decide (x.1.2.1 < ↑[((r.1.1.1.1.1,r.1.1.1.1.2.1,()),r.1.1.1.2.1,r.1.1.1.2.2.1,r.1.1.1.2.2.2.1,r.1.1.1.2.2.2.2.1,()),((r_1.1.1.1.1.1,r_1.1.1.1.1.2.1,()),r_1.1.1.1.2.1,r_1.1.1.1.2.2.1,r_1.1.1.1.2.2.2.1,r_1.1.1.1.2.2.2.2.1,()),((r_3.1.1.1.1.1,r_3.1.1.1.1.2.1,()),r_3.1.1.1.2.1,r_3.1.1.1.2.2.1,r_3.1.1.1.2.2.2.1,r_3.1.1.1.2.2.2.2.1,())].length) then
 bif inB x.1.2.1 [((r.1.1.1.1.1,r.1.1.1.1.2.1,()),r.1.1.1.2.1,r.1.1.1.2.2.1,r.1.1.1.2.2.2.1,r.1.1.1.2.2.2.2.1,()),((r_1.1.1.1.1.1,r_1.1.1.1.1.2.1,()),r_1.1.1.1.2.1,r_1.1.1.1.2.2.1,r_1.1.1.1.2.2.2.1,r_1.1.1.1.2.2.2.2.1,()),((r_3.1.1.1.1.1,r_3.1.1.1.1.2.1,()),r_3.1.1.1.2.1,r_3.1.1.1.2.2.1,r_3.1.1.1.2.2.2.1,r_3.1.1.1.2.2.2.2.1,())].length then (F_audit_Check (((([((r.1.1.1.1.1,r.1.1.1.1.2.1,()),r.1.1.1.2.1,r.1.1.1.2.2.1,r.1.1.1.2.2.2.1,r.1.1.1.2.2.2.2.1,()),((r_1.1.1.1.1.1,r_1.1.1.1.1.2.1,()),r_1.1.1.1.2.1,r_1.1.1.1.2.2.1,r_1.1.1.1.2.2.2.1,r_1.1.1.1.2.2.2.2.1,()),((r_3.1.1.1.1.1,r_3.1.1.1.1.2.1,()),r_3.1.1.1.2.1,r_3.1.1.1.2.2.1,r_3.1.1.1.2.2.2.1,r_3.1.1.1.2.2.2.2.1,())].getD x.1.2.1.toNat H0).1.1,([((r.1.1.1.1.1,r.1.1.1.1.2.1,()),r.1.1.1.2.1,r.1.1.1.2.2.1,r.1.1.1.2.2.2.1,r.1.1.1.2.2.2.2.1,()),((r_1.1.1.1.1.1,r_1.1.1.1.1.2.1,()),r_1.1.1.1.2.1,r_1.1.1.1.2.2.1,r_1.1.1.1.2.2.2.1,r_1.1.1.1.2.2.2.2.1,()),((r_3.1.1.1.1.1,r_3.1.1.1.1.2.1,()),r_3.1.1.1.2.1,r_3.1.1.1.2.2.1,r_3.1.1.1.2.2.2.1,r_3.1.1.1.2.2.2.2.1,())].getD x.1.2.1.toNat H0).1.2.1,()),([((r.1.1.1.1.1,r.1.1.1.1.2.1,()),r.1.1.1.2.1,r.1.1.1.2.2.1,r.1.1.1.2.2.2.1,r.1.1.1.2.2.2.2.1,()),((r_1.1.1.1.1.1,r_1.1.1.1.1.2.1,()),r_1.1.1.1.2.1,r_1.1.1.1.2.2.1,r_1.1.1.1.2.2.2.1,r_1.1.1.1.2.2.2.2.1,()),((r_3.1.1.1.1.1,r_3.1.1.1.1.2.1,()),r_3.1.1.1.2.1,r_3.1.1.1.2.2.1,r_3.1.1.1.2.2.2.1,r_3.1.1.1.2.2.2.2.1,())].getD x.1.2.1.toNat H0).2.1,([((r.1.1.1.1.1,r.1.1.1.1.2.1,()),r.1.1.1.2.1,r.1.1.1.2.2.1,r.1.1.1.2.2.2.1,r.1.1.1.2.2.2.2.1,()),((r_1.1.1.1.1.1,r_1.1.1.1.1.2.1,()),r_1.1.1.1.2.1,r_1.1.1.1.2.2.1,r_1.1.1.1.2.2.2.1,r_1.1.1.1.2.2.2.2.1,()),((r_3.1.1.1.1.1,r_3.1.1.1.1.2.1,()),r_3.1.1.1.2.1,r_3.1.1.1.2.2.1,r_3.1.1.1.2.2.2.1,r_3.1.1.1.2.2.2.2.1,())].getD x.1.2.1.toNat H0).2.2.1,([((r.1.1.1.1.1,r.1.1.1.1.2.1,()),r.1.1.1.2.1,r.1.1.1.2.2.1,r.1.1.1.2.2.2.1,r.1.1.1.2.2.2.2.1,()),((r_1.1.1.1.1.1,r_1.1.1.1.1.2.1,()),r_1.1.1.1.2.1,r_1.1.1.1.2.2.1,r_1.1.1.1.2.2.2.1,r_1.1.1.1.2.2.2.2.1,()),((r_3.1.1.1.1.1,r_3.1.1.1.1.2.1,()),r_3.1.1.1.2.1,r_3.1.1.1.2.2.1,r_3.1.1.1.2.2.2.1,r_3.1.1.1.2.2.2.2.1,())].getD x.1.2.1.toNat H0).2.2.2.1,([((r.1.1.1.1.1,r.1.1.1.1.2.1,()),r.1.1.1.2.1,r.1.1.1.2.2.1,r.1.1.1.2.2.2.1,r.1.1.1.2.2.2.2.1,()),((r_1.1.1.1.1.1,r_1.1.1.1.1.2.1,()),r_1.1.1.1.2.1,r_1.1.1.1.2.2.1,r_1.1.1.1.2.2.2.1,r_1.1.1.1.2.2.2.2.1,()),((r_3.1.1.1.1.1,r_3.1.1.1.1.2.1,()),r_3.1.1.1.2.1,r_3.1.1.1.2.2.1,r_3.1.1.1.2.2.2.1,r_3.1.1.1.2.2.2.2.1,())].getD x.1.2.1.toNat H0).2.2.2.2.1,()),())).bind
 fun (r_5:((Int×Int×Int×Unit)×Unit)×Unit)=>(F_r09_Check (((([((r.1.1.1.1.1,r.1.1.1.1.2.1,()),r.1.1.1.2.1,r.1.1.1.2.2.1,r.1.1.1.2.2.2.1,r.1.1.1.2.2.2.2.1,()),((r_1.1.1.1.1.1,r_1.1.1.1.1.2.1,()),r_1.1.1.1.2.1,r_1.1.1.1.2.2.1,r_1.1.1.1.2.2.2.1,r_1.1.1.1.2.2.2.2.1,()),((r_3.1.1.1.1.1,r_3.1.1.1.1.2.1,()),r_3.1.1.1.2.1,r_3.1.1.1.2.2.1,r_3.1.1.1.2.2.2.1,r_3.1.1.1.2.2.2.2.1,())].getD x.1.2.1.toNat H0).1.1,([((r.1.1.1.1.1,r.1.1.1.1.2.1,()),r.1.1.1.2.1,r.1.1.1.2.2.1,r.1.1.1.2.2.2.1,r.1.1.1.2.2.2.2.1,()),((r_1.1.1.1.1.1,r_1.1.1.1.1.2.1,()),r_1.1.1.1.2.1,r_1.1.1.1.2.2.1,r_1.1.1.1.2.2.2.1,r_1.1.1.1.2.2.2.2.1,()),((r_3.1.1.1.1.1,r_3.1.1.1.1.2.1,()),r_3.1.1.1.2.1,r_3.1.1.1.2.2.1,r_3.1.1.1.2.2.2.1,r_3.1.1.1.2.2.2.2.1,())].getD x.1.2.1.toNat H0).1.2.1,()),([((r.1.1.1.1.1,r.1.1.1.1.2.1,()),r.1.1.1.2.1,r.1.1.1.2.2.1,r.1.1.1.2.2.2.1,r.1.1.1.2.2.2.2.1,()),((r_1.1.1.1.1.1,r_1.1.1.1.1.2.1,()),r_1.1.1.1.2.1,r_1.1.1.1.2.2.1,r_1.1.1.1.2.2.2.1,r_1.1.1.1.2.2.2.2.1,()),((r_3.1.1.1.1.1,r_3.1.1.1.1.2.1,()),r_3.1.1.1.2.1,r_3.1.1.1.2.2.1,r_3.1.1.1.2.2.2.1,r_3.1.1.1.2.2.2.2.1,())].getD x.1.2.1.toNat H0).2.1,([((r.1.1.1.1.1,r.1.1.1.1.2.1,()),r.1.1.1.2.1,r.1.1.1.2.2.1,r.1.1.1.2.2.2.1,r.1.1.1.2.2.2.2.1,()),((r_1.1.1.1.1.1,r_1.1.1.1.1.2.1,()),r_1.1.1.1.2.1,r_1.1.1.1.2.2.1,r_1.1.1.1.2.2.2.1,r_1.1.1.1.2.2.2.2.1,()),((r_3.1.1.1.1.1,r_3.1.1.1.1.2.1,()),r_3.1.1.1.2.1,r_3.1.1.1.2.2.1,r_3.1.1.1.2.2.2.1,r_3.1.1.1.2.2.2.2.1,())].getD x.1.2.1.toNat H0).2.2.1,([((r.1.1.1.1.1,r.1.1.1.1.2.1,()),r.1.1.1.2.1,r.1.1.1.2.2.1,r.1.1.1.2.2.2.1,r.1.1.1.2.2.2.2.1,()),((r_1.1.1.1.1.1,r_1.1.1.1.1.2.1,()),r_1.1.1.1.2.1,r_1.1.1.1.2.2.1,r_1.1.1.1.2.2.2.1,r_1.1.1.1.2.2.2.2.1,()),((r_3.1.1.1.1.1,r_3.1.1.1.1.2.1,()),r_3.1.1.1.2.1,r_3.1.1.1.2.2.1,r_3.1.1.1.2.2.2.1,r_3.1.1.1.2.2.2.2.1,())].getD x.1.2.1.toNat H0).2.2.2.1,([((r.1.1.1.1.1,r.1.1.1.1.2.1,()),r.1.1.1.2.1,r.1.1.1.2.2.1,r.1.1.1.2.2.2.1,r.1.1.1.2.2.2.2.1,()),((r_1.1.1.1.1.1,r_1.1.1.1.1.2.1,()),r_1.1.1.1.2.1,r_1.1.1.1.2.2.1,r_1.1.1.1.2.2.2.1,r_1.1.1.1.2.2.2.2.1,()),((r_3.1.1.1.1.1,r_3.1.1.1.1.2.1,()),r_3.1.1.1.2.1,r_3.1.1.1.2.2.1,r_3.1.1.1.2.2.2.1,r_3.1.1.1.2.2.2.2.1,())].getD x.1.2.1.toNat H0).2.2.2.2.1,()),())).bind
 fun (r_6:((Int×Int×Int×Unit)×Unit)×Unit)=>
 bif r_5.1.1.1 != r_6.1.1.1 then some (Sum.inr (Sum.inl ((false,()),(),())))
 else bif r_5.1.1.2.1 != r_6.1.1.2.1 then some (Sum.inr (Sum.inl ((false,()),(),())))
 else bif r_5.1.1.2.2.1 != r_6.1.1.2.2.1 then some (Sum.inr (Sum.inl ((false,()),(),())))
 else (F_audit_Good (((([((r.1.1.1.1.1,r.1.1.1.1.2.1,()),r.1.1.1.2.1,r.1.1.1.2.2.1,r.1.1.1.2.2.2.1,r.1.1.1.2.2.2.2.1,()),((r_1.1.1.1.1.1,r_1.1.1.1.1.2.1,()),r_1.1.1.1.2.1,r_1.1.1.1.2.2.1,r_1.1.1.1.2.2.2.1,r_1.1.1.1.2.2.2.2.1,()),((r_3.1.1.1.1.1,r_3.1.1.1.1.2.1,()),r_3.1.1.1.2.1,r_3.1.1.1.2.2.1,r_3.1.1.1.2.2.2.1,r_3.1.1.1.2.2.2.2.1,())].getD x.1.2.1.toNat H0).1.1,([((r.1.1.1.1.1,r.1.1.1.1.2.1,()),r.1.1.1.2.1,r.1.1.1.2.2.1,r.1.1.1.2.2.2.1,r.1.1.1.2.2.2.2.1,()),((r_1.1.1.1.1.1,r_1.1.1.1.1.2.1,()),r_1.1.1.1.2.1,r_1.1.1.1.2.2.1,r_1.1.1.1.2.2.2.1,r_1.1.1.1.2.2.2.2.1,()),((r_3.1.1.1.1.1,r_3.1.1.1.1.2.1,()),r_3.1.1.1.2.1,r_3.1.1.1.2.2.1,r_3.1.1.1.2.2.2.1,r_3.1.1.1.2.2.2.2.1,())].getD x.1.2.1.toNat H0).1.2.1,()),([((r.1.1.1.1.1,r.1.1.1.1.2.1,()),r.1.1.1.2.1,r.1.1.1.2.2.1,r.1.1.1.2.2.2.1,r.1.1.1.2.2.2.2.1,()),((r_1.1.1.1.1.1,r_1.1.1.1.1.2.1,()),r_1.1.1.1.2.1,r_1.1.1.1.2.2.1,r_1.1.1.1.2.2.2.1,r_1.1.1.1.2.2.2.2.1,()),((r_3.1.1.1.1.1,r_3.1.1.1.1.2.1,()),r_3.1.1.1.2.1,r_3.1.1.1.2.2.1,r_3.1.1.1.2.2.2.1,r_3.1.1.1.2.2.2.2.1,())].getD x.1.2.1.toNat H0).2.1,([((r.1.1.1.1.1,r.1.1.1.1.2.1,()),r.1.1.1.2.1,r.1.1.1.2.2.1,r.1.1.1.2.2.2.1,r.1.1.1.2.2.2.2.1,()),((r_1.1.1.1.1.1,r_1.1.1.1.1.2.1,()),r_1.1.1.1.2.1,r_1.1.1.1.2.2.1,r_1.1.1.1.2.2.2.1,r_1.1.1.1.2.2.2.2.1,()),((r_3.1.1.1.1.1,r_3.1.1.1.1.2.1,()),r_3.1.1.1.2.1,r_3.1.1.1.2.2.1,r_3.1.1.1.2.2.2.1,r_3.1.1.1.2.2.2.2.1,())].getD x.1.2.1.toNat H0).2.2.1,([((r.1.1.1.1.1,r.1.1.1.1.2.1,()),r.1.1.1.2.1,r.1.1.1.2.2.1,r.1.1.1.2.2.2.1,r.1.1.1.2.2.2.2.1,()),((r_1.1.1.1.1.1,r_1.1.1.1.1.2.1,()),r_1.1.1.1.2.1,r_1.1.1.1.2.2.1,r_1.1.1.1.2.2.2.1,r_1.1.1.1.2.2.2.2.1,()),((r_3.1.1.1.1.1,r_3.1.1.1.1.2.1,()),r_3.1.1.1.2.1,r_3.1.1.1.2.2.1,r_3.1.1.1.2.2.2.1,r_3.1.1.1.2.2.2.2.1,())].getD x.1.2.1.toNat H0).2.2.2.1,([((r.1.1.1.1.1,r.1.1.1.1.2.1,()),r.1.1.1.2.1,r.1.1.1.2.2.1,r.1.1.1.2.2.2.1,r.1.1.1.2.2.2.2.1,()),((r_1.1.1.1.1.1,r_1.1.1.1.1.2.1,()),r_1.1.1.1.2.1,r_1.1.1.1.2.2.1,r_1.1.1.1.2.2.2.1,r_1.1.1.1.2.2.2.2.1,()),((r_3.1.1.1.1.1,r_3.1.1.1.1.2.1,()),r_3.1.1.1.2.1,r_3.1.1.1.2.2.1,r_3.1.1.1.2.2.2.1,r_3.1.1.1.2.2.2.2.1,())].getD x.1.2.1.toNat H0).2.2.2.2.1,()),())).bind
 fun (r_7:(Bool×Unit)×Unit)=>(F_r09_Good (((([((r.1.1.1.1.1,r.1.1.1.1.2.1,()),r.1.1.1.2.1,r.1.1.1.2.2.1,r.1.1.1.2.2.2.1,r.1.1.1.2.2.2.2.1,()),((r_1.1.1.1.1.1,r_1.1.1.1.1.2.1,()),r_1.1.1.1.2.1,r_1.1.1.1.2.2.1,r_1.1.1.1.2.2.2.1,r_1.1.1.1.2.2.2.2.1,()),((r_3.1.1.1.1.1,r_3.1.1.1.1.2.1,()),r_3.1.1.1.2.1,r_3.1.1.1.2.2.1,r_3.1.1.1.2.2.2.1,r_3.1.1.1.2.2.2.2.1,())].getD x.1.2.1.toNat H0).1.1,([((r.1.1.1.1.1,r.1.1.1.1.2.1,()),r.1.1.1.2.1,r.1.1.1.2.2.1,r.1.1.1.2.2.2.1,r.1.1.1.2.2.2.2.1,()),((r_1.1.1.1.1.1,r_1.1.1.1.1.2.1,()),r_1.1.1.1.2.1,r_1.1.1.1.2.2.1,r_1.1.1.1.2.2.2.1,r_1.1.1.1.2.2.2.2.1,()),((r_3.1.1.1.1.1,r_3.1.1.1.1.2.1,()),r_3.1.1.1.2.1,r_3.1.1.1.2.2.1,r_3.1.1.1.2.2.2.1,r_3.1.1.1.2.2.2.2.1,())].getD x.1.2.1.toNat H0).1.2.1,()),([((r.1.1.1.1.1,r.1.1.1.1.2.1,()),r.1.1.1.2.1,r.1.1.1.2.2.1,r.1.1.1.2.2.2.1,r.1.1.1.2.2.2.2.1,()),((r_1.1.1.1.1.1,r_1.1.1.1.1.2.1,()),r_1.1.1.1.2.1,r_1.1.1.1.2.2.1,r_1.1.1.1.2.2.2.1,r_1.1.1.1.2.2.2.2.1,()),((r_3.1.1.1.1.1,r_3.1.1.1.1.2.1,()),r_3.1.1.1.2.1,r_3.1.1.1.2.2.1,r_3.1.1.1.2.2.2.1,r_3.1.1.1.2.2.2.2.1,())].getD x.1.2.1.toNat H0).2.1,([((r.1.1.1.1.1,r.1.1.1.1.2.1,()),r.1.1.1.2.1,r.1.1.1.2.2.1,r.1.1.1.2.2.2.1,r.1.1.1.2.2.2.2.1,()),((r_1.1.1.1.1.1,r_1.1.1.1.1.2.1,()),r_1.1.1.1.2.1,r_1.1.1.1.2.2.1,r_1.1.1.1.2.2.2.1,r_1.1.1.1.2.2.2.2.1,()),((r_3.1.1.1.1.1,r_3.1.1.1.1.2.1,()),r_3.1.1.1.2.1,r_3.1.1.1.2.2.1,r_3.1.1.1.2.2.2.1,r_3.1.1.1.2.2.2.2.1,())].getD x.1.2.1.toNat H0).2.2.1,([((r.1.1.1.1.1,r.1.1.1.1.2.1,()),r.1.1.1.2.1,r.1.1.1.2.2.1,r.1.1.1.2.2.2.1,r.1.1.1.2.2.2.2.1,()),((r_1.1.1.1.1.1,r_1.1.1.1.1.2.1,()),r_1.1.1.1.2.1,r_1.1.1.1.2.2.1,r_1.1.1.1.2.2.2.1,r_1.1.1.1.2.2.2.2.1,()),((r_3.1.1.1.1.1,r_3.1.1.1.1.2.1,()),r_3.1.1.1.2.1,r_3.1.1.1.2.2.1,r_3.1.1.1.2.2.2.1,r_3.1.1.1.2.2.2.2.1,())].getD x.1.2.1.toNat H0).2.2.2.1,([((r.1.1.1.1.1,r.1.1.1.1.2.1,()),r.1.1.1.2.1,r.1.1.1.2.2.1,r.1.1.1.2.2.2.1,r.1.1.1.2.2.2.2.1,()),((r_1.1.1.1.1.1,r_1.1.1.1.1.2.1,()),r_1.1.1.1.2.1,r_1.1.1.1.2.2.1,r_1.1.1.1.2.2.2.1,r_1.1.1.1.2.2.2.2.1,()),((r_3.1.1.1.1.1,r_3.1.1.1.1.2.1,()),r_3.1.1.1.2.1,r_3.1.1.1.2.2.1,r_3.1.1.1.2.2.2.1,r_3.1.1.1.2.2.2.2.1,())].getD x.1.2.1.toNat H0).2.2.2.2.1,()),())).bind
 fun (r:(Bool×Unit)×Unit)=>
 bif !r_7.1.1 == r.1.1 then some (Sum.inr (Sum.inl ((false,()),(),())))
 else some (Sum.inl ((x.1.1,W (x.1.2.1+1),()),(),()))
 else none
 else some (Sum.inr (Sum.inr ((x.1.1,()),(),())))) ((false,0,()),(),())).bind
 fun (r:(Bool×Unit)×Unit×Unit⊕(Bool×Unit)×Unit×Unit)=>Sum.elim (fun (x:(Bool×Unit)×Unit×Unit)=>some ((x.1.1,()),())) (fun (y:(Bool×Unit)×Unit×Unit)=>(F_l09_awake ()).bind
 fun (r:(Bool×Unit)×Unit)=>some ((r.1.1,()),())) r
 else none:=by
  unfold F_l09_AuditChecks
  funext d
  kernel_rfl
end Go.VI
namespace Go.VI
open Go
theorem zjs:F_r04_ValidConf=fun (d:(Int×Int×Unit)×Unit)=>
 bif bif decide (d.1.1 >= 16) then
 bif decide (d.1.1<=64) then !4 == 0
 else true
 else true then some ((bif decide (d.1.1 >= 16) then
 bif decide (d.1.1<=64) then
 bif d.1.1.tmod 4 == 0 then
 bif decide (d.1.2.1 >= 8) then decide (d.1.2.1<=64)
 else false
 else false
 else false
 else false,()),())
 else none:=by
  unfold F_r04_ValidConf
  funext d
  kernel_rfl
theorem ztk:F_r04_New=fun (d:(Int×Int×Unit)×Unit)=>(F_r04_ValidConf ((d.1.1,d.1.2.1,()),())).bind
 fun (r:(Bool×Unit)×Unit)=>
 bif !r.1.1 then some ((H0,1,()),())
 else bif decide (0<=W (d.1.2.1*d.1.1)/\W (d.1.2.1*d.1.1)<=W (d.1.2.1*d.1.1)) then
 bif zaJ (W (d.1.2.1*d.1.1)).toNat 8 then
 bif decide (0<=d.1.2.1/\d.1.2.1<=d.1.2.1) then
 bif zaJ d.1.2.1.toNat 32 then some ((((d.1.1,d.1.2.1,()),List.replicate (W (d.1.2.1*d.1.1)).toNat (0:Int),List.replicate d.1.2.1.toNat PG0,0,-1,()),0,()),())
 else none
 else none
 else none
 else none:=by
  unfold F_r04_New
  funext d
  kernel_rfl
theorem zqZ:F_r04_pins=fun (d:Int×Unit)=>some ((bif decide (d.1 >= 0) then decide (d.1<=2147483647)
 else false,()),()):=by
  unfold F_r04_pins
  funext d
  kernel_rfl
theorem zpg:F_r03_Valid=fun (d:(Int×Int×Int×Unit)×Unit)=>
 bif bif decide (d.1.1<0) then true
 else bif decide (d.1.1 > 3) then true
 else bif decide (d.1.2.1<0) then true
 else decide (d.1.2.1 > 255) then some ((false,()),())
 else bif d.1.1 != 1 then some ((d.1.2.2.1 == 0,()),())
 else bif
 bif decide (d.1.2.1<=32) then !decide (U d.1.2.1<0)
 else true then some ((bif decide (d.1.2.1<=32) then decide (U d.1.2.2.1<U (1*2 ^ min (U d.1.2.1).toNat IntKind.u64.bits))
 else false,()),())
 else none:=by
  unfold F_r03_Valid
  funext d
  kernel_rfl
theorem zq2:F_r03_Size=fun (d:(Int×Int×Int×Unit)×Unit)=>(F_r03_Valid ((d.1.1,d.1.2.1,d.1.2.2.1,()),())).bind
 fun (r:(Bool×Unit)×Unit)=>
 bif !r.1.1 then some ((0,()),())
 else some ((W (d.1.2.1+1),()),()):=by
  unfold F_r03_Size
  funext d
  kernel_rfl
theorem zpf:F_r04_First=fun (d:(List PgD)×Int×Unit)=>(F_r04_Runs (d.1,())).bind
 fun (r:(List (Int×Int×Unit)×Unit)×Unit)=>(rl ((Int×Int×Unit)×Unit×Unit) ((Int×Unit)×Unit×Unit⊕(Int×Unit)×Unit×Unit) (fun (x:(Int×Int×Unit)×Unit×Unit)=>
 bif decide (x.1.2.1<(r.1.1.length:Int)) then
 bif bif decide (d.2.1 >= 1) then inB x.1.2.1 r.1.1.length
 else true then
 bif bif
 bif decide (d.2.1 >= 1) then decide ((r.1.1.getD x.1.2.1.toNat (0,0,())).2.1 >= d.2.1)
 else false then inB x.1.2.1 r.1.1.length
 else true then
 bif bif decide (d.2.1 >= 1) then decide ((r.1.1.getD x.1.2.1.toNat (0,0,())).2.1 >= d.2.1)
 else false then some (Sum.inr (Sum.inl (((r.1.1.getD x.1.2.1.toNat (0,0,())).1,()),(),())))
 else some (Sum.inl ((x.1.1,W (x.1.2.1+1),()),(),()))
 else none
 else none
 else some (Sum.inr (Sum.inr ((x.1.1,()),(),())))) ((0,0,()),(),())).bind
 fun (r:(Int×Unit)×Unit×Unit⊕(Int×Unit)×Unit×Unit)=>Sum.elim (fun (x:(Int×Unit)×Unit×Unit)=>some ((x.1.1,()),())) (fun (y:(Int×Unit)×Unit×Unit)=>some ((-1,()),())) r:=by
  unfold F_r04_First
  funext d
  kernel_rfl
theorem zo8:F_r07_small=fun (d:((Int×Int×Unit)×List Int×(List PgD)×Int×Int×Unit)×Int×Unit)=>
 bif zaJ (0+d.1.2.2.1.length) 32 then (F_r04_Limit ((d.1.1.1,d.1.1.2.1,()),())).bind
 fun (r:(Int×Unit)×Unit)=>(F_r04_InUse (d.1.2.2.1,())).bind
 fun (r_1:(Int×Unit)×Unit)=>
 bif bif decide (d.1.2.2.2.2.1<0) then true
 else inB d.1.2.2.2.2.1 (d.1.2.2.1).length then
 bif bif decide (d.1.2.2.2.2.1<0) then true
 else bif ((d.1.2.2.1).getD d.1.2.2.2.2.1.toNat PG0).2.1 != d.1.2.2.2.1 then true
 else inB d.1.2.2.2.2.1 (d.1.2.2.1).length then
 bif bif decide (d.1.2.2.2.2.1<0) then true
 else bif ((d.1.2.2.1).getD d.1.2.2.2.2.1.toNat PG0).2.1 != d.1.2.2.2.1 then true
 else bif decide (W (((d.1.2.2.1).getD d.1.2.2.2.2.1.toNat PG0).2.2.1+d.2.1) > d.1.1.1) then true
 else decide (r_1.1.1 > r.1.1) then (F_r04_First (d.1.2.2.1,1,())).bind
 fun (r_2:(Int×Unit)×Unit)=>
 bif bif decide (r_2.1.1<0) then true
 else decide (r_1.1.1 >= r.1.1) then some ((H0,0,false,()),())
 else (F_r04_Small_o (d.1.2.2.1,r_2.1.1,d.1.2.2.2.1,())).bind
 fun (r:(List PgD×Int×Unit)×Unit)=>
 bif inB r_2.1.1 r.1.1.length then
 bif inB r_2.1.1 r.1.1.length then
 bif inB r_2.1.1 r.1.1.length then some ((((d.1.1.1,d.1.1.2.1,()),d.1.2.1,r.1.1.set r_2.1.1.toNat ((r.1.1.getD r_2.1.1.toNat PG0).1,(r.1.1.getD r_2.1.1.toNat PG0).2.1,W ((r.1.1.getD r_2.1.1.toNat PG0).2.2.1+d.2.1),(r.1.1.getD r_2.1.1.toNat PG0).2.2.2.1,()),d.1.2.2.2.1,r_2.1.1,()),U (W (W (4096+W (r_2.1.1*d.1.1.1))+(r.1.1.getD r_2.1.1.toNat PG0).2.2.1)),true,()),())
 else none
 else none
 else none
 else bif inB d.1.2.2.2.2.1 (d.1.2.2.1).length then
 bif inB d.1.2.2.2.2.1 (d.1.2.2.1).length then
 bif inB d.1.2.2.2.2.1 (d.1.2.2.1).length then some ((((d.1.1.1,d.1.1.2.1,()),d.1.2.1,(d.1.2.2.1).set d.1.2.2.2.2.1.toNat (((d.1.2.2.1).getD d.1.2.2.2.2.1.toNat PG0).1,((d.1.2.2.1).getD d.1.2.2.2.2.1.toNat PG0).2.1,W (((d.1.2.2.1).getD d.1.2.2.2.2.1.toNat PG0).2.2.1+d.2.1),((d.1.2.2.1).getD d.1.2.2.2.2.1.toNat PG0).2.2.2.1,()),d.1.2.2.2.1,d.1.2.2.2.2.1,()),U (W (W (4096+W (d.1.2.2.2.2.1*d.1.1.1))+((d.1.2.2.1).getD d.1.2.2.2.2.1.toNat PG0).2.2.1)),true,()),())
 else none
 else none
 else none
 else none
 else none
 else none:=by
  unfold F_r07_small
  funext d
  kernel_rfl
theorem zqY:F_r04_take=fun (d:(List PgD)×Int×Int×PgD×PgD×Unit)=>
 bif bif decide (d.2.1<0) then true
 else bif decide (d.2.1 >= (d.1.length:Int)) then true
 else decide (d.2.2.1 > W ((d.1.length:Int)-d.2.1)) then some (([],2,()),())
 else bif zaJ (0+d.1.length) 32 then (rl ((List PgD×Int×Int×Unit)×Unit×List PgD×Unit) ((List PgD×Int×Unit)×Unit×List PgD×Unit⊕(List PgD×Int×Unit)×Unit×List PgD×Unit) (fun (x:(List PgD×Int×Int×Unit)×Unit×List PgD×Unit)=>
 bif decide (x.1.2.2.1<d.2.2.1) then
 bif inB (W (d.2.1+x.1.2.2.1)) x.2.2.1.length then
 bif (x.2.2.1.getD (W (d.2.1+x.1.2.2.1)).toNat PG0).1 != 0 then some (Sum.inr (Sum.inl (([],20,()),(),x.2.2.1,())))
 else bif inB (W (d.2.1+x.1.2.2.1)) x.2.2.1.length then some (Sum.inl ((x.1.1,x.1.2.1,W (x.1.2.2.1+1),()),(),x.2.2.1.set (W (d.2.1+x.1.2.2.1)).toNat (d.2.2.2.2.1.1,d.2.2.2.2.1.2.1,d.2.2.2.2.1.2.2.1,d.2.2.2.2.1.2.2.2.1,()),()))
 else none
 else none
 else some (Sum.inr (Sum.inr ((x.1.1,x.1.2.1,()),(),x.2.2.1,())))) (([],0,0,()),(),d.1,())).bind
 fun (r:(List PgD×Int×Unit)×Unit×List PgD×Unit⊕(List PgD×Int×Unit)×Unit×List PgD×Unit)=>Sum.elim (fun (x:(List PgD×Int×Unit)×Unit×List PgD×Unit)=>some ((x.1.1,x.1.2.1,()),())) (fun (y:(List PgD×Int×Unit)×Unit×List PgD×Unit)=>
 bif inB d.2.1 y.2.2.1.length then some ((y.2.2.1.set d.2.1.toNat (d.2.2.2.1.1,d.2.2.2.1.2.1,d.2.2.2.1.2.2.1,d.2.2.2.1.2.2.2.1,()),0,()),())
 else none) r
 else none:=by
  unfold F_r04_take
  funext d
  kernel_rfl
theorem znE:F_r03_Decode=fun (d:Int×Unit)=>
 bif !decide (2<0) then
 bif !decide (4<0) then
 bif !decide (16<0) then (F_r03_Encode ((W (zcx IntKind.u64 (fun (x1 x2:BitVec IntKind.u64.bits)=>x1 &&& x2) (d.1.fdiv (2 ^ min (Int.toNat 2) IntKind.u64.bits)) 3),W (zcx IntKind.u64 (fun (x1 x2:BitVec IntKind.u64.bits)=>x1 &&& x2) (d.1.fdiv (2 ^ min (Int.toNat 4) IntKind.u64.bits)) 4095),U32 (d.1.fdiv (2 ^ min (Int.toNat 16) IntKind.u64.bits)),()),())).bind
 fun (r:(Int×Int×Unit)×Unit)=>
 bif bif r.1.2.1 != 0 then true
 else r.1.1 != d.1 then some (((0,0,0,()),false,()),())
 else some (((W (zcx IntKind.u64 (fun (x1 x2:BitVec IntKind.u64.bits)=>x1 &&& x2) (d.1.fdiv (2 ^ min (Int.toNat 2) IntKind.u64.bits)) 3),W (zcx IntKind.u64 (fun (x1 x2:BitVec IntKind.u64.bits)=>x1 &&& x2) (d.1.fdiv (2 ^ min (Int.toNat 4) IntKind.u64.bits)) 4095),U32 (d.1.fdiv (2 ^ min (Int.toNat 16) IntKind.u64.bits)),()),true,()),())
 else none
 else none
 else none:=by
  unfold F_r03_Decode
  funext d
  kernel_rfl
theorem zlS:F_r03_Pointer=fun (d:(Int×Int×Int×Unit)×Int×Unit)=>(F_r03_Valid ((d.1.1,d.1.2.1,d.1.2.2.1,()),())).bind
 fun (r:(Bool×Unit)×Unit)=>
 bif bif !r.1.1 then true
 else bif decide (d.2.1<0) then true
 else decide (d.2.1 >= d.1.2.1) then some ((false,()),())
 else bif
 bif d.1.1 == 2 then true
 else bif d.1.1 == 1 then !decide (U d.2.1<0)
 else true then some ((bif d.1.1 == 2 then true
 else bif d.1.1 == 1 then zcx IntKind.u32 (fun (x1 x2:BitVec IntKind.u32.bits)=>x1 &&& x2) (d.1.2.2.1.fdiv (2 ^ min (U d.2.1).toNat IntKind.u32.bits)) 1 == 1
 else false,()),())
 else none:=by
  unfold F_r03_Pointer
  funext d
  kernel_rfl
theorem zgX:F_made_World_Drop=fun (d:(((Int×Int×Unit)×List Int×(List PgD)×Int×Int×Unit)×List Int×List Int×Unit)×(List Int×Int×Unit)×Unit)=>
 bif decide ((d.1.2.1.length:Int) > 0) then (F_made_Tape_Next ((d.2.1.1,d.2.1.2.1,()),(d.1.2.1.length:Int),())).bind
 fun (r:(Int×Unit)×(List Int×Int×Unit)×Unit)=>(F_made_Tape_Next ((r.2.1.1,r.2.1.2.1,()),3,())).bind
 fun (r_1:(Int×Unit)×(List Int×Int×Unit)×Unit)=>
 bif bif r_1.1.1 == 0 then zaJ (0+d.1.2.2.1.length) 8
 else true then
 bif bif r_1.1.1 == 0 then inB r.1.1 d.1.2.1.length
 else true then
 bif bif r_1.1.1 == 0 then zaJ ((d.1.2.2.1).length + [d.1.2.1.getD r.1.1.toNat 0].length) 8
 else true then
 bif r_1.1.1 == 0 then
 bif decide ((0:Int)<=0/\0<=r.1.1/\r.1.1<=(d.1.2.1.length:Int)) then
 bif zaJ (0+(List.drop (Int.toNat 0) (List.take r.1.1.toNat d.1.2.1)).length) 8 then
 bif decide (0<=W (r.1.1+1)/\W (r.1.1+1)<=(d.1.2.1.length:Int)/\(d.1.2.1.length:Int)<=(d.1.2.1.length:Int)) then
 bif zaJ ((List.drop (Int.toNat 0) (List.take r.1.1.toNat d.1.2.1)).length+(List.drop (W (r.1.1+1)).toNat (List.take ((d.1.2.1.length:Int)).toNat d.1.2.1)).length) 8 then some (((((d.1.1.1.1,d.1.1.1.2.1,()),d.1.1.2.1,d.1.1.2.2.1,d.1.1.2.2.2.1,d.1.1.2.2.2.2.1,()),List.drop (Int.toNat 0) (List.take r.1.1.toNat d.1.2.1)++List.drop (W (r.1.1+1)).toNat (List.take ((d.1.2.1.length:Int)).toNat d.1.2.1),d.1.2.2.1++[d.1.2.1.getD r.1.1.toNat 0],()),()),(r_1.2.1.1,r_1.2.1.2.1,()),())
 else none
 else none
 else none
 else none
 else bif decide ((0:Int)<=0/\0<=r.1.1/\r.1.1<=(d.1.2.1.length:Int)) then
 bif zaJ (0+(List.drop (Int.toNat 0) (List.take r.1.1.toNat d.1.2.1)).length) 8 then
 bif decide (0<=W (r.1.1+1)/\W (r.1.1+1)<=(d.1.2.1.length:Int)/\(d.1.2.1.length:Int)<=(d.1.2.1.length:Int)) then
 bif zaJ ((List.drop (Int.toNat 0) (List.take r.1.1.toNat d.1.2.1)).length+(List.drop (W (r.1.1+1)).toNat (List.take ((d.1.2.1.length:Int)).toNat d.1.2.1)).length) 8 then some (((((d.1.1.1.1,d.1.1.1.2.1,()),d.1.1.2.1,d.1.1.2.2.1,d.1.1.2.2.2.1,d.1.1.2.2.2.2.1,()),List.drop (Int.toNat 0) (List.take r.1.1.toNat d.1.2.1)++List.drop (W (r.1.1+1)).toNat (List.take ((d.1.2.1.length:Int)).toNat d.1.2.1),d.1.2.2.1,()),()),(r_1.2.1.1,r_1.2.1.2.1,()),())
 else none
 else none
 else none
 else none
 else none
 else none
 else none
 else some (((((d.1.1.1.1,d.1.1.1.2.1,()),d.1.1.2.1,d.1.1.2.2.1,d.1.1.2.2.2.1,d.1.1.2.2.2.2.1,()),d.1.2.1,d.1.2.2.1,()),()),(d.2.1.1,d.2.1.2.1,()),()):=by
  unfold F_made_World_Drop
  funext d
  kernel_rfl
theorem zo6:F_r09_class=fun (d:((Int×Int×Unit)×List Int×(List PgD)×Int×Int×Unit)×Int×List Int×Unit)=>(rl ((Int×Int×Unit)×Unit×Unit) ((Int×Unit)×Unit×Unit⊕(Int×Unit)×Unit×Unit) (fun (x:(Int×Int×Unit)×Unit×Unit)=>
 bif decide (x.1.2.1<(d.2.2.1.length:Int)) then
 bif inB x.1.2.1 d.2.2.1.length then (F_r05_At (((d.1.1.1,d.1.1.2.1,()),d.1.2.1,d.1.2.2.1,d.1.2.2.2.1,d.1.2.2.2.2.1,()),d.2.2.1.getD x.1.2.1.toNat 0,())).bind
 fun (r:((Int×Int×Int×Unit)×Int×Unit)×Unit)=>(F_r03_Size ((r.1.1.1,r.1.1.2.1,r.1.1.2.2.1,()),())).bind
 fun (r_1:(Int×Unit)×Unit)=>(F_r04_SmallWords ((d.1.1.1,d.1.1.2.1,()),())).bind
 fun (r_2:(Int×Unit)×Unit)=>
 bif inB d.2.1 d.1.2.2.1.length then
 bif bif (d.1.2.2.1.getD d.2.1.toNat PG0).1 == 1 then
 bif !decide (r_1.1.1<=r_2.1.1) then true
 else inB d.2.1 d.1.2.2.1.length
 else true then
 bif bif (d.1.2.2.1.getD d.2.1.toNat PG0).1 == 1 then true
 else inB d.2.1 d.1.2.2.1.length then
 bif bif
 bif (d.1.2.2.1.getD d.2.1.toNat PG0).1 == 1 then
 bif !decide (r_1.1.1<=r_2.1.1) then true
 else bif (d.1.2.2.1.getD d.2.1.toNat PG0).1 == 2 then r.1.1.1 == 0
 else false
 else bif (d.1.2.2.1.getD d.2.1.toNat PG0).1 == 2 then r.1.1.1 == 0
 else false then inB x.1.2.1 d.2.2.1.length
 else true then
 bif bif (d.1.2.2.1.getD d.2.1.toNat PG0).1 == 1 then
 bif !decide (r_1.1.1<=r_2.1.1) then true
 else bif (d.1.2.2.1.getD d.2.1.toNat PG0).1 == 2 then r.1.1.1 == 0
 else false
 else bif (d.1.2.2.1.getD d.2.1.toNat PG0).1 == 2 then r.1.1.1 == 0
 else false then some (Sum.inr (Sum.inl ((d.2.2.1.getD x.1.2.1.toNat 0,()),(),())))
 else some (Sum.inl ((x.1.1,W (x.1.2.1+1),()),(),()))
 else none
 else none
 else none
 else none
 else none
 else some (Sum.inr (Sum.inr ((x.1.1,()),(),())))) ((0,0,()),(),())).bind
 fun (r:(Int×Unit)×Unit×Unit⊕(Int×Unit)×Unit×Unit)=>Sum.elim (fun (x:(Int×Unit)×Unit×Unit)=>some ((x.1.1,()),())) (fun (y:(Int×Unit)×Unit×Unit)=>some ((0,()),())) r:=by
  unfold F_r09_class
  funext d
  kernel_rfl
theorem zqQ:F_r09_head=fun (d:((Int×Int×Unit)×List Int×(List PgD)×Int×Int×Unit)×Int×Unit)=>(rl ((Int×Unit)×Unit×Unit) ((Int×Unit)×Unit×Unit) (fun (x:(Int×Unit)×Unit×Unit)=>
 bif inB x.1.1 d.1.2.2.1.length then
 bif (d.1.2.2.1.getD x.1.1.toNat PG0).1 == 3 then some (Sum.inl ((W (x.1.1-1),()),(),()))
 else some (Sum.inr ((x.1.1,()),(),()))
 else none) ((d.2.1,()),(),())).bind
 fun (r:(Int×Unit)×Unit×Unit)=>some ((r.1.1,()),()):=by
  unfold F_r09_head
  funext d
  kernel_rfl
theorem zqO:F_r09_used=fun (d:((Int×Int×Unit)×List Int×(List PgD)×Int×Int×Unit)×Int×List Int×Unit)=>
 bif decide (0<=d.1.1.1/\d.1.1.1<=d.1.1.1) then
 bif zaJ d.1.1.1.toNat 1 then (rl ((Int×Unit)×Unit×List Bool×Unit) (Unit×Unit×List Bool×Unit) (fun (x:(Int×Unit)×Unit×List Bool×Unit)=>
 bif decide (x.1.1<(d.2.2.1.length:Int)) then
 bif inB x.1.1 d.2.2.1.length then (F_r05_At (((d.1.1.1,d.1.1.2.1,()),d.1.2.1,d.1.2.2.1,d.1.2.2.2.1,d.1.2.2.2.2.1,()),d.2.2.1.getD x.1.1.toNat 0,())).bind
 fun (r:((Int×Int×Int×Unit)×Int×Unit)×Unit)=>(F_r03_Size ((r.1.1.1,r.1.1.2.1,r.1.1.2.2.1,()),())).bind
 fun (r_1:(Int×Unit)×Unit)=>(rl ((Int×Unit)×Unit×List Bool×Unit) (Unit×Unit×List Bool×Unit) (fun (x_1:(Int×Unit)×Unit×List Bool×Unit)=>
 bif decide (x_1.1.1 <
 bif r.1.1.1 == 0 then 1
 else r_1.1.1) then
 bif inB x.1.1 d.2.2.1.length then
 bif bif
 bif decide (W (W (W (W (d.2.2.1.getD x.1.1.toNat 0)-4096)+x_1.1.1)-W (d.2.1*d.1.1.1)) >= 0) then decide (W (W (W (W (d.2.2.1.getD x.1.1.toNat 0)-4096)+x_1.1.1)-W (d.2.1*d.1.1.1))<(x_1.2.2.1.length:Int))
 else false then inB (W (W (W (W (d.2.2.1.getD x.1.1.toNat 0)-4096)+x_1.1.1)-W (d.2.1*d.1.1.1))) x_1.2.2.1.length
 else true then
 bif bif decide (W (W (W (W (d.2.2.1.getD x.1.1.toNat 0)-4096)+x_1.1.1)-W (d.2.1*d.1.1.1)) >= 0) then decide (W (W (W (W (d.2.2.1.getD x.1.1.toNat 0)-4096)+x_1.1.1)-W (d.2.1*d.1.1.1))<(x_1.2.2.1.length:Int))
 else false then some (Sum.inl ((W (x_1.1.1+1),()),(),x_1.2.2.1.set (W (W (W (W (d.2.2.1.getD x.1.1.toNat 0)-4096)+x_1.1.1)-W (d.2.1*d.1.1.1))).toNat true,()))
 else some (Sum.inl ((W (x_1.1.1+1),()),(),x_1.2.2.1,()))
 else none
 else none
 else some (Sum.inr ((),(),x_1.2.2.1,()))) ((0,()),(),x.2.2.1,())).bind
 fun (r:Unit×Unit×List Bool×Unit)=>some (Sum.inl ((W (x.1.1+1),()),(),r.2.2.1,()))
 else none
 else some (Sum.inr ((),(),x.2.2.1,()))) ((0,()),(),List.replicate d.1.1.1.toNat false,())).bind
 fun (r:Unit×Unit×List Bool×Unit)=>some ((r.2.2.1,()),())
 else none
 else none:=by
  unfold F_r09_used
  funext d
  kernel_rfl
theorem zqU:F_r06_word=fun (d:((Int×Int×Unit)×List Int×(List PgD)×Int×Int×Unit)×Int×Int×Unit)=>(F_r04_Address ((d.1.1.1,d.1.1.2.1,()),d.2.1,d.2.2.1,())).bind
 fun (r:(Int×Int×Unit)×Unit)=>(F_r02_Load (d.1.2.1,r.1.1,())).bind
 fun (r:(Int×Int×Unit)×Unit)=>some ((r.1.1,()),()):=by
  unfold F_r06_word
  funext d
  kernel_rfl
theorem zlO:F_r09_address=fun (d:((Int×Int×Unit)×List Int×(List PgD)×Int×Int×Unit)×Int×Int×Unit)=>some ((U (W (W (4096+W (d.2.1*d.1.1.1))+d.2.2.1)),()),()):=by
 unfold F_r09_address
 funext d
 kernel_rfl
theorem zqR:F_r09_dirt=fun (d:((Int×Int×Unit)×List Int×(List PgD)×Int×Int×Unit)×Int×Unit)=>(F_r09_head (((d.1.1.1,d.1.1.2.1,()),d.1.2.1,d.1.2.2.1,d.1.2.2.2.1,d.1.2.2.2.2.1,()),d.2.1,())).bind
 fun (r:(Int×Unit)×Unit)=>(F_r06_Page (((d.1.1.1,d.1.1.2.1,()),d.1.2.1,d.1.2.2.1,d.1.2.2.2.1,d.1.2.2.2.2.1,()),r.1.1,())).bind
 fun (r:(List Int×Int×Unit)×Unit)=>(F_r09_used (((d.1.1.1,d.1.1.2.1,()),d.1.2.1,d.1.2.2.1,d.1.2.2.2.1,d.1.2.2.2.2.1,()),d.2.1,r.1.1,())).bind
 fun (r:(List Bool×Unit)×Unit)=>(rl ((Int×Int×Unit)×Unit×Unit) ((Int×Unit)×Unit×Unit⊕(Int×Unit)×Unit×Unit) (fun (x:(Int×Int×Unit)×Unit×Unit)=>
 bif decide (x.1.2.1<(r.1.1.length:Int)) then
 bif inB x.1.2.1 r.1.1.length then
 bif !r.1.1.getD x.1.2.1.toNat false then (F_r06_Word (((d.1.1.1,d.1.1.2.1,()),d.1.2.1,d.1.2.2.1,d.1.2.2.2.1,d.1.2.2.2.2.1,()),d.2.1,x.1.2.1,())).bind
 fun (r:(Int×Unit)×Unit)=>
 bif r.1.1 != 0 then (F_r09_address (((d.1.1.1,d.1.1.2.1,()),d.1.2.1,d.1.2.2.1,d.1.2.2.2.1,d.1.2.2.2.2.1,()),d.2.1,x.1.2.1,())).bind
 fun (r:(Int×Unit)×Unit)=>some (Sum.inr (Sum.inl ((r.1.1,()),(),())))
 else some (Sum.inl ((x.1.1,W (x.1.2.1+1),()),(),()))
 else some (Sum.inl ((x.1.1,W (x.1.2.1+1),()),(),()))
 else none
 else some (Sum.inr (Sum.inr ((x.1.1,()),(),())))) ((0,0,()),(),())).bind
 fun (r:(Int×Unit)×Unit×Unit⊕(Int×Unit)×Unit×Unit)=>Sum.elim (fun (x:(Int×Unit)×Unit×Unit)=>some ((x.1.1,()),())) (fun (y:(Int×Unit)×Unit×Unit)=>some ((0,()),())) r:=by
  unfold F_r09_dirt
  funext d
  kernel_rfl
theorem zlP:F_r06_Objects=fun (d:((Int×Int×Unit)×List Int×(List PgD)×Int×Int×Unit)×Unit)=>(F_r06_Starts (((d.1.1.1,d.1.1.2.1,()),d.1.2.1,d.1.2.2.1,d.1.2.2.2.1,d.1.2.2.2.2.1,()),())).bind
 fun (r:(List Int×Int×Unit)×Unit)=>(rl ((Unit×Int×Unit)×(List Int×Unit)×Unit) ((Unit×Unit)×(List Int×Unit)×Unit) (fun (x:(Unit×Int×Unit)×(List Int×Unit)×Unit)=>
 bif decide (x.1.2.1<(r.1.1.length:Int)) then
 bif inB x.1.2.1 r.1.1.length then (F_r05_At (((d.1.1.1,d.1.1.2.1,()),d.1.2.1,d.1.2.2.1,d.1.2.2.2.1,d.1.2.2.2.2.1,()),r.1.1.getD x.1.2.1.toNat 0,())).bind
 fun (r_1:((Int×Int×Int×Unit)×Int×Unit)×Unit)=>
 bif bif r_1.1.1.1 != 0 then inB x.1.2.1 r.1.1.length
 else true then
 bif bif r_1.1.1.1 != 0 then zaJ (x.2.1.1.length + [r.1.1.getD x.1.2.1.toNat 0].length) 8
 else true then
 bif r_1.1.1.1 != 0 then some (Sum.inl (((),W (x.1.2.1+1),()),(x.2.1.1++[r.1.1.getD x.1.2.1.toNat 0],()),()))
 else some (Sum.inl (((),W (x.1.2.1+1),()),(x.2.1.1,()),()))
 else none
 else none
 else none
 else some (Sum.inr (((),()),(x.2.1.1,()),()))) (((),0,()),([],()),())).bind
 fun (r_1:(Unit×Unit)×(List Int×Unit)×Unit)=>some ((r_1.2.1.1,r.1.2.1,()),()):=by
  unfold F_r06_Objects
  funext d
  kernel_rfl
theorem zti:F_r06_Has=fun (d:List Int×Int×Unit)=>(rl ((Bool×Int×Unit)×Unit×Unit) ((Bool×Unit)×Unit×Unit⊕(Bool×Unit)×Unit×Unit) (fun (x:(Bool×Int×Unit)×Unit×Unit)=>
 bif decide (x.1.2.1<(d.1.length:Int)) then
 bif inB x.1.2.1 d.1.length then
 bif d.1.getD x.1.2.1.toNat 0 == d.2.1 then some (Sum.inr (Sum.inl ((true,()),(),())))
 else some (Sum.inl ((x.1.1,W (x.1.2.1+1),()),(),()))
 else none
 else some (Sum.inr (Sum.inr ((x.1.1,()),(),())))) ((false,0,()),(),())).bind
 fun (r:(Bool×Unit)×Unit×Unit⊕(Bool×Unit)×Unit×Unit)=>Sum.elim (fun (x:(Bool×Unit)×Unit×Unit)=>some ((x.1.1,()),())) (fun (y:(Bool×Unit)×Unit×Unit)=>some ((false,()),())) r:=by
  unfold F_r06_Has
  funext d
  kernel_rfl
theorem zo5:F_r10_Begin=fun (d:((Int×Int×Unit)×List Int×(List PgD)×Int×Int×Unit)×Unit)=>(F_r04_Proper (((d.1.1.1,d.1.1.2.1,()),d.1.2.1,d.1.2.2.1,d.1.2.2.2.1,d.1.2.2.2.2.1,()),())).bind
 fun (r:(Bool×Unit)×Unit)=>
 bif !r.1.1 then some (((H0,[],[],[],0,(0,0,0,0,0,0,()),()),1,()),())
 else (F_r09_Good (((d.1.1.1,d.1.1.2.1,()),d.1.2.1,d.1.2.2.1,d.1.2.2.2.1,d.1.2.2.2.2.1,()),())).bind
 fun (r:(Bool×Unit)×Unit)=>
 bif !r.1.1 then some (((H0,[],[],[],0,(0,0,0,0,0,0,()),()),19,()),())
 else (F_r06_Objects (((d.1.1.1,d.1.1.2.1,()),d.1.2.1,d.1.2.2.1,d.1.2.2.2.1,d.1.2.2.2.2.1,()),())).bind
 fun (r:(List Int×Int×Unit)×Unit)=>
 bif zaJ (0+d.1.2.2.1.length) 32 then (rl ((Int×Unit)×Unit×List PgD×Unit) (Unit×Unit×List PgD×Unit) (fun (x:(Int×Unit)×Unit×List PgD×Unit)=>
 bif decide (x.1.1<(x.2.2.1.length:Int)) then
 bif inB x.1.1 x.2.2.1.length then
 bif bif
 bif (x.2.2.1.getD x.1.1.toNat PG0).1 == 1 then decide ((x.2.2.1.getD x.1.1.toNat PG0).2.2.2.1 > 0)
 else false then inB x.1.1 x.2.2.1.length
 else true then
 bif bif (x.2.2.1.getD x.1.1.toNat PG0).1 == 1 then decide ((x.2.2.1.getD x.1.1.toNat PG0).2.2.2.1 > 0)
 else false then some (Sum.inl ((W (x.1.1+1),()),(),x.2.2.1.set x.1.1.toNat ((x.2.2.1.getD x.1.1.toNat PG0).1,W (1-d.1.2.2.2.1),(x.2.2.1.getD x.1.1.toNat PG0).2.2.1,(x.2.2.1.getD x.1.1.toNat PG0).2.2.2.1,()),()))
 else some (Sum.inl ((W (x.1.1+1),()),(),x.2.2.1,()))
 else none
 else none
 else some (Sum.inr ((),(),x.2.2.1,()))) ((0,()),(),d.1.2.2.1,())).bind
 fun (r_1:Unit×Unit×List PgD×Unit)=>some (((((d.1.1.1,d.1.1.2.1,()),d.1.2.1,r_1.2.2.1,d.1.2.2.2.1,d.1.2.2.2.2.1,()),r.1.1,[],[],0,(0,0,0,0,0,0,()),()),0,()),())
 else none:=by
  unfold F_r10_Begin
  funext d
  kernel_rfl
theorem zkv:F_r10_Promoted=fun (d:(((Int×Int×Unit)×List Int×(List PgD)×Int×Int×Unit)×List Int×List Int×List Int×Int×(Int×Int×Int×Int×Int×Int×Unit)×Unit)×Int×Unit)=>
 bif bif decide (d.2.1<0) then true
 else decide (d.2.1 >= (d.1.1.2.2.1.length:Int)) then some ((false,()),())
 else bif inB d.2.1 d.1.1.2.2.1.length then
 bif (d.1.1.2.2.1.getD d.2.1.toNat PG0).1 == 1 then
 bif (d.1.1.2.2.1.getD d.2.1.toNat PG0).2.1 != d.1.1.2.2.2.1 then (F_r10_taken ((((d.1.1.1.1,d.1.1.1.2.1,()),d.1.1.2.1,d.1.1.2.2.1,d.1.1.2.2.2.1,d.1.1.2.2.2.2.1,()),d.1.2.1,d.1.2.2.1,d.1.2.2.2.1,d.1.2.2.2.2.1,(d.1.2.2.2.2.2.1.1,d.1.2.2.2.2.2.1.2.1,d.1.2.2.2.2.2.1.2.2.1,d.1.2.2.2.2.2.1.2.2.2.1,d.1.2.2.2.2.2.1.2.2.2.2.1,d.1.2.2.2.2.2.1.2.2.2.2.2.1,()),()),d.2.1,())).bind
 fun (r:(Bool×Unit)×Unit)=>some ((!r.1.1,()),())
 else some ((false,()),())
 else some ((false,()),())
 else none:=by
  unfold F_r10_Promoted
  funext d
  kernel_rfl
theorem zqM:F_r11_Step=fun (d:(((Int×Int×Unit)×List Int×(List PgD)×Int×Int×Unit)×List Int×List Int×List Int×Int×(Int×Int×Int×Int×Int×Int×Unit)×Unit)×Unit)=>
 bif decide (d.1.2.2.2.2.1 >= (d.1.2.2.2.1.length:Int)) then some (((((d.1.1.1.1,d.1.1.1.2.1,()),d.1.1.2.1,d.1.1.2.2.1,d.1.1.2.2.2.1,d.1.1.2.2.2.2.1,()),d.1.2.1,d.1.2.2.1,d.1.2.2.2.1,d.1.2.2.2.2.1,(d.1.2.2.2.2.2.1.1,d.1.2.2.2.2.2.1.2.1,d.1.2.2.2.2.2.1.2.2.1,d.1.2.2.2.2.2.1.2.2.2.1,d.1.2.2.2.2.2.1.2.2.2.2.1,d.1.2.2.2.2.2.1.2.2.2.2.2.1,()),()),false,0,()),())
 else bif inB d.1.2.2.2.2.1 d.1.2.2.2.1.length then (F_r10_Get ((((d.1.1.1.1,d.1.1.1.2.1,()),d.1.1.2.1,d.1.1.2.2.1,d.1.1.2.2.2.1,d.1.1.2.2.2.2.1,()),d.1.2.1,d.1.2.2.1,d.1.2.2.2.1,d.1.2.2.2.2.1,(d.1.2.2.2.2.2.1.1,d.1.2.2.2.2.2.1.2.1,d.1.2.2.2.2.2.1.2.2.1,d.1.2.2.2.2.2.1.2.2.2.1,d.1.2.2.2.2.2.1.2.2.2.2.1,d.1.2.2.2.2.2.1.2.2.2.2.2.1,()),()),d.1.2.2.2.1.getD d.1.2.2.2.2.1.toNat 0,())).bind
 fun (r:((Int×Int×Int×Unit)×Unit)×Unit)=>(F_r03_Pointers ((r.1.1.1,r.1.1.2.1,r.1.1.2.2.1,()),())).bind
 fun (r:(List Int×Unit)×Unit)=>(rl ((Bool×Int×Int×Unit)×Unit×(Int×Int×List Int×List PgD×Int×Int×List Int×List Int×List Int×Int×Int×Int×Int×Int×Int×Int×Unit)×(Int×Int×List Int×List PgD×Int×Int×List Int×List Int×List Int×Int×Int×Int×Int×Int×Int×Int×Unit)×Unit) ((Bool×Int×Unit)×Unit×(Int×Int×List Int×List PgD×Int×Int×List Int×List Int×List Int×Int×Int×Int×Int×Int×Int×Int×Unit)×(Int×Int×List Int×List PgD×Int×Int×List Int×List Int×List Int×Int×Int×Int×Int×Int×Int×Int×Unit)×Unit⊕(Bool×Int×Unit)×Unit×(Int×Int×List Int×List PgD×Int×Int×List Int×List Int×List Int×Int×Int×Int×Int×Int×Int×Int×Unit)×(Int×Int×List Int×List PgD×Int×Int×List Int×List Int×List Int×Int×Int×Int×Int×Int×Int×Int×Unit)×Unit) (fun (x:(Bool×Int×Int×Unit)×Unit×(Int×Int×List Int×List PgD×Int×Int×List Int×List Int×List Int×Int×Int×Int×Int×Int×Int×Int×Unit)×(Int×Int×List Int×List PgD×Int×Int×List Int×List Int×List Int×Int×Int×Int×Int×Int×Int×Int×Unit)×Unit)=>
 bif decide (x.1.2.2.1<(r.1.1.length:Int)) then
 bif inB x.1.2.2.1 r.1.1.length then (F_r02_Load (x.2.2.1.2.2.1,U (U (d.1.2.2.2.1.getD d.1.2.2.2.2.1.toNat 0+1)+U (r.1.1.getD x.1.2.2.1.toNat 0)),())).bind
 fun (r_1:(Int×Int×Unit)×Unit)=>(F_r10_Forward ((((x.2.2.1.1,x.2.2.1.2.1,()),x.2.2.1.2.2.1,x.2.2.1.2.2.2.1,x.2.2.1.2.2.2.2.1,x.2.2.1.2.2.2.2.2.1,()),x.2.2.1.2.2.2.2.2.2.1,x.2.2.1.2.2.2.2.2.2.2.1,x.2.2.1.2.2.2.2.2.2.2.2.1,x.2.2.1.2.2.2.2.2.2.2.2.2.1,(x.2.2.1.2.2.2.2.2.2.2.2.2.2.1,x.2.2.1.2.2.2.2.2.2.2.2.2.2.2.1,x.2.2.1.2.2.2.2.2.2.2.2.2.2.2.2.1,x.2.2.1.2.2.2.2.2.2.2.2.2.2.2.2.2.1,x.2.2.1.2.2.2.2.2.2.2.2.2.2.2.2.2.2.1,x.2.2.1.2.2.2.2.2.2.2.2.2.2.2.2.2.2.2.1,()),()),r_1.1.1,())).bind
 fun (r_2:((HpD×List Int×List Int×List Int×Int×(Int×Int×Int×Int×Int×Int×Unit)×Unit)×Int×Int×Unit)×Unit)=>
 bif r_2.1.2.2.1 != 0 then some (Sum.inr (Sum.inl ((false,r_2.1.2.2.1,()),(),(x.2.2.1.1,x.2.2.1.2.1,x.2.2.1.2.2.1,x.2.2.1.2.2.2.1,x.2.2.1.2.2.2.2.1,x.2.2.1.2.2.2.2.2.1,x.2.2.1.2.2.2.2.2.2.1,x.2.2.1.2.2.2.2.2.2.2.1,x.2.2.1.2.2.2.2.2.2.2.2.1,x.2.2.1.2.2.2.2.2.2.2.2.2.1,x.2.2.1.2.2.2.2.2.2.2.2.2.2.1,x.2.2.1.2.2.2.2.2.2.2.2.2.2.2.1,x.2.2.1.2.2.2.2.2.2.2.2.2.2.2.2.1,x.2.2.1.2.2.2.2.2.2.2.2.2.2.2.2.2.1,x.2.2.1.2.2.2.2.2.2.2.2.2.2.2.2.2.2.1,x.2.2.1.2.2.2.2.2.2.2.2.2.2.2.2.2.2.2.1,()),(0,0,[],[],0,0,[],[],[],0,0,0,0,0,0,0,()),())))
 else (F_r02_Store (r_2.1.1.1.2.1,U (U (d.1.2.2.2.1.getD d.1.2.2.2.2.1.toNat 0+1)+U (r.1.1.getD x.1.2.2.1.toNat 0)),r_2.1.2.1,())).bind
 fun (r:(List Int×Int×Unit)×Unit)=>some (Sum.inl ((x.1.1,x.1.2.1,W (x.1.2.2.1+1),()),(),(r_2.1.1.1.1.1,r_2.1.1.1.1.2.1,r.1.1,r_2.1.1.1.2.2.1,r_2.1.1.1.2.2.2.1,r_2.1.1.1.2.2.2.2.1,r_2.1.1.2.1,r_2.1.1.2.2.1,r_2.1.1.2.2.2.1,r_2.1.1.2.2.2.2.1,r_2.1.1.2.2.2.2.2.1.1,r_2.1.1.2.2.2.2.2.1.2.1,r_2.1.1.2.2.2.2.2.1.2.2.1,r_2.1.1.2.2.2.2.2.1.2.2.2.1,r_2.1.1.2.2.2.2.2.1.2.2.2.2.1,r_2.1.1.2.2.2.2.2.1.2.2.2.2.2.1,()),(x.2.2.2.1.1,x.2.2.2.1.2.1,x.2.2.2.1.2.2.1,x.2.2.2.1.2.2.2.1,x.2.2.2.1.2.2.2.2.1,x.2.2.2.1.2.2.2.2.2.1,x.2.2.2.1.2.2.2.2.2.2.1,x.2.2.2.1.2.2.2.2.2.2.2.1,x.2.2.2.1.2.2.2.2.2.2.2.2.1,x.2.2.2.1.2.2.2.2.2.2.2.2.2.1,x.2.2.2.1.2.2.2.2.2.2.2.2.2.2.1,x.2.2.2.1.2.2.2.2.2.2.2.2.2.2.2.1,x.2.2.2.1.2.2.2.2.2.2.2.2.2.2.2.2.1,x.2.2.2.1.2.2.2.2.2.2.2.2.2.2.2.2.2.1,x.2.2.2.1.2.2.2.2.2.2.2.2.2.2.2.2.2.2.1,x.2.2.2.1.2.2.2.2.2.2.2.2.2.2.2.2.2.2.2.1,()),()))
 else none
 else some (Sum.inr (Sum.inr ((x.1.1,x.1.2.1,()),(),(x.2.2.1.1,x.2.2.1.2.1,x.2.2.1.2.2.1,x.2.2.1.2.2.2.1,x.2.2.1.2.2.2.2.1,x.2.2.1.2.2.2.2.2.1,x.2.2.1.2.2.2.2.2.2.1,x.2.2.1.2.2.2.2.2.2.2.1,x.2.2.1.2.2.2.2.2.2.2.2.1,x.2.2.1.2.2.2.2.2.2.2.2.2.1,x.2.2.1.2.2.2.2.2.2.2.2.2.2.1,x.2.2.1.2.2.2.2.2.2.2.2.2.2.2.1,x.2.2.1.2.2.2.2.2.2.2.2.2.2.2.2.1,x.2.2.1.2.2.2.2.2.2.2.2.2.2.2.2.2.1,x.2.2.1.2.2.2.2.2.2.2.2.2.2.2.2.2.2.1,x.2.2.1.2.2.2.2.2.2.2.2.2.2.2.2.2.2.2.1,()),(x.2.2.2.1.1,x.2.2.2.1.2.1,x.2.2.2.1.2.2.1,x.2.2.2.1.2.2.2.1,x.2.2.2.1.2.2.2.2.1,x.2.2.2.1.2.2.2.2.2.1,x.2.2.2.1.2.2.2.2.2.2.1,x.2.2.2.1.2.2.2.2.2.2.2.1,x.2.2.2.1.2.2.2.2.2.2.2.2.1,x.2.2.2.1.2.2.2.2.2.2.2.2.2.1,x.2.2.2.1.2.2.2.2.2.2.2.2.2.2.1,x.2.2.2.1.2.2.2.2.2.2.2.2.2.2.2.1,x.2.2.2.1.2.2.2.2.2.2.2.2.2.2.2.2.1,x.2.2.2.1.2.2.2.2.2.2.2.2.2.2.2.2.2.1,x.2.2.2.1.2.2.2.2.2.2.2.2.2.2.2.2.2.2.1,x.2.2.2.1.2.2.2.2.2.2.2.2.2.2.2.2.2.2.2.1,()),())))) ((false,0,0,()),(),(d.1.1.1.1,d.1.1.1.2.1,d.1.1.2.1,d.1.1.2.2.1,d.1.1.2.2.2.1,d.1.1.2.2.2.2.1,d.1.2.1,d.1.2.2.1,d.1.2.2.2.1,d.1.2.2.2.2.1,d.1.2.2.2.2.2.1.1,d.1.2.2.2.2.2.1.2.1,d.1.2.2.2.2.2.1.2.2.1,d.1.2.2.2.2.2.1.2.2.2.1,d.1.2.2.2.2.2.1.2.2.2.2.1,d.1.2.2.2.2.2.1.2.2.2.2.2.1,()),(0,0,[],[],0,0,[],[],[],0,0,0,0,0,0,0,()),())).bind
 fun (r_1:(Bool×Int×Unit)×Unit×(Int×Int×List Int×List PgD×Int×Int×List Int×List Int×List Int×Int×Int×Int×Int×Int×Int×Int×Unit)×(Int×Int×List Int×List PgD×Int×Int×List Int×List Int×List Int×Int×Int×Int×Int×Int×Int×Int×Unit)×Unit⊕(Bool×Int×Unit)×Unit×(Int×Int×List Int×List PgD×Int×Int×List Int×List Int×List Int×Int×Int×Int×Int×Int×Int×Int×Unit)×(Int×Int×List Int×List PgD×Int×Int×List Int×List Int×List Int×Int×Int×Int×Int×Int×Int×Int×Unit)×Unit)=>Sum.elim (fun (x:(Bool×Int×Unit)×Unit×(Int×Int×List Int×List PgD×Int×Int×List Int×List Int×List Int×Int×Int×Int×Int×Int×Int×Int×Unit)×(Int×Int×List Int×List PgD×Int×Int×List Int×List Int×List Int×Int×Int×Int×Int×Int×Int×Int×Unit)×Unit)=>some (((((x.2.2.2.1.1,x.2.2.2.1.2.1,()),x.2.2.2.1.2.2.1,x.2.2.2.1.2.2.2.1,x.2.2.2.1.2.2.2.2.1,x.2.2.2.1.2.2.2.2.2.1,()),x.2.2.2.1.2.2.2.2.2.2.1,x.2.2.2.1.2.2.2.2.2.2.2.1,x.2.2.2.1.2.2.2.2.2.2.2.2.1,x.2.2.2.1.2.2.2.2.2.2.2.2.2.1,(x.2.2.2.1.2.2.2.2.2.2.2.2.2.2.1,x.2.2.2.1.2.2.2.2.2.2.2.2.2.2.2.1,x.2.2.2.1.2.2.2.2.2.2.2.2.2.2.2.2.1,x.2.2.2.1.2.2.2.2.2.2.2.2.2.2.2.2.2.1,x.2.2.2.1.2.2.2.2.2.2.2.2.2.2.2.2.2.2.1,x.2.2.2.1.2.2.2.2.2.2.2.2.2.2.2.2.2.2.2.1,()),()),x.1.1,x.1.2.1,()),())) (fun (y:(Bool×Int×Unit)×Unit×(Int×Int×List Int×List PgD×Int×Int×List Int×List Int×List Int×Int×Int×Int×Int×Int×Int×Int×Unit)×(Int×Int×List Int×List PgD×Int×Int×List Int×List Int×List Int×Int×Int×Int×Int×Int×Int×Int×Unit)×Unit)=>some (((((y.2.2.1.1,y.2.2.1.2.1,()),y.2.2.1.2.2.1,y.2.2.1.2.2.2.1,y.2.2.1.2.2.2.2.1,y.2.2.1.2.2.2.2.2.1,()),y.2.2.1.2.2.2.2.2.2.1,y.2.2.1.2.2.2.2.2.2.2.1,y.2.2.1.2.2.2.2.2.2.2.2.1,W (y.2.2.1.2.2.2.2.2.2.2.2.2.1+1),(y.2.2.1.2.2.2.2.2.2.2.2.2.2.1,y.2.2.1.2.2.2.2.2.2.2.2.2.2.2.1,y.2.2.1.2.2.2.2.2.2.2.2.2.2.2.2.1,y.2.2.1.2.2.2.2.2.2.2.2.2.2.2.2.2.1,y.2.2.1.2.2.2.2.2.2.2.2.2.2.2.2.2.2.1,W (W (y.2.2.1.2.2.2.2.2.2.2.2.2.2.2.2.2.2.2.1+1)+(r.1.1.length:Int)),()),()),true,0,()),())) r_1
 else none:=by
  unfold F_r11_Step
  funext d
  kernel_rfl
theorem ztf:F_r11_All=fun (d:(((Int×Int×Unit)×List Int×(List PgD)×Int×Int×Unit)×List Int×List Int×List Int×Int×(Int×Int×Int×Int×Int×Int×Unit)×Unit)×Unit)=>(rl ((Int×Unit)×Unit×(Int×Int×List Int×List PgD×Int×Int×List Int×List Int×List Int×Int×Int×Int×Int×Int×Int×Int×Unit)×(Int×Int×List Int×List PgD×Int×Int×List Int×List Int×List Int×Int×Int×Int×Int×Int×Int×Int×Unit)×Unit) ((Int×Unit)×Unit×(Int×Int×List Int×List PgD×Int×Int×List Int×List Int×List Int×Int×Int×Int×Int×Int×Int×Int×Unit)×(Int×Int×List Int×List PgD×Int×Int×List Int×List Int×List Int×Int×Int×Int×Int×Int×Int×Int×Unit)×Unit) (fun (x:(Int×Unit)×Unit×(Int×Int×List Int×List PgD×Int×Int×List Int×List Int×List Int×Int×Int×Int×Int×Int×Int×Int×Unit)×(Int×Int×List Int×List PgD×Int×Int×List Int×List Int×List Int×Int×Int×Int×Int×Int×Int×Int×Unit)×Unit)=>(F_r11_Step ((((x.2.2.1.1,x.2.2.1.2.1,()),x.2.2.1.2.2.1,x.2.2.1.2.2.2.1,x.2.2.1.2.2.2.2.1,x.2.2.1.2.2.2.2.2.1,()),x.2.2.1.2.2.2.2.2.2.1,x.2.2.1.2.2.2.2.2.2.2.1,x.2.2.1.2.2.2.2.2.2.2.2.1,x.2.2.1.2.2.2.2.2.2.2.2.2.1,(x.2.2.1.2.2.2.2.2.2.2.2.2.2.1,x.2.2.1.2.2.2.2.2.2.2.2.2.2.2.1,x.2.2.1.2.2.2.2.2.2.2.2.2.2.2.2.1,x.2.2.1.2.2.2.2.2.2.2.2.2.2.2.2.2.1,x.2.2.1.2.2.2.2.2.2.2.2.2.2.2.2.2.2.1,x.2.2.1.2.2.2.2.2.2.2.2.2.2.2.2.2.2.2.1,()),()),())).bind
 fun (r:((HpD×List Int×List Int×List Int×Int×(Int×Int×Int×Int×Int×Int×Unit)×Unit)×Bool×Int×Unit)×Unit)=>
 bif r.1.2.2.1 != 0 then some (Sum.inr ((r.1.2.2.1,()),(),(x.2.2.1.1,x.2.2.1.2.1,x.2.2.1.2.2.1,x.2.2.1.2.2.2.1,x.2.2.1.2.2.2.2.1,x.2.2.1.2.2.2.2.2.1,x.2.2.1.2.2.2.2.2.2.1,x.2.2.1.2.2.2.2.2.2.2.1,x.2.2.1.2.2.2.2.2.2.2.2.1,x.2.2.1.2.2.2.2.2.2.2.2.2.1,x.2.2.1.2.2.2.2.2.2.2.2.2.2.1,x.2.2.1.2.2.2.2.2.2.2.2.2.2.2.1,x.2.2.1.2.2.2.2.2.2.2.2.2.2.2.2.1,x.2.2.1.2.2.2.2.2.2.2.2.2.2.2.2.2.1,x.2.2.1.2.2.2.2.2.2.2.2.2.2.2.2.2.2.1,x.2.2.1.2.2.2.2.2.2.2.2.2.2.2.2.2.2.2.1,()),(0,0,[],[],0,0,[],[],[],0,0,0,0,0,0,0,()),()))
 else bif !r.1.2.1 then some (Sum.inr ((0,()),(),(r.1.1.1.1.1,r.1.1.1.1.2.1,r.1.1.1.2.1,r.1.1.1.2.2.1,r.1.1.1.2.2.2.1,r.1.1.1.2.2.2.2.1,r.1.1.2.1,r.1.1.2.2.1,r.1.1.2.2.2.1,r.1.1.2.2.2.2.1,r.1.1.2.2.2.2.2.1.1,r.1.1.2.2.2.2.2.1.2.1,r.1.1.2.2.2.2.2.1.2.2.1,r.1.1.2.2.2.2.2.1.2.2.2.1,r.1.1.2.2.2.2.2.1.2.2.2.2.1,r.1.1.2.2.2.2.2.1.2.2.2.2.2.1,()),(r.1.1.1.1.1,r.1.1.1.1.2.1,r.1.1.1.2.1,r.1.1.1.2.2.1,r.1.1.1.2.2.2.1,r.1.1.1.2.2.2.2.1,r.1.1.2.1,r.1.1.2.2.1,r.1.1.2.2.2.1,r.1.1.2.2.2.2.1,r.1.1.2.2.2.2.2.1.1,r.1.1.2.2.2.2.2.1.2.1,r.1.1.2.2.2.2.2.1.2.2.1,r.1.1.2.2.2.2.2.1.2.2.2.1,r.1.1.2.2.2.2.2.1.2.2.2.2.1,r.1.1.2.2.2.2.2.1.2.2.2.2.2.1,()),()))
 else some (Sum.inl ((x.1.1,()),(),(r.1.1.1.1.1,r.1.1.1.1.2.1,r.1.1.1.2.1,r.1.1.1.2.2.1,r.1.1.1.2.2.2.1,r.1.1.1.2.2.2.2.1,r.1.1.2.1,r.1.1.2.2.1,r.1.1.2.2.2.1,r.1.1.2.2.2.2.1,r.1.1.2.2.2.2.2.1.1,r.1.1.2.2.2.2.2.1.2.1,r.1.1.2.2.2.2.2.1.2.2.1,r.1.1.2.2.2.2.2.1.2.2.2.1,r.1.1.2.2.2.2.2.1.2.2.2.2.1,r.1.1.2.2.2.2.2.1.2.2.2.2.2.1,()),(x.2.2.2.1.1,x.2.2.2.1.2.1,x.2.2.2.1.2.2.1,x.2.2.2.1.2.2.2.1,x.2.2.2.1.2.2.2.2.1,x.2.2.2.1.2.2.2.2.2.1,x.2.2.2.1.2.2.2.2.2.2.1,x.2.2.2.1.2.2.2.2.2.2.2.1,x.2.2.2.1.2.2.2.2.2.2.2.2.1,x.2.2.2.1.2.2.2.2.2.2.2.2.2.1,x.2.2.2.1.2.2.2.2.2.2.2.2.2.2.1,x.2.2.2.1.2.2.2.2.2.2.2.2.2.2.2.1,x.2.2.2.1.2.2.2.2.2.2.2.2.2.2.2.2.1,x.2.2.2.1.2.2.2.2.2.2.2.2.2.2.2.2.2.1,x.2.2.2.1.2.2.2.2.2.2.2.2.2.2.2.2.2.2.1,x.2.2.2.1.2.2.2.2.2.2.2.2.2.2.2.2.2.2.2.1,()),()))) ((0,()),(),(d.1.1.1.1,d.1.1.1.2.1,d.1.1.2.1,d.1.1.2.2.1,d.1.1.2.2.2.1,d.1.1.2.2.2.2.1,d.1.2.1,d.1.2.2.1,d.1.2.2.2.1,d.1.2.2.2.2.1,d.1.2.2.2.2.2.1.1,d.1.2.2.2.2.2.1.2.1,d.1.2.2.2.2.2.1.2.2.1,d.1.2.2.2.2.2.1.2.2.2.1,d.1.2.2.2.2.2.1.2.2.2.2.1,d.1.2.2.2.2.2.1.2.2.2.2.2.1,()),(0,0,[],[],0,0,[],[],[],0,0,0,0,0,0,0,()),())).bind
 fun (r:(Int×Unit)×Unit×(Int×Int×List Int×List PgD×Int×Int×List Int×List Int×List Int×Int×Int×Int×Int×Int×Int×Int×Unit)×(Int×Int×List Int×List PgD×Int×Int×List Int×List Int×List Int×Int×Int×Int×Int×Int×Int×Int×Unit)×Unit)=>some (((((r.2.2.2.1.1,r.2.2.2.1.2.1,()),r.2.2.2.1.2.2.1,r.2.2.2.1.2.2.2.1,r.2.2.2.1.2.2.2.2.1,r.2.2.2.1.2.2.2.2.2.1,()),r.2.2.2.1.2.2.2.2.2.2.1,r.2.2.2.1.2.2.2.2.2.2.2.1,r.2.2.2.1.2.2.2.2.2.2.2.2.1,r.2.2.2.1.2.2.2.2.2.2.2.2.2.1,(r.2.2.2.1.2.2.2.2.2.2.2.2.2.2.1,r.2.2.2.1.2.2.2.2.2.2.2.2.2.2.2.1,r.2.2.2.1.2.2.2.2.2.2.2.2.2.2.2.2.1,r.2.2.2.1.2.2.2.2.2.2.2.2.2.2.2.2.2.1,r.2.2.2.1.2.2.2.2.2.2.2.2.2.2.2.2.2.2.1,r.2.2.2.1.2.2.2.2.2.2.2.2.2.2.2.2.2.2.2.1,()),()),r.1.1,()),()):=by
  unfold F_r11_All
  funext d
  kernel_rfl
theorem ze7:F_made_World_Collect=fun (d:(((Int×Int×Unit)×List Int×(List PgD)×Int×Int×Unit)×List Int×List Int×Unit)×Unit)=>(F_r12_Collect (((d.1.1.1.1,d.1.1.1.2.1,()),d.1.1.2.1,d.1.1.2.2.1,d.1.1.2.2.2.1,d.1.1.2.2.2.2.1,()),d.1.2.1,d.1.2.2.1,())).bind
 fun (r:(HpD×List Int×List Int×(Int×Int×Int×Int×Int×Int×Unit)×Int×Unit)×Unit)=>
 bif r.1.2.2.2.2.1 == 0 then some (((((r.1.1.1.1,r.1.1.1.2.1,()),r.1.1.2.1,r.1.1.2.2.1,r.1.1.2.2.2.1,r.1.1.2.2.2.2.1,()),r.1.2.1,r.1.2.2.1,()),()),())
 else some (((((d.1.1.1.1,d.1.1.1.2.1,()),d.1.1.2.1,d.1.1.2.2.1,d.1.1.2.2.2.1,d.1.1.2.2.2.2.1,()),d.1.2.1,d.1.2.2.1,()),()),()):=by
  unfold F_made_World_Collect
  funext d
  kernel_rfl
theorem zgc:F_made_World_Spoil=fun (d:(((Int×Int×Unit)×List Int×(List PgD)×Int×Int×Unit)×List Int×List Int×Unit)×(List Int×Int×Unit)×Unit)=>
 bif zaJ (0+d.1.1.2.1.length) 8 then
 bif zaJ (0+d.1.1.2.2.1.length) 32 then (F_made_Tape_Next ((d.2.1.1,d.2.1.2.1,()),(d.1.1.2.1.length:Int),())).bind
 fun (r:(Int×Unit)×(List Int×Int×Unit)×Unit)=>(F_made_Tape_Next ((r.2.1.1,r.2.1.2.1,()),(d.1.1.2.2.1.length:Int),())).bind
 fun (r_1:(Int×Unit)×(List Int×Int×Unit)×Unit)=>(F_made_Tape_Next ((r_1.2.1.1,r_1.2.1.2.1,()),12,())).bind
 fun (r_2:(Int×Unit)×(List Int×Int×Unit)×Unit)=>
 bif bif r_2.1.1 == 0 then r_2.1.1 == 0
 else r_2.1.1 == 1 then (F_made_Tape_Next ((r_2.2.1.1,r_2.2.1.2.1,()),10,())).bind
 fun (r_3:(Int×Unit)×(List Int×Int×Unit)×Unit)=>
 bif inB r_3.1.1 [0,1,5,21,4096,4097,4112,16386,1099511627776,61].length then
 bif inB r.1.1 (d.1.1.2.1).length then some (((((d.1.1.1.1,d.1.1.1.2.1,()),(d.1.1.2.1).set r.1.1.toNat ([0,1,5,21,4096,4097,4112,16386,1099511627776,61].getD r_3.1.1.toNat 0),d.1.1.2.2.1,d.1.1.2.2.2.1,d.1.1.2.2.2.2.1,()),d.1.2.1,d.1.2.2.1,()),()),(r_3.2.1.1,r_3.2.1.2.1,()),())
 else none
 else none
 else bif
 bif r_2.1.1 == 2 then inB r.1.1 (d.1.1.2.1).length
 else true then
 bif r_2.1.1 == 2 then (F_made_Tape_Next ((r_2.2.1.1,r_2.2.1.2.1,()),64,())).bind
 fun (r_3:(Int×Unit)×(List Int×Int×Unit)×Unit)=>
 bif !decide (U r_3.1.1<0) then
 bif inB r.1.1 (d.1.1.2.1).length then some (((((d.1.1.1.1,d.1.1.1.2.1,()),(d.1.1.2.1).set r.1.1.toNat (zcx IntKind.u64 (fun (x1 x2:BitVec IntKind.u64.bits)=>x1 ^^^ x2) ((d.1.1.2.1).getD r.1.1.toNat 0) (U (1*2 ^ min (U r_3.1.1).toNat IntKind.u64.bits))),d.1.1.2.2.1,d.1.1.2.2.2.1,d.1.1.2.2.2.2.1,()),d.1.2.1,d.1.2.2.1,()),()),(r_3.2.1.1,r_3.2.1.2.1,()),())
 else none
 else none
 else bif r_2.1.1 == 3 then (F_made_Tape_Next ((r_2.2.1.1,r_2.2.1.2.1,()),5,())).bind
 fun (r:(Int×Unit)×(List Int×Int×Unit)×Unit)=>
 bif inB r_1.1.1 (d.1.1.2.2.1).length then some (((((d.1.1.1.1,d.1.1.1.2.1,()),d.1.1.2.1,(d.1.1.2.2.1).set r_1.1.1.toNat (r.1.1,((d.1.1.2.2.1).getD r_1.1.1.toNat PG0).2.1,((d.1.1.2.2.1).getD r_1.1.1.toNat PG0).2.2.1,((d.1.1.2.2.1).getD r_1.1.1.toNat PG0).2.2.2.1,()),d.1.1.2.2.2.1,d.1.1.2.2.2.2.1,()),d.1.2.1,d.1.2.2.1,()),()),(r.2.1.1,r.2.1.2.1,()),())
 else none
 else bif r_2.1.1 == 4 then (F_made_Tape_Next ((r_2.2.1.1,r_2.2.1.2.1,()),3,())).bind
 fun (r:(Int×Unit)×(List Int×Int×Unit)×Unit)=>
 bif inB r_1.1.1 (d.1.1.2.2.1).length then some (((((d.1.1.1.1,d.1.1.1.2.1,()),d.1.1.2.1,(d.1.1.2.2.1).set r_1.1.1.toNat (((d.1.1.2.2.1).getD r_1.1.1.toNat PG0).1,r.1.1,((d.1.1.2.2.1).getD r_1.1.1.toNat PG0).2.2.1,((d.1.1.2.2.1).getD r_1.1.1.toNat PG0).2.2.2.1,()),d.1.1.2.2.2.1,d.1.1.2.2.2.2.1,()),d.1.2.1,d.1.2.2.1,()),()),(r.2.1.1,r.2.1.2.1,()),())
 else none
 else bif
 bif r_2.1.1 == 5 then inB r_1.1.1 (d.1.1.2.2.1).length
 else true then
 bif r_2.1.1 == 5 then (F_made_Tape_Next ((r_2.2.1.1,r_2.2.1.2.1,()),9,())).bind
 fun (r:(Int×Unit)×(List Int×Int×Unit)×Unit)=>
 bif inB r_1.1.1 (d.1.1.2.2.1).length then some (((((d.1.1.1.1,d.1.1.1.2.1,()),d.1.1.2.1,(d.1.1.2.2.1).set r_1.1.1.toNat (((d.1.1.2.2.1).getD r_1.1.1.toNat PG0).1,((d.1.1.2.2.1).getD r_1.1.1.toNat PG0).2.1,W (W (((d.1.1.2.2.1).getD r_1.1.1.toNat PG0).2.2.1+r.1.1)-4),((d.1.1.2.2.1).getD r_1.1.1.toNat PG0).2.2.2.1,()),d.1.1.2.2.2.1,d.1.1.2.2.2.2.1,()),d.1.2.1,d.1.2.2.1,()),()),(r.2.1.1,r.2.1.2.1,()),())
 else none
 else bif r_2.1.1 == 6 then (F_made_Tape_Next ((r_2.2.1.1,r_2.2.1.2.1,()),3,())).bind
 fun (r:(Int×Unit)×(List Int×Int×Unit)×Unit)=>
 bif inB r_1.1.1 (d.1.1.2.2.1).length then some (((((d.1.1.1.1,d.1.1.1.2.1,()),d.1.1.2.1,(d.1.1.2.2.1).set r_1.1.1.toNat (((d.1.1.2.2.1).getD r_1.1.1.toNat PG0).1,((d.1.1.2.2.1).getD r_1.1.1.toNat PG0).2.1,((d.1.1.2.2.1).getD r_1.1.1.toNat PG0).2.2.1,W (r.1.1-1),()),d.1.1.2.2.2.1,d.1.1.2.2.2.2.1,()),d.1.2.1,d.1.2.2.1,()),()),(r.2.1.1,r.2.1.2.1,()),())
 else none
 else bif r_2.1.1 == 7 then (F_made_Tape_Next ((r_2.2.1.1,r_2.2.1.2.1,()),3,())).bind
 fun (r:(Int×Unit)×(List Int×Int×Unit)×Unit)=>some (((((d.1.1.1.1,d.1.1.1.2.1,()),d.1.1.2.1,d.1.1.2.2.1,r.1.1,d.1.1.2.2.2.2.1,()),d.1.2.1,d.1.2.2.1,()),()),(r.2.1.1,r.2.1.2.1,()),())
 else bif r_2.1.1 == 8 then (F_made_Tape_Next ((r_2.2.1.1,r_2.2.1.2.1,()),W ((d.1.1.2.2.1.length:Int)+2),())).bind
 fun (r:(Int×Unit)×(List Int×Int×Unit)×Unit)=>some (((((d.1.1.1.1,d.1.1.1.2.1,()),d.1.1.2.1,d.1.1.2.2.1,d.1.1.2.2.2.1,W (r.1.1-1),()),d.1.2.1,d.1.2.2.1,()),()),(r.2.1.1,r.2.1.2.1,()),())
 else bif
 bif r_2.1.1 == 9 then true
 else bif r_2.1.1 == 10 then decide ((0:Int)<=1/\1<=(d.1.1.2.2.1.length:Int)/\(d.1.1.2.2.1.length:Int)<=(d.1.1.2.2.1.length:Int))
 else true then
 bif r_2.1.1 == 9 then some (((((W (d.1.1.1.1+4),d.1.1.1.2.1,()),d.1.1.2.1,d.1.1.2.2.1,d.1.1.2.2.2.1,d.1.1.2.2.2.2.1,()),d.1.2.1,d.1.2.2.1,()),()),(r_2.2.1.1,r_2.2.1.2.1,()),())
 else bif r_2.1.1 == 10 then some (((((d.1.1.1.1,d.1.1.1.2.1,()),d.1.1.2.1,List.take ((d.1.1.2.2.1.length:Int)-1).toNat (List.drop (Int.toNat 1) (d.1.1.2.2.1)),d.1.1.2.2.2.1,d.1.1.2.2.2.2.1,()),d.1.2.1,d.1.2.2.1,()),()),(r_2.2.1.1,r_2.2.1.2.1,()),())
 else bif r_2.1.1 == 11 then (rl ((Int×Unit)×Unit×List PgD×Unit) (Unit×Unit×List PgD×Unit) (fun (x:(Int×Unit)×Unit×List PgD×Unit)=>
 bif decide (x.1.1<(x.2.2.1.length:Int)) then
 bif inB x.1.1 x.2.2.1.length then
 bif bif (x.2.2.1.getD x.1.1.toNat PG0).1 == 1 then inB x.1.1 x.2.2.1.length
 else true then
 bif (x.2.2.1.getD x.1.1.toNat PG0).1 == 1 then some (Sum.inl ((W (x.1.1+1),()),(),x.2.2.1.set x.1.1.toNat ((x.2.2.1.getD x.1.1.toNat PG0).1,(x.2.2.1.getD x.1.1.toNat PG0).2.1,(x.2.2.1.getD x.1.1.toNat PG0).2.2.1,1,()),()))
 else some (Sum.inl ((W (x.1.1+1),()),(),x.2.2.1,()))
 else none
 else none
 else some (Sum.inr ((),(),x.2.2.1,()))) ((0,()),(),d.1.1.2.2.1,())).bind
 fun (r:Unit×Unit×List PgD×Unit)=>some (((((d.1.1.1.1,d.1.1.1.2.1,()),d.1.1.2.1,r.2.2.1,d.1.1.2.2.2.1,d.1.1.2.2.2.2.1,()),d.1.2.1,d.1.2.2.1,()),()),(r_2.2.1.1,r_2.2.1.2.1,()),())
 else some (((((d.1.1.1.1,d.1.1.1.2.1,()),d.1.1.2.1,d.1.1.2.2.1,d.1.1.2.2.2.1,d.1.1.2.2.2.2.1,()),d.1.2.1,d.1.2.2.1,()),()),(r_2.2.1.1,r_2.2.1.2.1,()),())
 else none
 else none
 else none
 else none
 else none:=by
  unfold F_made_World_Spoil
  funext d
  kernel_rfl
theorem znG:F_made_Light=fun (d:((Int×Int×Unit)×List Int×(List PgD)×Int×Int×Unit)×Unit)=>some ((bif decide ((d.1.2.1.length:Int)<=5000) then decide ((d.1.2.2.1.length:Int)<=100)
 else false,()),()):=by
  unfold F_made_Light
  funext d
  kernel_rfl
theorem zlU:F_page_within=fun (d:Int×Int×Int×Unit)=>some ((bif decide (d.2.1<=d.1) then decide (d.1<=d.2.2.1)
 else false,()),()):=by
  unfold F_page_within
  funext d
  kernel_rfl
theorem zib:F_page_ValidConf=fun (d:(Int×Int×Unit)×Unit)=>(F_page_within (d.1.1,16,64,())).bind
 fun (r:(Bool×Unit)×Unit)=>
 bif bif r.1.1 then !4 == 0
 else true then
 bif r.1.1 then
 bif d.1.1.tmod 4 == 0 then (F_page_within (d.1.2.1,8,64,())).bind
 fun (r:(Bool×Unit)×Unit)=>some ((r.1.1,()),())
 else some ((false,()),())
 else some ((false,()),())
 else none:=by
  unfold F_page_ValidConf
  funext d
  kernel_rfl
theorem zkA:F_page_isSmall=fun (d:(List PgD)×Int×Unit)=>(F_page_within (d.2.1,0,W ((d.1.length:Int)-1),())).bind
 fun (r:(Bool×Unit)×Unit)=>
 bif bif r.1.1 then inB d.2.1 d.1.length
 else true then some ((bif r.1.1 then (d.1.getD d.2.1.toNat PG0).1 == 1
 else false,()),())
 else none:=by
  unfold F_page_isSmall
  funext d
  kernel_rfl
theorem zf9:F_page_table_small=fun (d:((Int×Int×Unit)×(List PgD)×Unit)×Int×Unit)=>
 bif inB d.2.1 d.1.2.1.length then (F_page_isSpace ((d.1.2.1.getD d.2.1.toNat PG0).2.1,())).bind
 fun (r:(Bool×Unit)×Unit)=>
 bif r.1.1 then (F_page_within ((d.1.2.1.getD d.2.1.toNat PG0).2.2.1,0,d.1.1.1,())).bind
 fun (r:(Bool×Unit)×Unit)=>
 bif r.1.1 then (F_page_isPins ((d.1.2.1.getD d.2.1.toNat PG0).2.2.2.1,())).bind
 fun (r:(Bool×Unit)×Unit)=>some ((r.1.1,()),())
 else some ((false,()),())
 else some ((false,()),())
 else none:=by
  unfold F_page_table_small
  funext d
  kernel_rfl
theorem zgQ:F_page_table_tail=fun (d:((Int×Int×Unit)×(List PgD)×Unit)×Int×Unit)=>
 bif inB d.2.1 d.1.2.1.length then
 bif (d.1.2.1.getD d.2.1.toNat PG0).2.2.1 == 0 then
 bif (d.1.2.1.getD d.2.1.toNat PG0).2.2.2.1 == 0 then (F_page_table_owned (((d.1.1.1,d.1.1.2.1,()),d.1.2.1,()),d.2.1,())).bind
 fun (r:(Bool×Unit)×Unit)=>some ((r.1.1,()),())
 else some ((false,()),())
 else some ((false,()),())
 else none:=by
  unfold F_page_table_tail
  funext d
  kernel_rfl
theorem zo0:F_walk_Page=fun (d:((Int×Int×Unit)×List Int×(List PgD)×Int×Int×Unit)×Int×Unit)=>(F_page_Proper (((d.1.1.1,d.1.1.2.1,()),d.1.2.1,d.1.2.2.1,d.1.2.2.2.1,d.1.2.2.2.2.1,()),())).bind
 fun (r:(Bool×Unit)×Unit)=>
 bif !r.1.1 then some (([],1,()),())
 else bif
 bif decide (d.2.1<0) then true
 else decide (d.2.1 >= (d.1.2.2.1.length:Int)) then some (([],2,()),())
 else (F_walk_inPage (((d.1.1.1,d.1.1.2.1,()),d.1.2.1,d.1.2.2.1,d.1.2.2.2.1,d.1.2.2.2.2.1,()),d.2.1,())).bind
 fun (r:((HpD×Int×Unit)×Unit)×Unit)=>(F_walk_list_c_walk_inPage_S1_walk_isAny (((r.1.1.1.1.1,r.1.1.1.1.2.1,()),r.1.1.1.2.1,r.1.1.1.2.2.1,r.1.1.1.2.2.2.1,r.1.1.1.2.2.2.2.1,()),r.1.1.2.1,())).bind
 fun (r:(List Int×Int×Unit)×HpD×Int×Unit)=>some ((r.1.1,r.1.2.1,()),()):=by
  unfold F_walk_Page
  funext d
  kernel_rfl
theorem zku:F_walk_Objects=fun (d:((Int×Int×Unit)×List Int×(List PgD)×Int×Int×Unit)×Unit)=>(F_walk_inHeap (((d.1.1.1,d.1.1.2.1,()),d.1.2.1,d.1.2.2.1,d.1.2.2.2.1,d.1.2.2.2.2.1,()),())).bind
 fun (r:((HpD×Unit)×Unit)×Unit)=>(F_walk_list_c_walk_inHeap_S1_walk_isObject (((r.1.1.1.1.1,r.1.1.1.1.2.1,()),r.1.1.1.2.1,r.1.1.1.2.2.1,r.1.1.1.2.2.2.1,r.1.1.1.2.2.2.2.1,()),())).bind
 fun (r:(List Int×Int×Unit)×HpD×Unit)=>some ((r.1.1,r.1.2.1,()),()):=by
  unfold F_walk_Objects
  funext d
  kernel_rfl
theorem ze6:F_object_reader_S1_c=fun (d:Int×((Int×Int×Unit)×List Int×(List PgD)×Int×Int×Unit)×Unit)=>(F_arena_Load (d.2.1.2.1,d.1,())).bind
 fun (r:(Int×Int×Unit)×Unit)=>some ((r.1.1,r.1.2.1,()),((d.2.1.1.1,d.2.1.1.2.1,()),d.2.1.2.1,d.2.1.2.2.1,d.2.1.2.2.2.1,d.2.1.2.2.2.2.1,()),()):=by
  unfold F_object_reader_S1_c
  funext d
  kernel_rfl
theorem zlX:F_object_fits=fun (d:PgD×Int×Int×Unit)=>
 bif d.1.1 == 1 then some ((decide (W (d.2.1+d.2.2.1)<=d.1.2.2.1),()),())
 else bif d.1.1 == 2 then some ((bif d.2.1 == 0 then d.2.2.1 == d.1.2.2.1
 else false,()),())
 else some ((false,()),()):=by
  unfold F_object_fits
  funext d
  kernel_rfl
theorem zkB:F_page_Address=fun (d:(Int×Int×Unit)×Int×Int×Unit)=>(F_page_ValidConf ((d.1.1,d.1.2.1,()),())).bind
 fun (r:(Bool×Unit)×Unit)=>
 bif !r.1.1 then some ((0,1,()),())
 else (F_page_within (d.2.1,0,W (d.1.2.1-1),())).bind
 fun (r:(Bool×Unit)×Unit)=>
 bif !r.1.1 then some ((0,2,()),())
 else (F_page_within (d.2.2.1,0,W (d.1.1-1),())).bind
 fun (r:(Bool×Unit)×Unit)=>
 bif !r.1.1 then some ((0,2,()),())
 else some ((U (4096+U (W (W (d.2.1*d.1.1)+d.2.2.1))),0,()),()):=by
  unfold F_page_Address
  funext d
  kernel_rfl
theorem zcr:F_audit_part_uses=fun (d:(Int×(Int×Int×Int×Unit)×Unit)×Int×Unit)=>some ((bif decide (d.2.1 >= d.1.1) then decide (U (d.2.1-d.1.1)<=U (bif d.1.2.1.1 != 0 then d.1.2.1.2.1
 else 0))
 else false,()),()):=by
  unfold F_audit_part_uses
  funext d
  kernel_rfl
theorem zbz:F_cmp_Or_audit_Finding=fun (d:(List (Int×Int×Int×Unit))×Unit)=>(rl ((Int×Unit)×Unit×(Int×Int×Int×Unit)×Unit) (Unit×Unit×(Int×Int×Int×Unit)×Unit⊕Unit×Unit×(Int×Int×Int×Unit)×Unit) (fun (x:(Int×Unit)×Unit×(Int×Int×Int×Unit)×Unit)=>
 bif decide (x.1.1<(d.1.length:Int)) then
 bif inB x.1.1 d.1.length then
 bif !(((d.1.getD x.1.1.toNat (0,0,0,())).1,(d.1.getD x.1.1.toNat (0,0,0,())).2.1,(d.1.getD x.1.1.toNat (0,0,0,())).2.2.1,()).1 == (0,0,0,()).1&&(((d.1.getD x.1.1.toNat (0,0,0,())).1,(d.1.getD x.1.1.toNat (0,0,0,())).2.1,(d.1.getD x.1.1.toNat (0,0,0,())).2.2.1,()).2.1 == (0,0,0,()).2.1&&(((d.1.getD x.1.1.toNat (0,0,0,())).1,(d.1.getD x.1.1.toNat (0,0,0,())).2.1,(d.1.getD x.1.1.toNat (0,0,0,())).2.2.1,()).2.2.1 == (0,0,0,()).2.2.1&&true))) then some (Sum.inr (Sum.inl ((),(),((d.1.getD x.1.1.toNat (0,0,0,())).1,(d.1.getD x.1.1.toNat (0,0,0,())).2.1,(d.1.getD x.1.1.toNat (0,0,0,())).2.2.1,()),())))
 else some (Sum.inl ((W (x.1.1+1),()),(),(x.2.2.1.1,x.2.2.1.2.1,x.2.2.1.2.2.1,()),()))
 else none
 else some (Sum.inr (Sum.inr ((),(),(x.2.2.1.1,x.2.2.1.2.1,x.2.2.1.2.2.1,()),())))) ((0,()),(),(0,0,0,()),())).bind
 fun (r:Unit×Unit×(Int×Int×Int×Unit)×Unit⊕Unit×Unit×(Int×Int×Int×Unit)×Unit)=>Sum.elim (fun (x:Unit×Unit×(Int×Int×Int×Unit)×Unit)=>some (((x.2.2.1.1,x.2.2.1.2.1,x.2.2.1.2.2.1,()),()),())) (fun (y:Unit×Unit×(Int×Int×Int×Unit)×Unit)=>some (((0,0,0,()),()),())) r:=by
  unfold F_cmp_Or_audit_Finding
  funext d
  kernel_rfl
theorem zds:F_audit_checkCrowd=fun (d:((Int×Int×Unit)×List Int×(List PgD)×Int×Int×Unit)×Unit)=>(rl ((Int×Int×Unit)×Unit×Unit) ((Int×Unit)×Unit×Unit) (fun (x:(Int×Int×Unit)×Unit×Unit)=>
 bif decide (x.1.2.1<(d.1.2.2.1.length:Int)) then
 bif inB x.1.2.1 d.1.2.2.1.length then some (Sum.inl ((bif
 bif (d.1.2.2.1.getD x.1.2.1.toNat PG0).1 == 1 then decide ((d.1.2.2.1.getD x.1.2.1.toNat PG0).2.2.2.1 > 0)
 else false then W (x.1.1+1)
 else x.1.1,W (x.1.2.1+1),()),(),()))
 else none
 else some (Sum.inr ((x.1.1,()),(),()))) ((0,0,()),(),())).bind
 fun (r:(Int×Unit)×Unit×Unit)=>
 bif !4 == 0 then
 bif decide (r.1.1 > W (d.1.1.2.1.tdiv 4)) then some (((7,0,0,()),()),())
 else some (((0,0,0,()),()),())
 else none:=by
  unfold F_audit_checkCrowd
  funext d
  kernel_rfl
end Go.VI
namespace Go.VI
open Go
theorem zie:F_made_Tape_Next=fun (d:(List Int×Int×Unit)×Int×Unit)=>
 bif decide (d.2.1<1) then some ((0,()),(d.1.1,d.1.2.1,()),())
 else bif
 bif decide (d.1.2.1<(d.1.1.length:Int)) then inB d.1.2.1 d.1.1.length
 else true then
 bif !d.2.1 == 0 then
 bif !d.2.1 == 0 then some (((W ((bif decide (d.1.2.1<(d.1.1.length:Int)) then d.1.1.getD d.1.2.1.toNat 0
 else W (W (d.1.2.1*7)+3)).tmod d.2.1+d.2.1)).tmod d.2.1,()),(d.1.1,W (d.1.2.1+1),()),())
 else none
 else none
 else none:=by
  unfold F_made_Tape_Next
  funext d
  kernel_rfl
theorem zif:F_made_Tape_Done=fun (d:(List Int×Int×Unit)×Unit)=>some ((decide (d.1.2.1 >= (d.1.1.length:Int)),()),(d.1.1,d.1.2.1,()),()):=by
 unfold F_made_Tape_Done
 funext d
 kernel_rfl
theorem znB:F_r04_Proper=fun (d:((Int×Int×Unit)×List Int×(List PgD)×Int×Int×Unit)×Unit)=>(F_r04_ValidConf ((d.1.1.1,d.1.1.2.1,()),())).bind
 fun (r:(Bool×Unit)×Unit)=>
 bif bif !r.1.1 then true
 else bif (d.1.2.1.length:Int) != W (d.1.1.2.1*d.1.1.1) then true
 else bif (d.1.2.2.1.length:Int) != d.1.1.2.1 then true
 else bif decide (d.1.2.2.2.1<0) then true
 else decide (d.1.2.2.2.1 > 1) then some ((false,()),())
 else bif
 bif d.1.2.2.2.2.1 != -1 then
 bif decide (d.1.2.2.2.2.1<0) then true
 else bif decide (d.1.2.2.2.2.1 >= (d.1.2.2.1.length:Int)) then true
 else inB d.1.2.2.2.2.1 d.1.2.2.1.length
 else true then
 bif bif d.1.2.2.2.2.1 != -1 then
 bif decide (d.1.2.2.2.2.1<0) then true
 else bif decide (d.1.2.2.2.2.1 >= (d.1.2.2.1.length:Int)) then true
 else (d.1.2.2.1.getD d.1.2.2.2.2.1.toNat PG0).1 != 1
 else false then some ((false,()),())
 else (rl ((Bool×Int×Int×Unit)×Unit×Unit) ((Bool×Unit)×Unit×Unit⊕(Bool×Unit)×Unit×Unit) (fun (x:(Bool×Int×Int×Unit)×Unit×Unit)=>
 bif decide (x.1.2.2.1<(d.1.2.2.1.length:Int)) then
 bif inB x.1.2.2.1 d.1.2.2.1.length then
 bif !((d.1.2.2.1.getD x.1.2.2.1.toNat PG0).1 == 3) == decide (x.1.2.1 > 0) then some (Sum.inr (Sum.inl ((false,()),(),())))
 else bif decide ((d.1.2.2.1.getD x.1.2.2.1.toNat PG0).2.1<0) then some (Sum.inr (Sum.inl ((false,()),(),())))
 else bif decide ((d.1.2.2.1.getD x.1.2.2.1.toNat PG0).2.1 > 1) then some (Sum.inr (Sum.inl ((false,()),(),())))
 else (F_r04_pins ((d.1.2.2.1.getD x.1.2.2.1.toNat PG0).2.2.2.1,())).bind
 fun (r:(Bool×Unit)×Unit)=>
 bif !r.1.1 then some (Sum.inr (Sum.inl ((false,()),(),())))
 else bif (d.1.2.2.1.getD x.1.2.2.1.toNat PG0).1 == 0 then
 bif !(((d.1.2.2.1.getD x.1.2.2.1.toNat PG0).1,(d.1.2.2.1.getD x.1.2.2.1.toNat PG0).2.1,(d.1.2.2.1.getD x.1.2.2.1.toNat PG0).2.2.1,(d.1.2.2.1.getD x.1.2.2.1.toNat PG0).2.2.2.1,()).1 == PG0.1&&(((d.1.2.2.1.getD x.1.2.2.1.toNat PG0).1,(d.1.2.2.1.getD x.1.2.2.1.toNat PG0).2.1,(d.1.2.2.1.getD x.1.2.2.1.toNat PG0).2.2.1,(d.1.2.2.1.getD x.1.2.2.1.toNat PG0).2.2.2.1,()).2.1 == PG0.2.1&&(((d.1.2.2.1.getD x.1.2.2.1.toNat PG0).1,(d.1.2.2.1.getD x.1.2.2.1.toNat PG0).2.1,(d.1.2.2.1.getD x.1.2.2.1.toNat PG0).2.2.1,(d.1.2.2.1.getD x.1.2.2.1.toNat PG0).2.2.2.1,()).2.2.1 == PG0.2.2.1&&(((d.1.2.2.1.getD x.1.2.2.1.toNat PG0).1,(d.1.2.2.1.getD x.1.2.2.1.toNat PG0).2.1,(d.1.2.2.1.getD x.1.2.2.1.toNat PG0).2.2.1,(d.1.2.2.1.getD x.1.2.2.1.toNat PG0).2.2.2.1,()).2.2.2.1 == PG0.2.2.2.1&&true)))) then some (Sum.inr (Sum.inl ((false,()),(),())))
 else some (Sum.inl ((x.1.1,if W (x.1.2.1-1) > 0 then W (x.1.2.1-1)
 else 0,W (x.1.2.2.1+1),()),(),()))
 else bif (d.1.2.2.1.getD x.1.2.2.1.toNat PG0).1 == 1 then
 bif bif decide ((d.1.2.2.1.getD x.1.2.2.1.toNat PG0).2.2.1<0) then true
 else decide ((d.1.2.2.1.getD x.1.2.2.1.toNat PG0).2.2.1 > d.1.1.1) then some (Sum.inr (Sum.inl ((false,()),(),())))
 else some (Sum.inl ((x.1.1,if W (x.1.2.1-1) > 0 then W (x.1.2.1-1)
 else 0,W (x.1.2.2.1+1),()),(),()))
 else bif (d.1.2.2.1.getD x.1.2.2.1.toNat PG0).1 == 2 then (F_r04_Need ((d.1.1.1,d.1.1.2.1,()),(d.1.2.2.1.getD x.1.2.2.1.toNat PG0).2.2.1,())).bind
 fun (r:(Int×Unit)×Unit)=>
 bif decide (r.1.1<1) then some (Sum.inr (Sum.inl ((false,()),(),())))
 else (F_r04_tails (d.1.2.2.1,x.1.2.2.1,(d.1.2.2.1.getD x.1.2.2.1.toNat PG0).2.1,())).bind
 fun (r_1:(Int×Unit)×Unit)=>
 bif decide (r_1.1.1<W (r.1.1-1)) then some (Sum.inr (Sum.inl ((false,()),(),())))
 else some (Sum.inl ((x.1.1,if W (r.1.1-1) > 0 then W (r.1.1-1)
 else 0,W (x.1.2.2.1+1),()),(),()))
 else bif (d.1.2.2.1.getD x.1.2.2.1.toNat PG0).1 == 3 then
 bif bif (d.1.2.2.1.getD x.1.2.2.1.toNat PG0).2.2.1 != 0 then true
 else (d.1.2.2.1.getD x.1.2.2.1.toNat PG0).2.2.2.1 != 0 then some (Sum.inr (Sum.inl ((false,()),(),())))
 else some (Sum.inl ((x.1.1,if W (x.1.2.1-1) > 0 then W (x.1.2.1-1)
 else 0,W (x.1.2.2.1+1),()),(),()))
 else some (Sum.inr (Sum.inl ((false,()),(),())))
 else none
 else some (Sum.inr (Sum.inr ((x.1.1,()),(),())))) ((false,0,0,()),(),())).bind
 fun (r:(Bool×Unit)×Unit×Unit⊕(Bool×Unit)×Unit×Unit)=>Sum.elim (fun (x:(Bool×Unit)×Unit×Unit)=>some ((x.1.1,()),())) (fun (y:(Bool×Unit)×Unit×Unit)=>some ((true,()),())) r
 else none:=by
  unfold F_r04_Proper
  funext d
  kernel_rfl
theorem zqT:F_r07_Asks=fun (d:(Int×Int×Unit)×(Int×Int×Int×Unit)×Unit)=>(F_r03_Valid ((d.2.1.1,d.2.1.2.1,d.2.1.2.2.1,()),())).bind
 fun (r:(Bool×Unit)×Unit)=>
 bif r.1.1 then
 bif d.2.1.1 != 0 then (F_r03_Size ((d.2.1.1,d.2.1.2.1,d.2.1.2.2.1,()),())).bind
 fun (r:(Int×Unit)×Unit)=>(F_r04_Need ((d.1.1,d.1.2.1,()),r.1.1,())).bind
 fun (r:(Int×Unit)×Unit)=>some ((r.1.1 != -1,()),())
 else some ((false,()),())
 else some ((false,()),()):=by
  unfold F_r07_Asks
  funext d
  kernel_rfl
theorem zpc:F_r04_Limit=fun (d:(Int×Int×Unit)×Unit)=>(F_r04_ValidConf ((d.1.1,d.1.2.1,()),())).bind
 fun (r:(Bool×Unit)×Unit)=>
 bif !r.1.1 then some ((0,()),())
 else bif !4 == 0 then some ((W (d.1.2.1.tdiv 4),()),())
 else none:=by
  unfold F_r04_Limit
  funext d
  kernel_rfl
theorem zq0:F_r04_Runs=fun (d:(List PgD)×Unit)=>(rl ((Unit×Int×Unit)×(List (Int×Int×Unit)×Unit)×Unit) ((Unit×Unit)×(List (Int×Int×Unit)×Unit)×Unit) (fun (x:(Unit×Int×Unit)×(List (Int×Int×Unit)×Unit)×Unit)=>
 bif decide (x.1.2.1<(d.1.length:Int)) then
 bif inB x.1.2.1 d.1.length then
 bif (d.1.getD x.1.2.1.toNat PG0).1 != 0 then some (Sum.inl (((),W (x.1.2.1+1),()),(x.2.1.1,()),()))
 else bif
 bif decide ((x.2.1.1.length:Int) > 0) then inB (W ((x.2.1.1.length:Int)-1)) x.2.1.1.length
 else true then
 bif bif decide ((x.2.1.1.length:Int) > 0) then inB (W ((x.2.1.1.length:Int)-1)) x.2.1.1.length
 else true then
 bif bif
 bif decide ((x.2.1.1.length:Int) > 0) then W ((x.2.1.1.getD (W ((x.2.1.1.length:Int)-1)).toNat (0,0,())).1+(x.2.1.1.getD (W ((x.2.1.1.length:Int)-1)).toNat (0,0,())).2.1) == x.1.2.1
 else false then inB (W ((x.2.1.1.length:Int)-1)) x.2.1.1.length
 else true then
 bif bif
 bif decide ((x.2.1.1.length:Int) > 0) then W ((x.2.1.1.getD (W ((x.2.1.1.length:Int)-1)).toNat (0,0,())).1+(x.2.1.1.getD (W ((x.2.1.1.length:Int)-1)).toNat (0,0,())).2.1) == x.1.2.1
 else false then inB (W ((x.2.1.1.length:Int)-1)) x.2.1.1.length
 else true then
 bif bif
 bif decide ((x.2.1.1.length:Int) > 0) then W ((x.2.1.1.getD (W ((x.2.1.1.length:Int)-1)).toNat (0,0,())).1+(x.2.1.1.getD (W ((x.2.1.1.length:Int)-1)).toNat (0,0,())).2.1) == x.1.2.1
 else false then true
 else zaJ (x.2.1.1.length + [(x.1.2.1,1,())].length) 16 then
 bif bif decide ((x.2.1.1.length:Int) > 0) then W ((x.2.1.1.getD (W ((x.2.1.1.length:Int)-1)).toNat (0,0,())).1+(x.2.1.1.getD (W ((x.2.1.1.length:Int)-1)).toNat (0,0,())).2.1) == x.1.2.1
 else false then some (Sum.inl (((),W (x.1.2.1+1),()),(x.2.1.1.set (W ((x.2.1.1.length:Int)-1)).toNat ((x.2.1.1.getD (W ((x.2.1.1.length:Int)-1)).toNat (0,0,())).1,W ((x.2.1.1.getD (W ((x.2.1.1.length:Int)-1)).toNat (0,0,())).2.1+1),()),()),()))
 else some (Sum.inl (((),W (x.1.2.1+1),()),(x.2.1.1++[(x.1.2.1,1,())],()),()))
 else none
 else none
 else none
 else none
 else none
 else none
 else some (Sum.inr (((),()),(x.2.1.1,()),()))) (((),0,()),([],()),())).bind
 fun (r:(Unit×Unit)×(List (Int×Int×Unit)×Unit)×Unit)=>some ((r.2.1.1,()),()):=by
  unfold F_r04_Runs
  funext d
  kernel_rfl
theorem znA:F_r04_take_o=fun (d:(List PgD)×Int×Int×PgD×PgD×Unit)=>
 bif bif decide (d.2.1<0) then true
 else bif decide (d.2.1 >= (d.1.length:Int)) then true
 else decide (d.2.2.1 > W ((d.1.length:Int)-d.2.1)) then some (([],2,()),())
 else bif zaJ (0+d.1.length) 32 then (rl ((List PgD×Int×Int×Unit)×Unit×List PgD×Unit) ((List PgD×Int×Unit)×Unit×List PgD×Unit⊕(List PgD×Int×Unit)×Unit×List PgD×Unit) (fun (x:(List PgD×Int×Int×Unit)×Unit×List PgD×Unit)=>
 bif decide (x.1.2.2.1<d.2.2.1) then
 bif inB (W (d.2.1+x.1.2.2.1)) x.2.2.1.length then
 bif (x.2.2.1.getD (W (d.2.1+x.1.2.2.1)).toNat PG0).1 != 0 then some (Sum.inr (Sum.inl (([],20,()),(),x.2.2.1,())))
 else bif inB (W (d.2.1+x.1.2.2.1)) x.2.2.1.length then some (Sum.inl ((x.1.1,x.1.2.1,W (x.1.2.2.1+1),()),(),x.2.2.1.set (W (d.2.1+x.1.2.2.1)).toNat (d.2.2.2.2.1.1,d.2.2.2.2.1.2.1,d.2.2.2.2.1.2.2.1,d.2.2.2.2.1.2.2.2.1,()),()))
 else none
 else none
 else some (Sum.inr (Sum.inr ((x.1.1,x.1.2.1,()),(),x.2.2.1,())))) (([],0,0,()),(),d.1,())).bind
 fun (r:(List PgD×Int×Unit)×Unit×List PgD×Unit⊕(List PgD×Int×Unit)×Unit×List PgD×Unit)=>Sum.elim (fun (x:(List PgD×Int×Unit)×Unit×List PgD×Unit)=>none) (fun (y:(List PgD×Int×Unit)×Unit×List PgD×Unit)=>
 bif inB d.2.1 y.2.2.1.length then some ((y.2.2.1.set d.2.1.toNat (d.2.2.2.1.1,d.2.2.2.1.2.1,d.2.2.2.1.2.2.1,d.2.2.2.1.2.2.2.1,()),0,()),())
 else none) r
 else none:=by
  unfold F_r04_take_o
  funext d
  kernel_rfl
theorem zlQ:F_r04_Small_o=fun (d:(List PgD)×Int×Int×Unit)=>
 bif bif decide (d.2.2.1<0) then true
 else decide (d.2.2.1 > 1) then some (([],1,()),())
 else (F_r04_take_o (d.1,d.2.1,1,(1,d.2.2.1,0,0,()),PG0,())).bind
 fun (r:(List PgD×Int×Unit)×Unit)=>some ((r.1.1,r.1.2.1,()),()):=by
  unfold F_r04_Small_o
  funext d
  kernel_rfl
theorem znD:F_r03_Encode=fun (d:(Int×Int×Int×Unit)×Unit)=>(F_r03_Valid ((d.1.1,d.1.2.1,d.1.2.2.1,()),())).bind
 fun (r:(Bool×Unit)×Unit)=>
 bif !r.1.1 then some ((0,1,()),())
 else bif !decide (16<0) then some ((U (U (U (1+U (4*U d.1.1))+U (16*U d.1.2.1))+U (U d.1.2.2.1*2 ^ min (Int.toNat 16) IntKind.u64.bits)),0,()),())
 else none:=by
  unfold F_r03_Encode
  funext d
  kernel_rfl
theorem zph:F_r02_Write=fun (d:List Int×Int×List Int×Unit)=>(F_r02_span (d.1,d.2.1,(d.2.2.1.length:Int),())).bind
 fun (r:(Int×Bool×Unit)×Unit)=>
 bif !r.1.2.1 then some (([],2,()),())
 else bif zaJ (0+d.1.length) 8 then (rl ((Int×Unit)×Unit×List Int×Unit) (Unit×Unit×List Int×Unit) (fun (x:(Int×Unit)×Unit×List Int×Unit)=>
 bif decide (x.1.1<(d.2.2.1.length:Int)) then
 bif inB x.1.1 d.2.2.1.length then
 bif inB (W (r.1.1+x.1.1)) x.2.2.1.length then some (Sum.inl ((W (x.1.1+1),()),(),x.2.2.1.set (W (r.1.1+x.1.1)).toNat (d.2.2.1.getD x.1.1.toNat 0),()))
 else none
 else none
 else some (Sum.inr ((),(),x.2.2.1,()))) ((0,()),(),d.1,())).bind
 fun (r:Unit×Unit×List Int×Unit)=>some ((r.2.2.1,0,()),())
 else none:=by
  unfold F_r02_Write
  funext d
  kernel_rfl
theorem zuZ:F_r04_Of=fun (d:(Int×Int×Unit)×Int×Unit)=>(F_r04_ValidConf ((d.1.1,d.1.2.1,()),())).bind
 fun (r:(Bool×Unit)×Unit)=>
 bif !r.1.1 then some ((0,0,1,()),())
 else bif
 bif decide (d.2.1<4096) then true
 else decide (d.2.1 >= U (W (4096+W (d.1.2.1*d.1.1)))) then some ((0,0,2,()),())
 else bif !d.1.1 == 0 then
 bif !d.1.1 == 0 then some ((W ((W (U (d.2.1-4096))).tdiv d.1.1),(W (U (d.2.1-4096))).tmod d.1.1,0,()),())
 else none
 else none:=by
  unfold F_r04_Of
  funext d
  kernel_rfl
theorem zpj:F_r02_Index=fun (d:List Int×Int×Unit)=>(F_r02_span (d.1,d.2.1,1,())).bind
 fun (r:(Int×Bool×Unit)×Unit)=>
 bif !r.1.2.1 then some ((0,2,()),())
 else some ((r.1.1,0,()),()):=by
  unfold F_r02_Index
  funext d
  kernel_rfl
theorem zq6:F_r02_Load=fun (d:List Int×Int×Unit)=>(F_r02_Index (d.1,d.2.1,())).bind
 fun (r:(Int×Int×Unit)×Unit)=>
 bif r.1.2.1 != 0 then some ((0,r.1.2.1,()),())
 else bif inB r.1.1 d.1.length then some ((d.1.getD r.1.1.toNat 0,0,()),())
 else none:=by
  unfold F_r02_Load
  funext d
  kernel_rfl
theorem zid:F_made_World_Pin=fun (d:(((Int×Int×Unit)×List Int×(List PgD)×Int×Int×Unit)×List Int×List Int×Unit)×(List Int×Int×Unit)×Unit)=>(F_made_World_pick ((((d.1.1.1.1,d.1.1.1.2.1,()),d.1.1.2.1,d.1.1.2.2.1,d.1.1.2.2.2.1,d.1.1.2.2.2.2.1,()),d.1.2.1,d.1.2.2.1,()),(d.2.1.1,d.2.1.2.1,()),())).bind
 fun (r:(Int×Unit)×(List Int×Int×Unit)×Unit)=>(F_r04_Of ((d.1.1.1.1,d.1.1.1.2.1,()),r.1.1,())).bind
 fun (r_1:(Int×Int×Int×Unit)×Unit)=>
 bif r_1.1.2.2.1 != 0 then some (((((d.1.1.1.1,d.1.1.1.2.1,()),d.1.1.2.1,d.1.1.2.2.1,d.1.1.2.2.2.1,d.1.1.2.2.2.2.1,()),d.1.2.1,d.1.2.2.1,()),()),(r.2.1.1,r.2.1.2.1,()),())
 else bif zaJ (0+d.1.1.2.2.1.length) 32 then
 bif inB r_1.1.1 (d.1.1.2.2.1).length then
 bif decide (((d.1.1.2.2.1).getD r_1.1.1.toNat PG0).2.2.2.1 > 0) then (F_made_Tape_Next ((r.2.1.1,r.2.1.2.1,()),2,())).bind
 fun (r:(Int×Unit)×(List Int×Int×Unit)×Unit)=>
 bif r.1.1 == 0 then some (((((d.1.1.1.1,d.1.1.1.2.1,()),d.1.1.2.1,(d.1.1.2.2.1).set r_1.1.1.toNat (((d.1.1.2.2.1).getD r_1.1.1.toNat PG0).1,((d.1.1.2.2.1).getD r_1.1.1.toNat PG0).2.1,((d.1.1.2.2.1).getD r_1.1.1.toNat PG0).2.2.1,W (((d.1.1.2.2.1).getD r_1.1.1.toNat PG0).2.2.2.1-1),()),d.1.1.2.2.2.1,d.1.1.2.2.2.2.1,()),d.1.2.1,d.1.2.2.1,()),()),(r.2.1.1,r.2.1.2.1,()),())
 else bif decide (((d.1.1.2.2.1).getD r_1.1.1.toNat PG0).2.2.2.1 > 0) then some (((((d.1.1.1.1,d.1.1.1.2.1,()),d.1.1.2.1,(d.1.1.2.2.1).set r_1.1.1.toNat (((d.1.1.2.2.1).getD r_1.1.1.toNat PG0).1,((d.1.1.2.2.1).getD r_1.1.1.toNat PG0).2.1,((d.1.1.2.2.1).getD r_1.1.1.toNat PG0).2.2.1,W (((d.1.1.2.2.1).getD r_1.1.1.toNat PG0).2.2.2.1+1),()),d.1.1.2.2.2.1,d.1.1.2.2.2.2.1,()),d.1.2.1,d.1.2.2.1,()),()),(r.2.1.1,r.2.1.2.1,()),())
 else bif ((d.1.1.2.2.1).getD r_1.1.1.toNat PG0).1 == 2 then some (((((d.1.1.1.1,d.1.1.1.2.1,()),d.1.1.2.1,(d.1.1.2.2.1).set r_1.1.1.toNat (((d.1.1.2.2.1).getD r_1.1.1.toNat PG0).1,((d.1.1.2.2.1).getD r_1.1.1.toNat PG0).2.1,((d.1.1.2.2.1).getD r_1.1.1.toNat PG0).2.2.1,W (((d.1.1.2.2.1).getD r_1.1.1.toNat PG0).2.2.2.1+1),()),d.1.1.2.2.2.1,d.1.1.2.2.2.2.1,()),d.1.2.1,d.1.2.2.1,()),()),(r.2.1.1,r.2.1.2.1,()),())
 else (F_made_crowd (((d.1.1.1.1,d.1.1.1.2.1,()),d.1.1.2.1,d.1.1.2.2.1,d.1.1.2.2.2.1,d.1.1.2.2.2.2.1,()),())).bind
 fun (r_2:(Int×Unit)×Unit)=>
 bif !4 == 0 then
 bif decide (r_2.1.1<W (d.1.1.1.2.1.tdiv 4)) then some (((((d.1.1.1.1,d.1.1.1.2.1,()),d.1.1.2.1,(d.1.1.2.2.1).set r_1.1.1.toNat (((d.1.1.2.2.1).getD r_1.1.1.toNat PG0).1,((d.1.1.2.2.1).getD r_1.1.1.toNat PG0).2.1,((d.1.1.2.2.1).getD r_1.1.1.toNat PG0).2.2.1,W (((d.1.1.2.2.1).getD r_1.1.1.toNat PG0).2.2.2.1+1),()),d.1.1.2.2.2.1,d.1.1.2.2.2.2.1,()),d.1.2.1,d.1.2.2.1,()),()),(r.2.1.1,r.2.1.2.1,()),())
 else some (((((d.1.1.1.1,d.1.1.1.2.1,()),d.1.1.2.1,d.1.1.2.2.1,d.1.1.2.2.2.1,d.1.1.2.2.2.2.1,()),d.1.2.1,d.1.2.2.1,()),()),(r.2.1.1,r.2.1.2.1,()),())
 else none
 else bif decide (((d.1.1.2.2.1).getD r_1.1.1.toNat PG0).2.2.2.1 > 0) then some (((((d.1.1.1.1,d.1.1.1.2.1,()),d.1.1.2.1,(d.1.1.2.2.1).set r_1.1.1.toNat (((d.1.1.2.2.1).getD r_1.1.1.toNat PG0).1,((d.1.1.2.2.1).getD r_1.1.1.toNat PG0).2.1,((d.1.1.2.2.1).getD r_1.1.1.toNat PG0).2.2.1,W (((d.1.1.2.2.1).getD r_1.1.1.toNat PG0).2.2.2.1+1),()),d.1.1.2.2.2.1,d.1.1.2.2.2.2.1,()),d.1.2.1,d.1.2.2.1,()),()),(r.2.1.1,r.2.1.2.1,()),())
 else bif ((d.1.1.2.2.1).getD r_1.1.1.toNat PG0).1 == 2 then some (((((d.1.1.1.1,d.1.1.1.2.1,()),d.1.1.2.1,(d.1.1.2.2.1).set r_1.1.1.toNat (((d.1.1.2.2.1).getD r_1.1.1.toNat PG0).1,((d.1.1.2.2.1).getD r_1.1.1.toNat PG0).2.1,((d.1.1.2.2.1).getD r_1.1.1.toNat PG0).2.2.1,W (((d.1.1.2.2.1).getD r_1.1.1.toNat PG0).2.2.2.1+1),()),d.1.1.2.2.2.1,d.1.1.2.2.2.2.1,()),d.1.2.1,d.1.2.2.1,()),()),(r.2.1.1,r.2.1.2.1,()),())
 else (F_made_crowd (((d.1.1.1.1,d.1.1.1.2.1,()),d.1.1.2.1,d.1.1.2.2.1,d.1.1.2.2.2.1,d.1.1.2.2.2.2.1,()),())).bind
 fun (r_2:(Int×Unit)×Unit)=>
 bif !4 == 0 then
 bif decide (r_2.1.1<W (d.1.1.1.2.1.tdiv 4)) then some (((((d.1.1.1.1,d.1.1.1.2.1,()),d.1.1.2.1,(d.1.1.2.2.1).set r_1.1.1.toNat (((d.1.1.2.2.1).getD r_1.1.1.toNat PG0).1,((d.1.1.2.2.1).getD r_1.1.1.toNat PG0).2.1,((d.1.1.2.2.1).getD r_1.1.1.toNat PG0).2.2.1,W (((d.1.1.2.2.1).getD r_1.1.1.toNat PG0).2.2.2.1+1),()),d.1.1.2.2.2.1,d.1.1.2.2.2.2.1,()),d.1.2.1,d.1.2.2.1,()),()),(r.2.1.1,r.2.1.2.1,()),())
 else some (((((d.1.1.1.1,d.1.1.1.2.1,()),d.1.1.2.1,d.1.1.2.2.1,d.1.1.2.2.2.1,d.1.1.2.2.2.2.1,()),d.1.2.1,d.1.2.2.1,()),()),(r.2.1.1,r.2.1.2.1,()),())
 else none
 else none
 else none:=by
  unfold F_made_World_Pin
  funext d
  kernel_rfl
theorem zqW:F_r06_Page=fun (d:((Int×Int×Unit)×List Int×(List PgD)×Int×Int×Unit)×Int×Unit)=>(F_r04_Proper (((d.1.1.1,d.1.1.2.1,()),d.1.2.1,d.1.2.2.1,d.1.2.2.2.1,d.1.2.2.2.2.1,()),())).bind
 fun (r:(Bool×Unit)×Unit)=>
 bif !r.1.1 then some (([],1,()),())
 else bif
 bif decide (d.2.1<0) then true
 else decide (d.2.1 >= (d.1.2.2.1.length:Int)) then some (([],2,()),())
 else bif inB d.2.1 d.1.2.2.1.length then
 bif bif (d.1.2.2.1.getD d.2.1.toNat PG0).1 == 0 then true
 else (d.1.2.2.1.getD d.2.1.toNat PG0).1 == 3 then some (([],0,()),())
 else (rl ((List Int×Int×Unit×Int×Unit)×(List Int×Unit)×Unit) ((List Int×Int×Unit)×Unit×Unit⊕(List Int×Int×Unit×Unit)×(List Int×Unit)×Unit) (fun (x:(List Int×Int×Unit×Int×Unit)×(List Int×Unit)×Unit)=>
 bif decide (x.1.2.2.2.1<(d.1.2.2.1.getD d.2.1.toNat PG0).2.2.1) then (F_r04_Address ((d.1.1.1,d.1.1.2.1,()),d.2.1,x.1.2.2.2.1,())).bind
 fun (r:(Int×Int×Unit)×Unit)=>(F_r05_At (((d.1.1.1,d.1.1.2.1,()),d.1.2.1,d.1.2.2.1,d.1.2.2.2.1,d.1.2.2.2.2.1,()),r.1.1,())).bind
 fun (r_1:((Int×Int×Int×Unit)×Int×Unit)×Unit)=>
 bif r_1.1.2.1 != 0 then some (Sum.inr (Sum.inl (([],19,()),(),())))
 else bif zaJ (x.2.1.1.length + [r.1.1].length) 8 then
 bif (d.1.2.2.1.getD d.2.1.toNat PG0).1 == 2 then some (Sum.inr (Sum.inr ((x.1.1,x.1.2.1,(),()),(x.2.1.1++[r.1.1],()),())))
 else (F_r03_Size ((r_1.1.1.1,r_1.1.1.2.1,r_1.1.1.2.2.1,()),())).bind
 fun (r_2:(Int×Unit)×Unit)=>some (Sum.inl ((x.1.1,x.1.2.1,(),W (x.1.2.2.2.1+r_2.1.1),()),(x.2.1.1++[r.1.1],()),()))
 else none
 else some (Sum.inr (Sum.inr ((x.1.1,x.1.2.1,(),()),(x.2.1.1,()),())))) (([],0,(),0,()),([],()),())).bind
 fun (r:(List Int×Int×Unit)×Unit×Unit⊕(List Int×Int×Unit×Unit)×(List Int×Unit)×Unit)=>Sum.elim (fun (x:(List Int×Int×Unit)×Unit×Unit)=>some ((x.1.1,x.1.2.1,()),())) (fun (y:(List Int×Int×Unit×Unit)×(List Int×Unit)×Unit)=>some ((y.2.1.1,0,()),())) r
 else none:=by
  unfold F_r06_Page
  funext d
  kernel_rfl
theorem zq4:F_r02_Read=fun (d:List Int×Int×Int×Unit)=>
 bif decide (d.2.2.1<0) then some (([],1,()),())
 else (F_r02_span (d.1,d.2.1,d.2.2.1,())).bind
 fun (r:(Int×Bool×Unit)×Unit)=>
 bif !r.1.2.1 then some (([],2,()),())
 else bif decide (0<=r.1.1/\r.1.1<=W (r.1.1+d.2.2.1)/\W (r.1.1+d.2.2.1)<=(d.1.length:Int)) then
 bif zaJ (0+(List.drop r.1.1.toNat (List.take (W (r.1.1+d.2.2.1)).toNat d.1)).length) 8 then some (([]++List.drop r.1.1.toNat (List.take (W (r.1.1+d.2.2.1)).toNat d.1),0,()),())
 else none
 else none:=by
  unfold F_r02_Read
  funext d
  kernel_rfl
theorem znx:F_r09_Refers=fun (d:((Int×Int×Unit)×List Int×(List PgD)×Int×Int×Unit)×List Int×Unit)=>(F_r09_Good (((d.1.1.1,d.1.1.2.1,()),d.1.2.1,d.1.2.2.1,d.1.2.2.2.1,d.1.2.2.2.2.1,()),())).bind
 fun (r:(Bool×Unit)×Unit)=>
 bif !r.1.1 then some ((false,()),())
 else (F_r06_Objects (((d.1.1.1,d.1.1.2.1,()),d.1.2.1,d.1.2.2.1,d.1.2.2.2.1,d.1.2.2.2.2.1,()),())).bind
 fun (r:(List Int×Int×Unit)×Unit)=>(rl ((Bool×Int×Unit)×Unit×Unit) ((Bool×Unit)×Unit×Unit⊕(Bool×Unit)×Unit×Unit) (fun (x:(Bool×Int×Unit)×Unit×Unit)=>
 bif decide (x.1.2.1<(d.2.1.length:Int)) then
 bif inB x.1.2.1 d.2.1.length then
 bif bif d.2.1.getD x.1.2.1.toNat 0 != 0 then inB x.1.2.1 d.2.1.length
 else true then
 bif d.2.1.getD x.1.2.1.toNat 0 != 0 then (F_r06_Has (r.1.1,d.2.1.getD x.1.2.1.toNat 0,())).bind
 fun (r:(Bool×Unit)×Unit)=>
 bif !r.1.1 then some (Sum.inr (Sum.inl ((false,()),(),())))
 else some (Sum.inl ((x.1.1,W (x.1.2.1+1),()),(),()))
 else some (Sum.inl ((x.1.1,W (x.1.2.1+1),()),(),()))
 else none
 else none
 else some (Sum.inr (Sum.inr ((x.1.1,()),(),())))) ((false,0,()),(),())).bind
 fun (r:(Bool×Unit)×Unit×Unit⊕(Bool×Unit)×Unit×Unit)=>Sum.elim (fun (x:(Bool×Unit)×Unit×Unit)=>some ((x.1.1,()),())) (fun (y:(Bool×Unit)×Unit×Unit)=>some ((true,()),())) r:=by
  unfold F_r09_Refers
  funext d
  kernel_rfl
theorem zqN:F_r10_keep=fun (d:(((Int×Int×Unit)×List Int×(List PgD)×Int×Int×Unit)×List Int×List Int×List Int×Int×(Int×Int×Int×Int×Int×Int×Unit)×Unit)×Int×Unit)=>
 bif zaJ (0+d.1.2.2.2.1.length) 8 then
 bif zaJ ((d.1.2.2.2.1).length + [d.2.1].length) 8 then some (((((d.1.1.1.1,d.1.1.1.2.1,()),d.1.1.2.1,d.1.1.2.2.1,d.1.1.2.2.2.1,d.1.1.2.2.2.2.1,()),d.1.2.1,d.1.2.2.1,d.1.2.2.2.1++[d.2.1],d.1.2.2.2.2.1,(d.1.2.2.2.2.2.1.1,W (d.1.2.2.2.2.2.1.2.1+1),d.1.2.2.2.2.2.1.2.2.1,d.1.2.2.2.2.2.1.2.2.2.1,d.1.2.2.2.2.2.1.2.2.2.2.1,d.1.2.2.2.2.2.1.2.2.2.2.2.1,()),()),()),())
 else none
 else none:=by
  unfold F_r10_keep
  funext d
  kernel_rfl
theorem zlN:F_r10_Forward=fun (d:(((Int×Int×Unit)×List Int×(List PgD)×Int×Int×Unit)×List Int×List Int×List Int×Int×(Int×Int×Int×Int×Int×Int×Unit)×Unit)×Int×Unit)=>
 bif d.2.1 == 0 then some (((((d.1.1.1.1,d.1.1.1.2.1,()),d.1.1.2.1,d.1.1.2.2.1,d.1.1.2.2.2.1,d.1.1.2.2.2.2.1,()),d.1.2.1,d.1.2.2.1,d.1.2.2.2.1,d.1.2.2.2.2.1,(d.1.2.2.2.2.2.1.1,d.1.2.2.2.2.2.1.2.1,d.1.2.2.2.2.2.1.2.2.1,d.1.2.2.2.2.2.1.2.2.2.1,d.1.2.2.2.2.2.1.2.2.2.2.1,d.1.2.2.2.2.2.1.2.2.2.2.2.1,()),()),d.2.1,0,()),())
 else (F_r06_Has (d.1.2.2.2.1,d.2.1,())).bind
 fun (r:(Bool×Unit)×Unit)=>
 bif r.1.1 then some (((((d.1.1.1.1,d.1.1.1.2.1,()),d.1.1.2.1,d.1.1.2.2.1,d.1.1.2.2.2.1,d.1.1.2.2.2.2.1,()),d.1.2.1,d.1.2.2.1,d.1.2.2.2.1,d.1.2.2.2.2.1,(d.1.2.2.2.2.2.1.1,d.1.2.2.2.2.2.1.2.1,d.1.2.2.2.2.2.1.2.2.1,d.1.2.2.2.2.2.1.2.2.2.1,d.1.2.2.2.2.2.1.2.2.2.2.1,d.1.2.2.2.2.2.1.2.2.2.2.2.1,()),()),d.2.1,0,()),())
 else (F_r06_Has (d.1.2.1,d.2.1,())).bind
 fun (r:(Bool×Unit)×Unit)=>
 bif !r.1.1 then some (((H0,[],[],[],0,(0,0,0,0,0,0,()),()),0,19,()),())
 else (F_r02_Load (d.1.1.2.1,d.2.1,())).bind
 fun (r:(Int×Int×Unit)×Unit)=>(F_r03_Target (r.1.1,())).bind
 fun (r_1:(Int×Bool×Unit)×Unit)=>
 bif r_1.1.2.1 then some (((((d.1.1.1.1,d.1.1.1.2.1,()),d.1.1.2.1,d.1.1.2.2.1,d.1.1.2.2.2.1,d.1.1.2.2.2.2.1,()),d.1.2.1,d.1.2.2.1,d.1.2.2.2.1,d.1.2.2.2.2.1,(d.1.2.2.2.2.2.1.1,d.1.2.2.2.2.2.1.2.1,d.1.2.2.2.2.2.1.2.2.1,d.1.2.2.2.2.2.1.2.2.2.1,d.1.2.2.2.2.2.1.2.2.2.2.1,d.1.2.2.2.2.2.1.2.2.2.2.2.1,()),()),r_1.1.1,0,()),())
 else (F_r04_Of ((d.1.1.1.1,d.1.1.1.2.1,()),d.2.1,())).bind
 fun (r_2:(Int×Int×Int×Unit)×Unit)=>
 bif bif r_2.1.2.2.1 != 0 then true
 else decide (r_2.1.1 >= (d.1.1.2.2.1.length:Int)) then some (((H0,[],[],[],0,(0,0,0,0,0,0,()),()),0,19,()),())
 else (F_r10_Promoted ((((d.1.1.1.1,d.1.1.1.2.1,()),d.1.1.2.1,d.1.1.2.2.1,d.1.1.2.2.2.1,d.1.1.2.2.2.2.1,()),d.1.2.1,d.1.2.2.1,d.1.2.2.2.1,d.1.2.2.2.2.1,(d.1.2.2.2.2.2.1.1,d.1.2.2.2.2.2.1.2.1,d.1.2.2.2.2.2.1.2.2.1,d.1.2.2.2.2.2.1.2.2.2.1,d.1.2.2.2.2.2.1.2.2.2.2.1,d.1.2.2.2.2.2.1.2.2.2.2.2.1,()),()),r_2.1.1,())).bind
 fun (r_3:(Bool×Unit)×Unit)=>
 bif r_3.1.1 then (F_r10_keep ((((d.1.1.1.1,d.1.1.1.2.1,()),d.1.1.2.1,d.1.1.2.2.1,d.1.1.2.2.2.1,d.1.1.2.2.2.2.1,()),d.1.2.1,d.1.2.2.1,d.1.2.2.2.1,d.1.2.2.2.2.1,(d.1.2.2.2.2.2.1.1,d.1.2.2.2.2.2.1.2.1,d.1.2.2.2.2.2.1.2.2.1,d.1.2.2.2.2.2.1.2.2.2.1,d.1.2.2.2.2.2.1.2.2.2.2.1,d.1.2.2.2.2.2.1.2.2.2.2.2.1,()),()),d.2.1,())).bind
 fun (r:((HpD×List Int×List Int×List Int×Int×(Int×Int×Int×Int×Int×Int×Unit)×Unit)×Unit)×Unit)=>some (((((r.1.1.1.1.1,r.1.1.1.1.2.1,()),r.1.1.1.2.1,r.1.1.1.2.2.1,r.1.1.1.2.2.2.1,r.1.1.1.2.2.2.2.1,()),r.1.1.2.1,r.1.1.2.2.1,r.1.1.2.2.2.1,r.1.1.2.2.2.2.1,(r.1.1.2.2.2.2.2.1.1,r.1.1.2.2.2.2.2.1.2.1,r.1.1.2.2.2.2.2.1.2.2.1,r.1.1.2.2.2.2.2.1.2.2.2.1,r.1.1.2.2.2.2.2.1.2.2.2.2.1,r.1.1.2.2.2.2.2.1.2.2.2.2.2.1,()),()),d.2.1,0,()),())
 else bif inB r_2.1.1 d.1.1.2.2.1.length then
 bif bif (d.1.1.2.2.1.getD r_2.1.1.toNat PG0).1 == 2 then zaJ (0+d.1.1.2.2.1.length) 32
 else true then
 bif bif (d.1.1.2.2.1.getD r_2.1.1.toNat PG0).1 == 2 then inB r_2.1.1 (d.1.1.2.2.1).length
 else true then
 bif (d.1.1.2.2.1.getD r_2.1.1.toNat PG0).1 == 2 then (rl ((Int×Unit)×Unit×List PgD×Unit) (Unit×Unit×List PgD×Unit) (fun (x:(Int×Unit)×Unit×List PgD×Unit)=>
 bif bif decide (x.1.1<(x.2.2.1.length:Int)) then inB x.1.1 x.2.2.1.length
 else true then
 bif bif decide (x.1.1<(x.2.2.1.length:Int)) then (x.2.2.1.getD x.1.1.toNat PG0).1 == 3
 else false then
 bif inB x.1.1 x.2.2.1.length then some (Sum.inl ((W (x.1.1+1),()),(),x.2.2.1.set x.1.1.toNat ((x.2.2.1.getD x.1.1.toNat PG0).1,W (1-d.1.1.2.2.2.1),(x.2.2.1.getD x.1.1.toNat PG0).2.2.1,(x.2.2.1.getD x.1.1.toNat PG0).2.2.2.1,()),()))
 else none
 else some (Sum.inr ((),(),x.2.2.1,()))
 else none) ((W (r_2.1.1+1),()),(),(d.1.1.2.2.1).set r_2.1.1.toNat (((d.1.1.2.2.1).getD r_2.1.1.toNat PG0).1,W (1-d.1.1.2.2.2.1),((d.1.1.2.2.1).getD r_2.1.1.toNat PG0).2.2.1,((d.1.1.2.2.1).getD r_2.1.1.toNat PG0).2.2.2.1,()),())).bind
 fun (r:Unit×Unit×List PgD×Unit)=>(F_r10_keep ((((d.1.1.1.1,d.1.1.1.2.1,()),d.1.1.2.1,r.2.2.1,d.1.1.2.2.2.1,d.1.1.2.2.2.2.1,()),d.1.2.1,d.1.2.2.1,d.1.2.2.2.1,d.1.2.2.2.2.1,(d.1.2.2.2.2.2.1.1,d.1.2.2.2.2.2.1.2.1,d.1.2.2.2.2.2.1.2.2.1,d.1.2.2.2.2.2.1.2.2.2.1,d.1.2.2.2.2.2.1.2.2.2.2.1,d.1.2.2.2.2.2.1.2.2.2.2.2.1,()),()),d.2.1,())).bind
 fun (r:((HpD×List Int×List Int×List Int×Int×(Int×Int×Int×Int×Int×Int×Unit)×Unit)×Unit)×Unit)=>some (((((r.1.1.1.1.1,r.1.1.1.1.2.1,()),r.1.1.1.2.1,r.1.1.1.2.2.1,r.1.1.1.2.2.2.1,r.1.1.1.2.2.2.2.1,()),r.1.1.2.1,r.1.1.2.2.1,r.1.1.2.2.2.1,r.1.1.2.2.2.2.1,(r.1.1.2.2.2.2.2.1.1,r.1.1.2.2.2.2.2.1.2.1,r.1.1.2.2.2.2.2.1.2.2.1,r.1.1.2.2.2.2.2.1.2.2.2.1,r.1.1.2.2.2.2.2.1.2.2.2.2.1,r.1.1.2.2.2.2.2.1.2.2.2.2.2.1,()),()),d.2.1,0,()),())
 else (F_r03_Decode (r.1.1,())).bind
 fun (r:((Int×Int×Int×Unit)×Bool×Unit)×Unit)=>(F_r03_Size ((r.1.1.1,r.1.1.2.1,r.1.1.2.2.1,()),())).bind
 fun (r:(Int×Unit)×Unit)=>(F_r10_place ((((d.1.1.1.1,d.1.1.1.2.1,()),d.1.1.2.1,d.1.1.2.2.1,d.1.1.2.2.2.1,d.1.1.2.2.2.2.1,()),d.1.2.1,d.1.2.2.1,d.1.2.2.2.1,d.1.2.2.2.2.1,(d.1.2.2.2.2.2.1.1,d.1.2.2.2.2.2.1.2.1,d.1.2.2.2.2.2.1.2.2.1,d.1.2.2.2.2.2.1.2.2.2.1,d.1.2.2.2.2.2.1.2.2.2.2.1,d.1.2.2.2.2.2.1.2.2.2.2.2.1,()),()),r.1.1,())).bind
 fun (r_4:((HpD×List Int×List Int×List Int×Int×(Int×Int×Int×Int×Int×Int×Unit)×Unit)×Int×Bool×Unit)×Unit)=>
 bif !r_4.1.2.2.1 then some (((H0,[],[],[],0,(0,0,0,0,0,0,()),()),0,3,()),())
 else (F_r02_Move (r_4.1.1.1.2.1,r_4.1.2.1,d.2.1,r.1.1,())).bind
 fun (r:(List Int×Int×Unit)×Unit)=>(F_r03_Forward (r_4.1.2.1,())).bind
 fun (r_5:(Int×Int×Unit)×Unit)=>(F_r02_Store (r.1.1,d.2.1,r_5.1.1,())).bind
 fun (r:(List Int×Int×Unit)×Unit)=>
 bif zaJ (0+r_4.1.1.2.2.2.1.length) 8 then
 bif zaJ ((r_4.1.1.2.2.2.1).length + [r_4.1.2.1].length) 8 then some (((((r_4.1.1.1.1.1,r_4.1.1.1.1.2.1,()),r.1.1,r_4.1.1.1.2.2.1,r_4.1.1.1.2.2.2.1,r_4.1.1.1.2.2.2.2.1,()),r_4.1.1.2.1,r_4.1.1.2.2.1,r_4.1.1.2.2.2.1++[r_4.1.2.1],r_4.1.1.2.2.2.2.1,(W (r_4.1.1.2.2.2.2.2.1.1+1),r_4.1.1.2.2.2.2.2.1.2.1,r_4.1.1.2.2.2.2.2.1.2.2.1,r_4.1.1.2.2.2.2.2.1.2.2.2.1,r_4.1.1.2.2.2.2.2.1.2.2.2.2.1,r_4.1.1.2.2.2.2.2.1.2.2.2.2.2.1,()),()),r_4.1.2.1,0,()),())
 else none
 else none
 else none
 else none
 else none:=by
  unfold F_r10_Forward
  funext d
  kernel_rfl
theorem ztg:F_r10_Get=fun (d:(((Int×Int×Unit)×List Int×(List PgD)×Int×Int×Unit)×List Int×List Int×List Int×Int×(Int×Int×Int×Int×Int×Int×Unit)×Unit)×Int×Unit)=>(F_r02_Load (d.1.1.2.1,d.2.1,())).bind
 fun (r:(Int×Int×Unit)×Unit)=>(F_r03_Decode (r.1.1,())).bind
 fun (r:((Int×Int×Int×Unit)×Bool×Unit)×Unit)=>some (((r.1.1.1,r.1.1.2.1,r.1.1.2.2.1,()),()),()):=by
  unfold F_r10_Get
  funext d
  kernel_rfl
theorem zky:F_r03_Pointers=fun (d:(Int×Int×Int×Unit)×Unit)=>(rl ((Unit×Int×Unit)×(List Int×Unit)×Unit) ((Unit×Unit)×(List Int×Unit)×Unit) (fun (x:(Unit×Int×Unit)×(List Int×Unit)×Unit)=>
 bif decide (x.1.2.1<d.1.2.1) then (F_r03_Valid ((d.1.1,d.1.2.1,d.1.2.2.1,()),())).bind
 fun (r:(Bool×Unit)×Unit)=>
 bif r.1.1 then (F_r03_Pointer ((d.1.1,d.1.2.1,d.1.2.2.1,()),x.1.2.1,())).bind
 fun (r:(Bool×Unit)×Unit)=>
 bif bif r.1.1 then zaJ (x.2.1.1.length + [x.1.2.1].length) 8
 else true then
 bif r.1.1 then some (Sum.inl (((),W (x.1.2.1+1),()),(x.2.1.1++[x.1.2.1],()),()))
 else some (Sum.inl (((),W (x.1.2.1+1),()),(x.2.1.1,()),()))
 else none
 else some (Sum.inr (((),()),(x.2.1.1,()),()))
 else some (Sum.inr (((),()),(x.2.1.1,()),()))) (((),0,()),([],()),())).bind
 fun (r:(Unit×Unit)×(List Int×Unit)×Unit)=>some ((r.2.1.1,()),()):=by
  unfold F_r03_Pointers
  funext d
  kernel_rfl
theorem zo1:F_r12_after=fun (d:(((Int×Int×Unit)×List Int×(List PgD)×Int×Int×Unit)×List Int×List Int×List Int×Int×(Int×Int×Int×Int×Int×Int×Unit)×Unit)×Int×Unit)=>(F_r06_Has (d.1.2.2.2.1,d.2.1,())).bind
 fun (r:(Bool×Unit)×Unit)=>
 bif r.1.1 then some ((d.2.1,()),())
 else (F_r02_Load (d.1.1.2.1,d.2.1,())).bind
 fun (r:(Int×Int×Unit)×Unit)=>(F_r03_Target (r.1.1,())).bind
 fun (r:(Int×Bool×Unit)×Unit)=>some ((r.1.1,()),()):=by
  unfold F_r12_after
  funext d
  kernel_rfl
theorem zlM:F_r12_Collect=fun (d:((Int×Int×Unit)×List Int×(List PgD)×Int×Int×Unit)×List Int×List Int×Unit)=>(F_r04_Proper (((d.1.1.1,d.1.1.2.1,()),d.1.2.1,d.1.2.2.1,d.1.2.2.2.1,d.1.2.2.2.2.1,()),())).bind
 fun (r:(Bool×Unit)×Unit)=>
 bif !r.1.1 then some ((H0,[],[],(0,0,0,0,0,0,()),1,()),())
 else (F_r09_Refers (((d.1.1.1,d.1.1.2.1,()),d.1.2.1,d.1.2.2.1,d.1.2.2.2.1,d.1.2.2.2.2.1,()),d.2.1,())).bind
 fun (r:(Bool×Unit)×Unit)=>
 bif !r.1.1 then some ((H0,[],[],(0,0,0,0,0,0,()),19,()),())
 else (F_r09_Refers (((d.1.1.1,d.1.1.2.1,()),d.1.2.1,d.1.2.2.1,d.1.2.2.2.1,d.1.2.2.2.2.1,()),d.2.2.1,())).bind
 fun (r:(Bool×Unit)×Unit)=>
 bif !r.1.1 then some ((H0,[],[],(0,0,0,0,0,0,()),19,()),())
 else (F_r10_Begin (((d.1.1.1,d.1.1.2.1,()),d.1.2.1,d.1.2.2.1,d.1.2.2.2.1,d.1.2.2.2.2.1,()),())).bind
 fun (r:((HpD×List Int×List Int×List Int×Int×(Int×Int×Int×Int×Int×Int×Unit)×Unit)×Int×Unit)×Unit)=>(F_r11_Roots ((((r.1.1.1.1.1,r.1.1.1.1.2.1,()),r.1.1.1.2.1,r.1.1.1.2.2.1,r.1.1.1.2.2.2.1,r.1.1.1.2.2.2.2.1,()),r.1.1.2.1,r.1.1.2.2.1,r.1.1.2.2.2.1,r.1.1.2.2.2.2.1,(r.1.1.2.2.2.2.2.1.1,r.1.1.2.2.2.2.2.1.2.1,r.1.1.2.2.2.2.2.1.2.2.1,r.1.1.2.2.2.2.2.1.2.2.2.1,r.1.1.2.2.2.2.2.1.2.2.2.2.1,r.1.1.2.2.2.2.2.1.2.2.2.2.2.1,()),()),d.2.1,())).bind
 fun (r:((HpD×List Int×List Int×List Int×Int×(Int×Int×Int×Int×Int×Int×Unit)×Unit)×List Int×Int×Unit)×Unit)=>
 bif r.1.2.2.1 != 0 then some ((H0,[],[],(0,0,0,0,0,0,()),r.1.2.2.1,()),())
 else (F_r11_All ((((r.1.1.1.1.1,r.1.1.1.1.2.1,()),r.1.1.1.2.1,r.1.1.1.2.2.1,r.1.1.1.2.2.2.1,r.1.1.1.2.2.2.2.1,()),r.1.1.2.1,r.1.1.2.2.1,r.1.1.2.2.2.1,r.1.1.2.2.2.2.1,(r.1.1.2.2.2.2.2.1.1,r.1.1.2.2.2.2.2.1.2.1,r.1.1.2.2.2.2.2.1.2.2.1,r.1.1.2.2.2.2.2.1.2.2.2.1,r.1.1.2.2.2.2.2.1.2.2.2.2.1,r.1.1.2.2.2.2.2.1.2.2.2.2.2.1,()),()),())).bind
 fun (r_1:((HpD×List Int×List Int×List Int×Int×(Int×Int×Int×Int×Int×Int×Unit)×Unit)×Int×Unit)×Unit)=>
 bif r_1.1.2.1 != 0 then some ((H0,[],[],(0,0,0,0,0,0,()),r_1.1.2.1,()),())
 else (rl ((Unit×Int×Unit)×(List Int×Unit)×(Int×Int×List Int×List PgD×Int×Int×List Int×List Int×List Int×Int×Int×Int×Int×Int×Int×Int×Unit)×Unit) ((Unit×Unit)×(List Int×Unit)×(Int×Int×List Int×List PgD×Int×Int×List Int×List Int×List Int×Int×Int×Int×Int×Int×Int×Int×Unit)×Unit) (fun (x:(Unit×Int×Unit)×(List Int×Unit)×(Int×Int×List Int×List PgD×Int×Int×List Int×List Int×List Int×Int×Int×Int×Int×Int×Int×Int×Unit)×Unit)=>
 bif decide (x.1.2.1<(d.2.2.1.length:Int)) then
 bif inB x.1.2.1 d.2.2.1.length then
 bif bif d.2.2.1.getD x.1.2.1.toNat 0 != 0 then inB x.1.2.1 d.2.2.1.length
 else true then
 bif d.2.2.1.getD x.1.2.1.toNat 0 != 0 then (F_r12_after ((((x.2.2.1.1,x.2.2.1.2.1,()),x.2.2.1.2.2.1,x.2.2.1.2.2.2.1,x.2.2.1.2.2.2.2.1,x.2.2.1.2.2.2.2.2.1,()),x.2.2.1.2.2.2.2.2.2.1,x.2.2.1.2.2.2.2.2.2.2.1,x.2.2.1.2.2.2.2.2.2.2.2.1,x.2.2.1.2.2.2.2.2.2.2.2.2.1,(x.2.2.1.2.2.2.2.2.2.2.2.2.2.1,x.2.2.1.2.2.2.2.2.2.2.2.2.2.2.1,x.2.2.1.2.2.2.2.2.2.2.2.2.2.2.2.1,x.2.2.1.2.2.2.2.2.2.2.2.2.2.2.2.2.1,x.2.2.1.2.2.2.2.2.2.2.2.2.2.2.2.2.2.1,x.2.2.1.2.2.2.2.2.2.2.2.2.2.2.2.2.2.2.1,()),()),d.2.2.1.getD x.1.2.1.toNat 0,())).bind
 fun (r:(Int×Unit)×Unit)=>
 bif r.1.1 == 0 then
 bif zaJ (x.2.1.1.length + [r.1.1].length) 8 then some (Sum.inl (((),W (x.1.2.1+1),()),(x.2.1.1++[r.1.1],()),(x.2.2.1.1,x.2.2.1.2.1,x.2.2.1.2.2.1,x.2.2.1.2.2.2.1,x.2.2.1.2.2.2.2.1,x.2.2.1.2.2.2.2.2.1,x.2.2.1.2.2.2.2.2.2.1,x.2.2.1.2.2.2.2.2.2.2.1,x.2.2.1.2.2.2.2.2.2.2.2.1,x.2.2.1.2.2.2.2.2.2.2.2.2.1,x.2.2.1.2.2.2.2.2.2.2.2.2.2.1,x.2.2.1.2.2.2.2.2.2.2.2.2.2.2.1,x.2.2.1.2.2.2.2.2.2.2.2.2.2.2.2.1,x.2.2.1.2.2.2.2.2.2.2.2.2.2.2.2.2.1,W (x.2.2.1.2.2.2.2.2.2.2.2.2.2.2.2.2.2.1+1),x.2.2.1.2.2.2.2.2.2.2.2.2.2.2.2.2.2.2.1,()),()))
 else none
 else bif zaJ (x.2.1.1.length + [r.1.1].length) 8 then some (Sum.inl (((),W (x.1.2.1+1),()),(x.2.1.1++[r.1.1],()),(x.2.2.1.1,x.2.2.1.2.1,x.2.2.1.2.2.1,x.2.2.1.2.2.2.1,x.2.2.1.2.2.2.2.1,x.2.2.1.2.2.2.2.2.1,x.2.2.1.2.2.2.2.2.2.1,x.2.2.1.2.2.2.2.2.2.2.1,x.2.2.1.2.2.2.2.2.2.2.2.1,x.2.2.1.2.2.2.2.2.2.2.2.2.1,x.2.2.1.2.2.2.2.2.2.2.2.2.2.1,x.2.2.1.2.2.2.2.2.2.2.2.2.2.2.1,x.2.2.1.2.2.2.2.2.2.2.2.2.2.2.2.1,x.2.2.1.2.2.2.2.2.2.2.2.2.2.2.2.2.1,x.2.2.1.2.2.2.2.2.2.2.2.2.2.2.2.2.2.1,x.2.2.1.2.2.2.2.2.2.2.2.2.2.2.2.2.2.2.1,()),()))
 else none
 else bif zaJ (x.2.1.1.length + [0].length) 8 then some (Sum.inl (((),W (x.1.2.1+1),()),(x.2.1.1++[0],()),(x.2.2.1.1,x.2.2.1.2.1,x.2.2.1.2.2.1,x.2.2.1.2.2.2.1,x.2.2.1.2.2.2.2.1,x.2.2.1.2.2.2.2.2.1,x.2.2.1.2.2.2.2.2.2.1,x.2.2.1.2.2.2.2.2.2.2.1,x.2.2.1.2.2.2.2.2.2.2.2.1,x.2.2.1.2.2.2.2.2.2.2.2.2.1,x.2.2.1.2.2.2.2.2.2.2.2.2.2.1,x.2.2.1.2.2.2.2.2.2.2.2.2.2.2.1,x.2.2.1.2.2.2.2.2.2.2.2.2.2.2.2.1,x.2.2.1.2.2.2.2.2.2.2.2.2.2.2.2.2.1,x.2.2.1.2.2.2.2.2.2.2.2.2.2.2.2.2.2.1,x.2.2.1.2.2.2.2.2.2.2.2.2.2.2.2.2.2.2.1,()),()))
 else none
 else none
 else none
 else some (Sum.inr (((),()),(x.2.1.1,()),(x.2.2.1.1,x.2.2.1.2.1,x.2.2.1.2.2.1,x.2.2.1.2.2.2.1,x.2.2.1.2.2.2.2.1,x.2.2.1.2.2.2.2.2.1,x.2.2.1.2.2.2.2.2.2.1,x.2.2.1.2.2.2.2.2.2.2.1,x.2.2.1.2.2.2.2.2.2.2.2.1,x.2.2.1.2.2.2.2.2.2.2.2.2.1,x.2.2.1.2.2.2.2.2.2.2.2.2.2.1,x.2.2.1.2.2.2.2.2.2.2.2.2.2.2.1,x.2.2.1.2.2.2.2.2.2.2.2.2.2.2.2.1,x.2.2.1.2.2.2.2.2.2.2.2.2.2.2.2.2.1,x.2.2.1.2.2.2.2.2.2.2.2.2.2.2.2.2.2.1,x.2.2.1.2.2.2.2.2.2.2.2.2.2.2.2.2.2.2.1,()),()))) (((),0,()),([],()),(r_1.1.1.1.1.1,r_1.1.1.1.1.2.1,r_1.1.1.1.2.1,r_1.1.1.1.2.2.1,r_1.1.1.1.2.2.2.1,r_1.1.1.1.2.2.2.2.1,r_1.1.1.2.1,r_1.1.1.2.2.1,r_1.1.1.2.2.2.1,r_1.1.1.2.2.2.2.1,r_1.1.1.2.2.2.2.2.1.1,r_1.1.1.2.2.2.2.2.1.2.1,r_1.1.1.2.2.2.2.2.1.2.2.1,r_1.1.1.2.2.2.2.2.1.2.2.2.1,r_1.1.1.2.2.2.2.2.1.2.2.2.2.1,r_1.1.1.2.2.2.2.2.1.2.2.2.2.2.1,()),())).bind
 fun (r_2:(Unit×Unit)×(List Int×Unit)×(Int×Int×List Int×List PgD×Int×Int×List Int×List Int×List Int×Int×Int×Int×Int×Int×Int×Int×Unit)×Unit)=>(F_r12_fill ((((r_2.2.2.1.1,r_2.2.2.1.2.1,()),r_2.2.2.1.2.2.1,r_2.2.2.1.2.2.2.1,r_2.2.2.1.2.2.2.2.1,r_2.2.2.1.2.2.2.2.2.1,()),r_2.2.2.1.2.2.2.2.2.2.1,r_2.2.2.1.2.2.2.2.2.2.2.1,r_2.2.2.1.2.2.2.2.2.2.2.2.1,r_2.2.2.1.2.2.2.2.2.2.2.2.2.1,(r_2.2.2.1.2.2.2.2.2.2.2.2.2.2.1,r_2.2.2.1.2.2.2.2.2.2.2.2.2.2.2.1,r_2.2.2.1.2.2.2.2.2.2.2.2.2.2.2.2.1,r_2.2.2.1.2.2.2.2.2.2.2.2.2.2.2.2.2.1,r_2.2.2.1.2.2.2.2.2.2.2.2.2.2.2.2.2.2.1,r_2.2.2.1.2.2.2.2.2.2.2.2.2.2.2.2.2.2.2.1,()),()),())).bind
 fun (r_3:((HpD×List Int×List Int×List Int×Int×(Int×Int×Int×Int×Int×Int×Unit)×Unit)×Unit)×Unit)=>(F_r12_free ((((r_3.1.1.1.1.1,r_3.1.1.1.1.2.1,()),r_3.1.1.1.2.1,r_3.1.1.1.2.2.1,r_3.1.1.1.2.2.2.1,r_3.1.1.1.2.2.2.2.1,()),r_3.1.1.2.1,r_3.1.1.2.2.1,r_3.1.1.2.2.2.1,r_3.1.1.2.2.2.2.1,(r_3.1.1.2.2.2.2.2.1.1,r_3.1.1.2.2.2.2.2.1.2.1,r_3.1.1.2.2.2.2.2.1.2.2.1,r_3.1.1.2.2.2.2.2.1.2.2.2.1,r_3.1.1.2.2.2.2.2.1.2.2.2.2.1,r_3.1.1.2.2.2.2.2.1.2.2.2.2.2.1,()),()),())).bind
 fun (r_4:((HpD×List Int×List Int×List Int×Int×(Int×Int×Int×Int×Int×Int×Unit)×Unit)×Unit)×Unit)=>
 bif bif decide ((r_4.1.1.2.2.1.length:Int) > 0) then inB (W ((r_4.1.1.2.2.1.length:Int)-1)) r_4.1.1.2.2.1.length
 else true then
 bif decide ((r_4.1.1.2.2.1.length:Int) > 0) then some ((((r_4.1.1.1.1.1,r_4.1.1.1.1.2.1,()),r_4.1.1.1.2.1,r_4.1.1.1.2.2.1,W (1-r_4.1.1.1.2.2.2.1),r_4.1.1.2.2.1.getD (W ((r_4.1.1.2.2.1.length:Int)-1)).toNat 0,()),r.1.2.1,r_2.2.1.1,(r_4.1.1.2.2.2.2.2.1.1,r_4.1.1.2.2.2.2.2.1.2.1,r_4.1.1.2.2.2.2.2.1.2.2.1,r_4.1.1.2.2.2.2.2.1.2.2.2.1,r_4.1.1.2.2.2.2.2.1.2.2.2.2.1,r_4.1.1.2.2.2.2.2.1.2.2.2.2.2.1,()),0,()),())
 else some ((((r_4.1.1.1.1.1,r_4.1.1.1.1.2.1,()),r_4.1.1.1.2.1,r_4.1.1.1.2.2.1,W (1-r_4.1.1.1.2.2.2.1),-1,()),r.1.2.1,r_2.2.1.1,(r_4.1.1.2.2.2.2.2.1.1,r_4.1.1.2.2.2.2.2.1.2.1,r_4.1.1.2.2.2.2.2.1.2.2.1,r_4.1.1.2.2.2.2.2.1.2.2.2.1,r_4.1.1.2.2.2.2.2.1.2.2.2.2.1,r_4.1.1.2.2.2.2.2.1.2.2.2.2.2.1,()),0,()),())
 else none:=by
  unfold F_r12_Collect
  funext d
  kernel_rfl
theorem zgV:F_made_World_Step=fun (d:(((Int×Int×Unit)×List Int×(List PgD)×Int×Int×Unit)×List Int×List Int×Unit)×(List Int×Int×Unit)×Unit)=>(F_made_Tape_Next ((d.2.1.1,d.2.1.2.1,()),12,())).bind
 fun (r:(Int×Unit)×(List Int×Int×Unit)×Unit)=>
 bif bif r.1.1 == 0 then r.1.1 == 0
 else bif r.1.1 == 1 then r.1.1 == 1
 else bif r.1.1 == 2 then r.1.1 == 2
 else r.1.1 == 3 then (F_made_Tape_Header ((r.2.1.1,r.2.1.2.1,()),(d.1.1.1.1,d.1.1.1.2.1,()),())).bind
 fun (r:((Int×Int×Int×Unit)×Unit)×(List Int×Int×Unit)×Unit)=>(F_made_World_Put ((((d.1.1.1.1,d.1.1.1.2.1,()),d.1.1.2.1,d.1.1.2.2.1,d.1.1.2.2.2.1,d.1.1.2.2.2.2.1,()),d.1.2.1,d.1.2.2.1,()),(r.1.1.1,r.1.1.2.1,r.1.1.2.2.1,()),())).bind
 fun (r_1:((HpD×List Int×List Int×Unit)×Unit)×Unit)=>some (((((r_1.1.1.1.1.1,r_1.1.1.1.1.2.1,()),r_1.1.1.1.2.1,r_1.1.1.1.2.2.1,r_1.1.1.1.2.2.2.1,r_1.1.1.1.2.2.2.2.1,()),r_1.1.1.2.1,r_1.1.1.2.2.1,()),()),(r.2.1.1,r.2.1.2.1,()),())
 else bif
 bif r.1.1 == 4 then r.1.1 == 4
 else bif r.1.1 == 5 then r.1.1 == 5
 else r.1.1 == 6 then (F_made_World_Link ((((d.1.1.1.1,d.1.1.1.2.1,()),d.1.1.2.1,d.1.1.2.2.1,d.1.1.2.2.2.1,d.1.1.2.2.2.2.1,()),d.1.2.1,d.1.2.2.1,()),(r.2.1.1,r.2.1.2.1,()),())).bind
 fun (r:((HpD×List Int×List Int×Unit)×Unit)×(List Int×Int×Unit)×Unit)=>some (((((r.1.1.1.1.1,r.1.1.1.1.2.1,()),r.1.1.1.2.1,r.1.1.1.2.2.1,r.1.1.1.2.2.2.1,r.1.1.1.2.2.2.2.1,()),r.1.1.2.1,r.1.1.2.2.1,()),()),(r.2.1.1,r.2.1.2.1,()),())
 else bif r.1.1 == 7 then (F_made_World_Pin ((((d.1.1.1.1,d.1.1.1.2.1,()),d.1.1.2.1,d.1.1.2.2.1,d.1.1.2.2.2.1,d.1.1.2.2.2.2.1,()),d.1.2.1,d.1.2.2.1,()),(r.2.1.1,r.2.1.2.1,()),())).bind
 fun (r:((HpD×List Int×List Int×Unit)×Unit)×(List Int×Int×Unit)×Unit)=>some (((((r.1.1.1.1.1,r.1.1.1.1.2.1,()),r.1.1.1.2.1,r.1.1.1.2.2.1,r.1.1.1.2.2.2.1,r.1.1.1.2.2.2.2.1,()),r.1.1.2.1,r.1.1.2.2.1,()),()),(r.2.1.1,r.2.1.2.1,()),())
 else bif
 bif r.1.1 == 8 then r.1.1 == 8
 else r.1.1 == 9 then (F_made_World_Drop ((((d.1.1.1.1,d.1.1.1.2.1,()),d.1.1.2.1,d.1.1.2.2.1,d.1.1.2.2.2.1,d.1.1.2.2.2.2.1,()),d.1.2.1,d.1.2.2.1,()),(r.2.1.1,r.2.1.2.1,()),())).bind
 fun (r:((HpD×List Int×List Int×Unit)×Unit)×(List Int×Int×Unit)×Unit)=>some (((((r.1.1.1.1.1,r.1.1.1.1.2.1,()),r.1.1.1.2.1,r.1.1.1.2.2.1,r.1.1.1.2.2.2.1,r.1.1.1.2.2.2.2.1,()),r.1.1.2.1,r.1.1.2.2.1,()),()),(r.2.1.1,r.2.1.2.1,()),())
 else bif r.1.1 == 10 then (F_made_World_Collect ((((d.1.1.1.1,d.1.1.1.2.1,()),d.1.1.2.1,d.1.1.2.2.1,d.1.1.2.2.2.1,d.1.1.2.2.2.2.1,()),d.1.2.1,d.1.2.2.1,()),())).bind
 fun (r_1:((HpD×List Int×List Int×Unit)×Unit)×Unit)=>some (((((r_1.1.1.1.1.1,r_1.1.1.1.1.2.1,()),r_1.1.1.1.2.1,r_1.1.1.1.2.2.1,r_1.1.1.1.2.2.2.1,r_1.1.1.1.2.2.2.2.1,()),r_1.1.1.2.1,r_1.1.1.2.2.1,()),()),(r.2.1.1,r.2.1.2.1,()),())
 else bif zaJ (0+d.1.2.1.length) 8 then (F_made_World_pick ((((d.1.1.1.1,d.1.1.1.2.1,()),d.1.1.2.1,d.1.1.2.2.1,d.1.1.2.2.2.1,d.1.1.2.2.2.2.1,()),d.1.2.1,d.1.2.2.1,()),(r.2.1.1,r.2.1.2.1,()),())).bind
 fun (r:(Int×Unit)×(List Int×Int×Unit)×Unit)=>
 bif zaJ ((d.1.2.1).length + [r.1.1].length) 8 then some (((((d.1.1.1.1,d.1.1.1.2.1,()),d.1.1.2.1,d.1.1.2.2.1,d.1.1.2.2.2.1,d.1.1.2.2.2.2.1,()),d.1.2.1++[r.1.1],d.1.2.2.1,()),()),(r.2.1.1,r.2.1.2.1,()),())
 else none
 else none:=by
  unfold F_made_World_Step
  funext d
  kernel_rfl
theorem zkz:F_page_isSpace=fun (d:Int×Unit)=>some ((bif d.1 == 0 then true
 else d.1 == 1,()),()):=by
  unfold F_page_isSpace
  funext d
  kernel_rfl
theorem zgR:F_page_table_free=fun (d:((Int×Int×Unit)×(List PgD)×Unit)×Int×Unit)=>
 bif inB d.2.1 d.1.2.1.length then some ((((d.1.2.1.getD d.2.1.toNat PG0).1,(d.1.2.1.getD d.2.1.toNat PG0).2.1,(d.1.2.1.getD d.2.1.toNat PG0).2.2.1,(d.1.2.1.getD d.2.1.toNat PG0).2.2.2.1,()).1 == PG0.1&&(((d.1.2.1.getD d.2.1.toNat PG0).1,(d.1.2.1.getD d.2.1.toNat PG0).2.1,(d.1.2.1.getD d.2.1.toNat PG0).2.2.1,(d.1.2.1.getD d.2.1.toNat PG0).2.2.2.1,()).2.1 == PG0.2.1&&(((d.1.2.1.getD d.2.1.toNat PG0).1,(d.1.2.1.getD d.2.1.toNat PG0).2.1,(d.1.2.1.getD d.2.1.toNat PG0).2.2.1,(d.1.2.1.getD d.2.1.toNat PG0).2.2.2.1,()).2.2.1 == PG0.2.2.1&&(((d.1.2.1.getD d.2.1.toNat PG0).1,(d.1.2.1.getD d.2.1.toNat PG0).2.1,(d.1.2.1.getD d.2.1.toNat PG0).2.2.1,(d.1.2.1.getD d.2.1.toNat PG0).2.2.2.1,()).2.2.2.1 == PG0.2.2.2.1&&true))),()),())
 else none:=by
  unfold F_page_table_free
  funext d
  kernel_rfl
theorem zgb:F_page_table_large=fun (d:((Int×Int×Unit)×(List PgD)×Unit)×Int×Unit)=>
 bif inB d.2.1 d.1.2.1.length then (F_page_Need ((d.1.1.1,d.1.1.2.1,()),(d.1.2.1.getD d.2.1.toNat PG0).2.2.1,())).bind
 fun (r:(Int×Unit)×Unit)=>(F_page_isSpace ((d.1.2.1.getD d.2.1.toNat PG0).2.1,())).bind
 fun (r_1:(Bool×Unit)×Unit)=>
 bif !r_1.1.1 then some ((false,()),())
 else bif decide (r.1.1<1) then some ((false,()),())
 else (F_page_isPins ((d.1.2.1.getD d.2.1.toNat PG0).2.2.2.1,())).bind
 fun (r_2:(Bool×Unit)×Unit)=>
 bif bif !r_2.1.1 then true
 else decide (W (d.2.1+r.1.1) > (d.1.2.1.length:Int)) then some ((false,()),())
 else bif decide (0<=W (d.2.1+1)/\W (d.2.1+1)<=W (d.2.1+r.1.1)/\W (d.2.1+r.1.1)<=(d.1.2.1.length:Int)) then (rl ((Bool×Int×Unit)×Unit×Unit) ((Bool×Unit)×Unit×Unit⊕(Bool×Unit)×Unit×Unit) (fun (x:(Bool×Int×Unit)×Unit×Unit)=>
 bif decide (x.1.2.1 < ↑(List.drop (W (d.2.1+1)).toNat (List.take (W (d.2.1+r.1.1)).toNat d.1.2.1)).length) then
 bif inB x.1.2.1 (List.drop (W (d.2.1+1)).toNat (List.take (W (d.2.1+r.1.1)).toNat d.1.2.1)).length then
 bif bif ((List.drop (W (d.2.1+1)).toNat (List.take (W (d.2.1+r.1.1)).toNat d.1.2.1)).getD x.1.2.1.toNat PG0).1 != 3 then true
 else ((List.drop (W (d.2.1+1)).toNat (List.take (W (d.2.1+r.1.1)).toNat d.1.2.1)).getD x.1.2.1.toNat PG0).2.1 != (d.1.2.1.getD d.2.1.toNat PG0).2.1 then some (Sum.inr (Sum.inl ((false,()),(),())))
 else some (Sum.inl ((x.1.1,W (x.1.2.1+1),()),(),()))
 else none
 else some (Sum.inr (Sum.inr ((x.1.1,()),(),())))) ((false,0,()),(),())).bind
 fun (r:(Bool×Unit)×Unit×Unit⊕(Bool×Unit)×Unit×Unit)=>Sum.elim (fun (x:(Bool×Unit)×Unit×Unit)=>some ((x.1.1,()),())) (fun (y:(Bool×Unit)×Unit×Unit)=>some ((true,()),())) r
 else none
 else none:=by
  unfold F_page_table_large
  funext d
  kernel_rfl
theorem zlW:F_page_Proper=fun (d:((Int×Int×Unit)×List Int×(List PgD)×Int×Int×Unit)×Unit)=>(F_page_ValidConf ((d.1.1.1,d.1.1.2.1,()),())).bind
 fun (r:(Bool×Unit)×Unit)=>
 bif !r.1.1 then some ((false,()),())
 else (F_page_size ((d.1.1.1,d.1.1.2.1,()),())).bind
 fun (r:(Int×Unit)×Unit)=>
 bif bif (d.1.2.1.length:Int) != r.1.1 then true
 else (d.1.2.2.1.length:Int) != d.1.1.2.1 then some ((false,()),())
 else (F_page_isSpace (d.1.2.2.2.1,())).bind
 fun (r:(Bool×Unit)×Unit)=>
 bif !r.1.1 then some ((false,()),())
 else bif d.1.2.2.2.2.1 != -1 then (F_page_isSmall (d.1.2.2.1,d.1.2.2.2.2.1,())).bind
 fun (r:(Bool×Unit)×Unit)=>
 bif !r.1.1 then some ((false,()),())
 else (F_page_table_proper (((d.1.1.1,d.1.1.2.1,()),d.1.2.2.1,()),())).bind
 fun (r:(Bool×Unit)×Unit)=>some ((r.1.1,()),())
 else (F_page_table_proper (((d.1.1.1,d.1.1.2.1,()),d.1.2.2.1,()),())).bind
 fun (r:(Bool×Unit)×Unit)=>some ((r.1.1,()),()):=by
  unfold F_page_Proper
  funext d
  kernel_rfl
theorem zbJ:F_walk_list_c_walk_inPage_S1_walk_isAny=fun (d:((Int×Int×Unit)×List Int×(List PgD)×Int×Int×Unit)×Int×Unit)=>((listP (((d.1.1.1,d.1.1.2.1,()),d.1.2.1,d.1.2.2.1,d.1.2.2.2.1,d.1.2.2.2.2.1,()),d.2.1,())).bind
 fun (L:List (Int×((Int×Int×Int×Unit)×Int×Unit)×Unit))=>fg (Unit×(List Int×Unit)×(List Int×Unit)×(Int×Unit)×(Unit×Unit)×Unit) (Unit×(List Int×Unit)×(List Int×Unit)×(Int×Unit)×(Unit×Unit)×Unit) (Int×((Int×Int×Int×Unit)×Int×Unit)×Unit) (fun (y:Int×((Int×Int×Int×Unit)×Int×Unit)×Unit) (x:Unit×(List Int×Unit)×(List Int×Unit)×(Int×Unit)×(Unit×Unit)×Unit)=>
 bif y.2.1.2.1 != 0 then some (Sum.inr ((),(x.2.1.1,()),([],()),(y.2.1.2.1,()),((),()),()))
 else (F_walk_isAny ((y.2.1.1.1,y.2.1.1.2.1,y.2.1.1.2.2.1,()),())).bind
 fun (r:(Bool×Unit)×Unit)=>
 bif bif r.1.1 then zaJ (x.2.1.1.length + [y.1].length) 8
 else true then
 bif r.1.1 then some (Sum.inl ((),(x.2.1.1++[y.1],()),(x.2.2.1.1,()),(x.2.2.2.1.1,()),((),()),()))
 else some (Sum.inl ((),(x.2.1.1,()),(x.2.2.1.1,()),(x.2.2.2.1.1,()),((),()),()))
 else none) L ((),([],()),([],()),(0,()),((),()),())).bind
 fun (r:Unit×(List Int×Unit)×(List Int×Unit)×(Int×Unit)×(Unit×Unit)×Unit⊕Unit×(List Int×Unit)×(List Int×Unit)×(Int×Unit)×(Unit×Unit)×Unit)=>Sum.elim (fun (x:Unit×(List Int×Unit)×(List Int×Unit)×(Int×Unit)×(Unit×Unit)×Unit)=>some ((x.2.1.1,0,()),((d.1.1.1,d.1.1.2.1,()),d.1.2.1,d.1.2.2.1,d.1.2.2.2.1,d.1.2.2.2.2.1,()),d.2.1,())) (fun (y:Unit×(List Int×Unit)×(List Int×Unit)×(Int×Unit)×(Unit×Unit)×Unit)=>some ((y.2.2.1.1,y.2.2.2.1.1,()),((d.1.1.1,d.1.1.2.1,()),d.1.2.1,d.1.2.2.1,d.1.2.2.2.1,d.1.2.2.2.2.1,()),d.2.1,())) r:=by
  unfold F_walk_list_c_walk_inPage_S1_walk_isAny
  funext d
  kernel_rfl
theorem zlL:F_walk_inHeap=fun (d:((Int×Int×Unit)×List Int×(List PgD)×Int×Int×Unit)×Unit)=>some (((((d.1.1.1,d.1.1.2.1,()),d.1.2.1,d.1.2.2.1,d.1.2.2.2.1,d.1.2.2.2.2.1,()),()),()),()):=by
 unfold F_walk_inHeap
 funext d
 kernel_rfl
theorem zgf:F_bits_Unpack_S1_c=fun (d:Int×List Int×Unit)=>
 bif inB d.1 d.2.1.length then some ((d.2.1.getD d.1.toNat 0,()),d.2.1,())
 else none:=by
  unfold F_bits_Unpack_S1_c
  funext d
  kernel_rfl
theorem zeJ:F_audit_partsOf=fun (d:((Int×Int×Unit)×List Int×(List PgD)×Int×Int×Unit)×Int×Unit)=>(F_walk_Page (((d.1.1.1,d.1.1.2.1,()),d.1.2.1,d.1.2.2.1,d.1.2.2.2.1,d.1.2.2.2.2.1,()),d.2.1,())).bind
 fun (r:(List Int×Int×Unit)×Unit)=>
 bif r.1.2.1 != 0 then some (([],r.1.2.1,()),())
 else (rl ((List (Int×(Int×Int×Int×Unit)×Unit)×Int×Unit×Int×Unit)×(List (Int×(Int×Int×Int×Unit)×Unit)×Unit)×Unit) ((List (Int×(Int×Int×Int×Unit)×Unit)×Int×Unit)×Unit×Unit⊕(List (Int×(Int×Int×Int×Unit)×Unit)×Int×Unit×Unit)×(List (Int×(Int×Int×Int×Unit)×Unit)×Unit)×Unit) (fun (x:(List (Int×(Int×Int×Int×Unit)×Unit)×Int×Unit×Int×Unit)×(List (Int×(Int×Int×Int×Unit)×Unit)×Unit)×Unit)=>
 bif decide (x.1.2.2.2.1<(r.1.1.length:Int)) then
 bif inB x.1.2.2.2.1 r.1.1.length then (F_object_At (((d.1.1.1,d.1.1.2.1,()),d.1.2.1,d.1.2.2.1,d.1.2.2.2.1,d.1.2.2.2.2.1,()),r.1.1.getD x.1.2.2.2.1.toNat 0,())).bind
 fun (r_1:((Int×Int×Int×Unit)×Int×Unit)×Unit)=>
 bif r_1.1.2.1 != 0 then some (Sum.inr (Sum.inl (([],r_1.1.2.1,()),(),())))
 else bif zaJ (x.2.1.1.length + [(r.1.1.getD x.1.2.2.2.1.toNat 0,(r_1.1.1.1,r_1.1.1.2.1,r_1.1.1.2.2.1,()),())].length) 32 then some (Sum.inl ((x.1.1,x.1.2.1,(),W (x.1.2.2.2.1+1),()),(x.2.1.1++[(r.1.1.getD x.1.2.2.2.1.toNat 0,(r_1.1.1.1,r_1.1.1.2.1,r_1.1.1.2.2.1,()),())],()),()))
 else none
 else none
 else some (Sum.inr (Sum.inr ((x.1.1,x.1.2.1,(),()),(x.2.1.1,()),())))) (([],0,(),0,()),([],()),())).bind
 fun (r:(List (Int×(Int×Int×Int×Unit)×Unit)×Int×Unit)×Unit×Unit⊕(List (Int×(Int×Int×Int×Unit)×Unit)×Int×Unit×Unit)×(List (Int×(Int×Int×Int×Unit)×Unit)×Unit)×Unit)=>Sum.elim (fun (x:(List (Int×(Int×Int×Int×Unit)×Unit)×Int×Unit)×Unit×Unit)=>some ((x.1.1,x.1.2.1,()),())) (fun (y:(List (Int×(Int×Int×Int×Unit)×Unit)×Int×Unit×Unit)×(List (Int×(Int×Int×Int×Unit)×Unit)×Unit)×Unit)=>some ((y.2.1.1,0,()),())) r:=by
  unfold F_audit_partsOf
  funext d
  kernel_rfl
theorem zdM:F_audit_findingAt=fun (d:((Int×Int×Unit)×List Int×(List PgD)×Int×Int×Unit)×Int×Int×Unit)=>(F_page_Of ((d.1.1.1,d.1.1.2.1,()),d.2.2.1,())).bind
 fun (r:(Int×Int×Int×Unit)×Unit)=>some (((d.2.1,r.1.1,d.2.2.1,()),()),()):=by
  unfold F_audit_findingAt
  funext d
  kernel_rfl
theorem zdO:F_audit_checkDirt=fun (d:((Int×Int×Unit)×List Int×(List PgD)×Int×Int×Unit)×Int×(List (Int×(Int×Int×Int×Unit)×Unit))×Unit)=>(F_audit_span (((d.1.1.1,d.1.1.2.1,()),d.1.2.1,d.1.2.2.1,d.1.2.2.2.1,d.1.2.2.2.2.1,()),d.2.1,())).bind
 fun (r:(Int×Int×Unit)×Unit)=>(rl ((Int×Unit)×Unit×(Int×Int×Int×Unit)×Unit) (Unit×Unit×(Int×Int×Int×Unit)×Unit⊕Unit×Unit×(Int×Int×Int×Unit)×Unit) (fun (x:(Int×Unit)×Unit×(Int×Int×Int×Unit)×Unit)=>
 bif decide (x.1.1<r.1.2.1) then (F_audit_word (((d.1.1.1,d.1.1.2.1,()),d.1.2.1,d.1.2.2.1,d.1.2.2.2.1,d.1.2.2.2.2.1,()),x.1.1,())).bind
 fun (r:(Int×Unit)×Unit)=>
 bif r.1.1 == 0 then some (Sum.inl ((U (x.1.1+1),()),(),(x.2.2.1.1,x.2.2.1.2.1,x.2.2.1.2.2.1,()),()))
 else (rl ((Int×Unit)×Unit×Unit) (Unit×Unit×Unit⊕Unit×Unit×Unit) (fun (x_1:(Int×Unit)×Unit×Unit)=>
 bif decide (x_1.1.1<(d.2.2.1.length:Int)) then
 bif inB x_1.1.1 d.2.2.1.length then (F_audit_part_uses (((d.2.2.1.getD x_1.1.1.toNat (0,(0,0,0,()),())).1,((d.2.2.1.getD x_1.1.1.toNat (0,(0,0,0,()),())).2.1.1,(d.2.2.1.getD x_1.1.1.toNat (0,(0,0,0,()),())).2.1.2.1,(d.2.2.1.getD x_1.1.1.toNat (0,(0,0,0,()),())).2.1.2.2.1,()),()),x.1.1,())).bind
 fun (r:(Bool×Unit)×Unit)=>
 bif r.1.1 then some (Sum.inr (Sum.inl ((),(),())))
 else some (Sum.inl ((W (x_1.1.1+1),()),(),()))
 else none
 else some (Sum.inr (Sum.inr ((),(),())))) ((0,()),(),())).bind
 fun (r:Unit×Unit×Unit⊕Unit×Unit×Unit)=>Sum.elim (fun (x_1:Unit×Unit×Unit)=>some (Sum.inl ((U (x.1.1+1),()),(),(x.2.2.1.1,x.2.2.1.2.1,x.2.2.1.2.2.1,()),()))) (fun (y:Unit×Unit×Unit)=>(F_audit_findingAt (((d.1.1.1,d.1.1.2.1,()),d.1.2.1,d.1.2.2.1,d.1.2.2.2.1,d.1.2.2.2.2.1,()),4,x.1.1,())).bind
 fun (r:((Int×Int×Int×Unit)×Unit)×Unit)=>some (Sum.inr (Sum.inl ((),(),(r.1.1.1,r.1.1.2.1,r.1.1.2.2.1,()),())))) r
 else some (Sum.inr (Sum.inr ((),(),(x.2.2.1.1,x.2.2.1.2.1,x.2.2.1.2.2.1,()),())))) ((r.1.1,()),(),(0,0,0,()),())).bind
 fun (r:Unit×Unit×(Int×Int×Int×Unit)×Unit⊕Unit×Unit×(Int×Int×Int×Unit)×Unit)=>Sum.elim (fun (x:Unit×Unit×(Int×Int×Int×Unit)×Unit)=>some (((x.2.2.1.1,x.2.2.1.2.1,x.2.2.1.2.2.1,()),()),())) (fun (y:Unit×Unit×(Int×Int×Int×Unit)×Unit)=>some (((0,0,0,()),()),())) r:=by
  unfold F_audit_checkDirt
  funext d
  kernel_rfl
theorem zdN:F_audit_checkPage=fun (d:((Int×Int×Unit)×List Int×(List PgD)×Int×Int×Unit)×Int×Unit)=>
 bif inB d.2.1 d.1.2.2.1.length then
 bif bif (d.1.2.2.1.getD d.2.1.toNat PG0).1 != 0 then (d.1.2.2.1.getD d.2.1.toNat PG0).2.1 != d.1.2.2.2.1
 else false then some (((2,d.2.1,0,()),()),())
 else (F_audit_partsOf (((d.1.1.1,d.1.1.2.1,()),d.1.2.1,d.1.2.2.1,d.1.2.2.2.1,d.1.2.2.2.2.1,()),d.2.1,())).bind
 fun (r:(List (Int×(Int×Int×Int×Unit)×Unit)×Int×Unit)×Unit)=>
 bif r.1.2.1 != 0 then some (((3,d.2.1,0,()),()),())
 else (F_audit_checkClasses (((d.1.1.1,d.1.1.2.1,()),d.1.2.1,d.1.2.2.1,d.1.2.2.2.1,d.1.2.2.2.2.1,()),d.2.1,r.1.1,())).bind
 fun (r_1:((Int×Int×Int×Unit)×Unit)×Unit)=>(F_audit_checkDirt (((d.1.1.1,d.1.1.2.1,()),d.1.2.1,d.1.2.2.1,d.1.2.2.2.1,d.1.2.2.2.2.1,()),d.2.1,r.1.1,())).bind
 fun (r:((Int×Int×Int×Unit)×Unit)×Unit)=>(F_cmp_Or_audit_Finding ([(r_1.1.1.1,r_1.1.1.2.1,r_1.1.1.2.2.1,()),(r.1.1.1,r.1.1.2.1,r.1.1.2.2.1,())],())).bind
 fun (r:((Int×Int×Int×Unit)×Unit)×Unit)=>some (((r.1.1.1,r.1.1.2.1,r.1.1.2.2.1,()),()),())
 else none:=by
  unfold F_audit_checkPage
  funext d
  kernel_rfl
theorem znF:F_object_Get=fun (d:((Int×Int×Unit)×List Int×(List PgD)×Int×Int×Unit)×Int×Unit)=>(F_object_At (((d.1.1.1,d.1.1.2.1,()),d.1.2.1,d.1.2.2.1,d.1.2.2.2.1,d.1.2.2.2.2.1,()),d.2.1,())).bind
 fun (r:((Int×Int×Int×Unit)×Int×Unit)×Unit)=>
 bif bif r.1.2.1 == 2 then d.2.1 == 0
 else false then some (((0,0,0,()),5,()),())
 else bif
 bif r.1.2.1 == 0 then r.1.1.1 == 0
 else false then some (((0,0,0,()),4,()),())
 else some (((r.1.1.1,r.1.1.2.1,r.1.1.2.2.1,()),r.1.2.1,()),()):=by
  unfold F_object_Get
  funext d
  kernel_rfl
theorem zge:F_cmp_isNaN_uint64=fun (d:Int×Unit)=>some ((d.1 != d.1,()),()):=by
 unfold F_cmp_isNaN_uint64
 funext d
 kernel_rfl
theorem zc4:F_slices_BinarySearch_uint64=fun (d:List Int×Int×Unit)=>(rl ((Int×Int×Unit)×Unit×Unit) ((Int×Unit)×Unit×Unit) (fun (x:(Int×Int×Unit)×Unit×Unit)=>
 bif decide (x.1.1<x.1.2.1) then
 bif !decide (1<0) then
 bif inB (W ((U (W (x.1.1+x.1.2.1))).fdiv (2 ^ min (Int.toNat 1) IntKind.u64.bits))) d.1.length then (F_cmp_Less_uint64 (d.1.getD (W ((U (W (x.1.1+x.1.2.1))).fdiv (2 ^ min (Int.toNat 1) IntKind.u64.bits))).toNat 0,d.2.1,())).bind
 fun (r:(Bool×Unit)×Unit)=>some (Sum.inl ((bif r.1.1 then W (W ((U (W (x.1.1+x.1.2.1))).fdiv (2 ^ min (Int.toNat 1) IntKind.u64.bits))+1)
 else x.1.1,
 bif r.1.1 then x.1.2.1
 else W ((U (W (x.1.1+x.1.2.1))).fdiv (2 ^ min (Int.toNat 1) IntKind.u64.bits)),()),(),()))
 else none
 else none
 else some (Sum.inr ((x.1.1,()),(),()))) ((0,(d.1.length:Int),()),(),())).bind
 fun (r:(Int×Unit)×Unit×Unit)=>
 bif bif decide (r.1.1<(d.1.length:Int)) then inB r.1.1 d.1.length
 else true then
 bif bif decide (r.1.1<(d.1.length:Int)) then
 bif d.1.getD r.1.1.toNat 0 == d.2.1 then true
 else inB r.1.1 d.1.length
 else true then
 bif decide (r.1.1<(d.1.length:Int)) then
 bif d.1.getD r.1.1.toNat 0 == d.2.1 then some ((r.1.1,true,()),())
 else (F_slices_isNaN_uint64 (d.1.getD r.1.1.toNat 0,())).bind
 fun (r_1:(Bool×Unit)×Unit)=>
 bif r_1.1.1 then (F_slices_isNaN_uint64 (d.2.1,())).bind
 fun (r_2:(Bool×Unit)×Unit)=>some ((r.1.1,r_2.1.1,()),())
 else some ((r.1.1,false,()),())
 else some ((r.1.1,false,()),())
 else none
 else none:=by
  unfold F_slices_BinarySearch_uint64
  funext d
  kernel_rfl
theorem zfL:F_audit_isReference=fun (d:List Int×Int×Unit)=>(F_slices_BinarySearch_uint64 (d.1,d.2.1,())).bind
 fun (r:(Int×Bool×Unit)×Unit)=>some ((bif r.1.2.1 then true
 else d.2.1 == 0,()),()):=by
  unfold F_audit_isReference
  funext d
  kernel_rfl
theorem zcC:F_audit_checkPointers=fun (d:((Int×Int×Unit)×List Int×(List PgD)×Int×Int×Unit)×Unit)=>(F_walk_Objects (((d.1.1.1,d.1.1.2.1,()),d.1.2.1,d.1.2.2.1,d.1.2.2.2.1,d.1.2.2.2.2.1,()),())).bind
 fun (r:(List Int×Int×Unit)×Unit)=>(rl ((Int×Unit)×Unit×(Int×Int×Int×Unit)×Unit) (Unit×Unit×(Int×Int×Int×Unit)×Unit⊕Unit×Unit×(Int×Int×Int×Unit)×Unit) (fun (x:(Int×Unit)×Unit×(Int×Int×Int×Unit)×Unit)=>
 bif decide (x.1.1<(r.1.1.length:Int)) then
 bif inB x.1.1 r.1.1.length then (F_object_Get (((d.1.1.1,d.1.1.2.1,()),d.1.2.1,d.1.2.2.1,d.1.2.2.2.1,d.1.2.2.2.2.1,()),r.1.1.getD x.1.1.toNat 0,())).bind
 fun (r_1:((Int×Int×Int×Unit)×Int×Unit)×Unit)=>(F_header_Pointers ((r_1.1.1.1,r_1.1.1.2.1,r_1.1.1.2.2.1,()),())).bind
 fun (r_2:(List Int×Unit)×Unit)=>(rl ((Int×Unit)×Unit×(Int×Int×Int×Unit)×Unit) (Unit×Unit×(Int×Int×Int×Unit)×Unit⊕Unit×Unit×(Int×Int×Int×Unit)×Unit) (fun (x_1:(Int×Unit)×Unit×(Int×Int×Int×Unit)×Unit)=>
 bif decide (x_1.1.1<(r_2.1.1.length:Int)) then
 bif inB x_1.1.1 r_2.1.1.length then (F_audit_word (((d.1.1.1,d.1.1.2.1,()),d.1.2.1,d.1.2.2.1,d.1.2.2.2.1,d.1.2.2.2.2.1,()),U (U (r.1.1.getD x.1.1.toNat 0+1)+U (r_2.1.1.getD x_1.1.1.toNat 0)),())).bind
 fun (r_3:(Int×Unit)×Unit)=>(F_audit_isReference (r.1.1,r_3.1.1,())).bind
 fun (r_4:(Bool×Unit)×Unit)=>
 bif !r_4.1.1 then (F_audit_findingAt (((d.1.1.1,d.1.1.2.1,()),d.1.2.1,d.1.2.2.1,d.1.2.2.2.1,d.1.2.2.2.2.1,()),6,U (U (r.1.1.getD x.1.1.toNat 0+1)+U (r_2.1.1.getD x_1.1.1.toNat 0)),())).bind
 fun (r:((Int×Int×Int×Unit)×Unit)×Unit)=>some (Sum.inr (Sum.inl ((),(),(r.1.1.1,r.1.1.2.1,r.1.1.2.2.1,()),())))
 else some (Sum.inl ((W (x_1.1.1+1),()),(),(x_1.2.2.1.1,x_1.2.2.1.2.1,x_1.2.2.1.2.2.1,()),()))
 else none
 else some (Sum.inr (Sum.inr ((),(),(x_1.2.2.1.1,x_1.2.2.1.2.1,x_1.2.2.1.2.2.1,()),())))) ((0,()),(),(x.2.2.1.1,x.2.2.1.2.1,x.2.2.1.2.2.1,()),())).bind
 fun (r:Unit×Unit×(Int×Int×Int×Unit)×Unit⊕Unit×Unit×(Int×Int×Int×Unit)×Unit)=>Sum.elim (fun (x:Unit×Unit×(Int×Int×Int×Unit)×Unit)=>some (Sum.inr (Sum.inl ((),(),(x.2.2.1.1,x.2.2.1.2.1,x.2.2.1.2.2.1,()),())))) (fun (y:Unit×Unit×(Int×Int×Int×Unit)×Unit)=>some (Sum.inl ((W (x.1.1+1),()),(),(y.2.2.1.1,y.2.2.1.2.1,y.2.2.1.2.2.1,()),()))) r
 else none
 else some (Sum.inr (Sum.inr ((),(),(x.2.2.1.1,x.2.2.1.2.1,x.2.2.1.2.2.1,()),())))) ((0,()),(),(0,0,0,()),())).bind
 fun (r:Unit×Unit×(Int×Int×Int×Unit)×Unit⊕Unit×Unit×(Int×Int×Int×Unit)×Unit)=>Sum.elim (fun (x:Unit×Unit×(Int×Int×Int×Unit)×Unit)=>some (((x.2.2.1.1,x.2.2.1.2.1,x.2.2.1.2.2.1,()),()),())) (fun (y:Unit×Unit×(Int×Int×Int×Unit)×Unit)=>some (((0,0,0,()),()),())) r:=by
  unfold F_audit_checkPointers
  funext d
  kernel_rfl
theorem zpn:F_l09_awake=fun (d:Unit)=>(F_r04_New ((16,8,()),())).bind
 fun (r:(HpD×Int×Unit)×Unit)=>(F_audit_Good (((r.1.1.1.1,r.1.1.1.2.1,()),r.1.1.2.1,r.1.1.2.2.1,r.1.1.2.2.2.1,r.1.1.2.2.2.2.1,()),())).bind
 fun (r:(Bool×Unit)×Unit)=>
 bif r.1.1 then (F_audit_Check (H0,())).bind
 fun (r:((Int×Int×Int×Unit)×Unit)×Unit)=>some (((r.1.1.1,r.1.1.2.1,r.1.1.2.2.1,()).1 == (1,0,0,()).1&&((r.1.1.1,r.1.1.2.1,r.1.1.2.2.1,()).2.1 == (1,0,0,()).2.1&&((r.1.1.1,r.1.1.2.1,r.1.1.2.2.1,()).2.2.1 == (1,0,0,()).2.2.1&&true)),()),())
 else some ((false,()),()):=by
  unfold F_l09_awake
  funext d
  kernel_rfl
end Go.VI
