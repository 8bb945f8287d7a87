import Derived.Test.YtadlcgdjmjegaaaW01
import Derived.Test.YtadlcgdjmjegaaaW03
import Derived.Test.YtadlcgdjmjegaaaW05
import Derived.Laws.Bits64
set_option linter.unusedSimpArgs false
set_option linter.unusedVariables false
set_option maxRecDepth 100000
set_option maxHeartbeats 4000000
namespace Go.VI
theorem runLoop_eq {X Y:Type} {f:X->Option (X ⊕ Y)} (Inv:X->Prop) (μ:X->Nat) (G:X->Option Y)
 (h:∀ x,Inv x->(f x=none/\G x=none)\/(∃ x',f x=some (.inl x')/\Inv x'/\μ x' < μ x/\G x=G x')\/∃ y,f x=some (.inr y)/\G x=some y):∀ x,Inv x->runLoop f x=G x:=by
 have key:∀ (n:Nat) (x:X),μ x<=n->Inv x->(∀ y,G x=some y->∃ k,iter f k x=some y)/\(G x=none->∀ k,iter f k x=none):=by
  intro n
  induction n with
  | zero =>
   intro x hx hi
   rcases h x hi with ⟨h1,h2⟩ | ⟨x',h1,_,h3,_⟩ | ⟨y,h1,h2⟩
   · exact ⟨fun y hy=>by simp [h2] at hy,fun _ k=>by cases k <;> simp [iter,h1]⟩
   · omega
   · exact ⟨fun z hz=>⟨1,by rw [h2] at hz;simp [iter,h1,hz]⟩,fun hn=>by simp [h2] at hn⟩
  | succ n ih =>
   intro x hx hi
   rcases h x hi with ⟨h1,h2⟩ | ⟨x',h1,h2,h3,h4⟩ | ⟨y,h1,h2⟩
   · exact ⟨fun y hy=>by simp [h2] at hy,fun _ k=>by cases k <;> simp [iter,h1]⟩
   · obtain ⟨i1,i2⟩:=ih x' (by omega) h2
     refine ⟨fun y hy=>?_,fun hn k=>?_⟩
     · obtain ⟨k,hk⟩:=i1 y (h4 ▸ hy)
       exact ⟨k+1,by simp [iter,h1,hk]⟩
     · cases k with
       | zero=>rfl
       | succ k=>simp only [iter,h1];exact i2 (h4 ▸ hn) k
   · exact ⟨fun z hz=>⟨1,by rw [h2] at hz;simp [iter,h1,hz]⟩,fun hn=>by simp [h2] at hn⟩
 intro x hi
 obtain ⟨k1,k2⟩:=key (μ x) x (Nat.le_refl _) hi
 cases hg:G x with
 | some y =>
  obtain ⟨k,hk⟩:=k1 y hg
  exact runLoop_of hk
 | none =>
  cases hr:runLoop f x with
  | none=>rfl
  | some y =>
   obtain ⟨n,hn⟩:=runLoop_some hr
   rw [k2 hg n] at hn
   cases hn
end Go.VI
namespace Go.VI
noncomputable abbrev rl (X Y:Type) (f:X->Option (X ⊕ Y)) (x:X):Option Y:=runLoop f x
end Go.VI
namespace Go.VI
open Go
abbrev W (n:Int):Int:=IntKind.i64.wrap n
abbrev U (n:Int):Int:=IntKind.u64.wrap n
abbrev CfD:=Int × Int × Unit
abbrev PgD:=Int × Int × Int × Int × Unit
abbrev HpD:=CfD × List Int × List PgD × Int × Int × Unit
abbrev PG0:PgD:=(0,0,0,0,())
def Tot {α:Type} (Q:α->Prop) (o:Option α):Prop:=∃ r,o=some r/\Q r
theorem Tot.mono {α:Type} {P Q:α->Prop} {o:Option α} (h:Tot P o) (f:∀ r,P r->Q r):Tot Q o:=h.imp fun _ k=>⟨k.1,f _ k.2⟩
theorem tot_bind {α β:Type} {P:α->Prop} {Q:β->Prop} {o:Option α} {f:α->Option β} (h:Tot P o) (k:∀ r,P r->Tot Q (f r)):Tot Q (o.bind f):=by
 obtain ⟨r,rfl,hr⟩:=h
 exact k r hr
theorem tot_cond {α:Type} {Q:α->Prop} {c:Bool} {a b:Option α} (h:c=true->Tot Q a) (k:c=false->Tot Q b):Tot Q (cond c a b):=by
 cases c
 · exact k rfl
 · exact h rfl
theorem tot_need {α:Type} {Q:α->Prop} {c:Bool} {a:Option α} (h:c=true) (k:Tot Q a):Tot Q (cond c a none):=by
 subst h;exact k
theorem tot_some {α:Type} {Q:α->Prop} {r:α} (h:Q r):Tot Q (some r):=⟨r,rfl,h⟩
theorem tot_sum {α β γ:Type} {Q:γ->Prop} {y:α ⊕ β} {l:α->Option γ} {r:β->Option γ} (h:∀ a,y = .inl a->Tot Q (l a)) (k:∀ b,y = .inr b->Tot Q (r b)):Tot Q (Sum.elim l r y):=by
 cases y
 · exact h _ rfl
 · exact k _ rfl
theorem tot_loop {X Y:Type} {f:X->Option (X ⊕ Y)} {x:X} (Inv:X->Prop) (μ:X->Nat) {Q:Y->Prop} (h0:Inv x) (h:∀ x,Inv x->Tot (Sum.elim (fun x'=>Inv x'/\μ x' < μ x) Q) (f x)):Tot Q (runLoop f x):=by
 have key:∀ (n:Nat) (x:X),μ x<=n->Inv x->∃ k y,iter f k x=some y/\Q y:=by
  intro n
  induction n with
  | zero =>
   intro x hx hi
   obtain ⟨r,hr,hq⟩:=h x hi
   cases r with
   | inl x'=>have:=hq.2;omega
   | inr y=>exact ⟨1,y,by simp [iter,hr],hq⟩
  | succ n ih =>
   intro x hx hi
   obtain ⟨r,hr,hq⟩:=h x hi
   cases r with
   | inl x' =>
    obtain ⟨k,y,h1,h2⟩:=ih x' (by have:=hq.2;omega) hq.1
    exact ⟨k+1,y,by simp [iter,hr,h1],h2⟩
   | inr y=>exact ⟨1,y,by simp [iter,hr],hq⟩
 obtain ⟨k,y,h1,h2⟩:=key (μ x) x (Nat.le_refl _) h0
 exact ⟨y,runLoop_of h1,h2⟩
theorem W_id {n:Int} (h : -9223372036854775808<=n/\n < 9223372036854775808):W n=n:=by rw [W,IntKind.wrap_i64];omega
theorem U_id {n:Int} (h:0<=n/\n < 18446744073709551616):U n=n:=by rw [U,IntKind.wrap_u64];omega
theorem inB_iff {i:Int} {n:Nat}:inB i n=true↔0<=i/\i < n:=by simp [inB]
theorem small_iff {n b:Nat}:small n b=true↔n*b<=140737488355328:=by simp [small]
end Go.VI
namespace Go.VI
open Go
theorem nf_ncode_within:F_ncode_within=fun (d:Int × Int × Unit)=>some ((bif decide (d.1 >= 0) then decide (d.1<=d.2.1)
 else false,()),()):=by
  unfold F_ncode_within
  funext d
  kernel_rfl
theorem nf_l22_NcodeArgs:F_l22_NcodeArgs=fun (d:Int × Unit)=>(F_l22_awake ()).bind
 fun (r:(Bool × Unit) × Unit) =>
 bif r.1.1 then (F_ncode_Args (d.1,())).bind
 fun (r:(Int × Unit) × Unit)=>(F_r22_Args (d.1,())).bind
 fun (r_1:(Int × Unit) × Unit)=>some ((r.1.1 == r_1.1.1,()),())
 else some ((false,()),()):=by
  unfold F_l22_NcodeArgs
  funext d
  kernel_rfl
theorem nf_made_Tape_Next:F_made_Tape_Next=fun (d:(List Int × Int × Unit) × Int × Unit) =>
 bif decide (d.2.1 < 1) then some ((0,()),(d.1.1,d.1.2.1,()),())
 else bif
 bif decide (d.1.2.1 < (d.1.1.length:Int)) then inB d.1.2.1 d.1.1.length
 else true then
 bif !d.2.1 == 0 then
 bif !d.2.1 == 0 then some (((W ((bif decide (d.1.2.1 < (d.1.1.length:Int)) then d.1.1.getD d.1.2.1.toNat 0
 else W (W (d.1.2.1*7)+3)).tmod d.2.1+d.2.1)).tmod d.2.1,()),(d.1.1,W (d.1.2.1+1),()),())
 else none
 else none
 else none:=by
  unfold F_made_Tape_Next
  funext d
  kernel_rfl
theorem nf_made_Tape_Native:F_made_Tape_Native=fun (d:(List Int × Int × Unit) × Int × List Int × Unit)=>(F_made_Tape_Next ((d.1.1,d.1.2.1,()),7,())).bind
 fun (r:(Int × Unit) × (List Int × Int × Unit) × Unit)=>(rl ((Int × Unit) × (List (Int × Int × Int × Int × Int × Unit) × Unit) × (List Int × Int × Unit) × (Int × Unit × Unit) × Unit) (Unit × (List (Int × Int × Int × Int × Int × Unit) × Unit) × (List Int × Int × Unit) × (Int × Unit × Unit) × Unit) (fun (x:(Int × Unit) × (List (Int × Int × Int × Int × Int × Unit) × Unit) × (List Int × Int × Unit) × (Int × Unit × Unit) × Unit) =>
 bif decide (x.1.1 > 0) then (F_made_idiom ((x.2.2.1.1,x.2.2.1.2.1,()),d.2.2.1,(x.2.1.1.length:Int),())).bind
 fun (r:(List (Int × Int × Int × Int × Int × Unit) × Unit) × (List Int × Int × Unit) × Unit) =>
 bif small (x.2.1.1.length+r.1.1.length) 40 then some (Sum.inl ((W (x.1.1 - 1),()),(x.2.1.1 ++ r.1.1,()),(r.2.1.1,r.2.1.2.1,()),(x.2.2.2.1.1,(),()),()))
 else none
 else some (Sum.inr ((),(x.2.1.1,()),(x.2.2.1.1,x.2.2.1.2.1,()),(x.2.2.2.1.1,(),()),()))) ((W (1+r.1.1),()),([],()),(r.2.1.1,r.2.1.2.1,()),(d.2.1,(),()),())).bind
 fun (r:Unit × (List (Int × Int × Int × Int × Int × Unit) × Unit) × (List Int × Int × Unit) × (Int × Unit × Unit) × Unit)=>(rl ((Int × Unit) × Unit × List (Int × Int × Int × Int × Int × Unit) × Unit) (Unit × Unit × List (Int × Int × Int × Int × Int × Unit) × Unit) (fun (x:(Int × Unit) × Unit × List (Int × Int × Int × Int × Int × Unit) × Unit) =>
 bif decide (x.1.1 < (x.2.2.1.length:Int)) then
 bif inB x.1.1 x.2.2.1.length then
 bif bif (x.2.2.1.getD x.1.1.toNat (0,0,0,0,0,())).1 == 9 then true
 else (x.2.2.1.getD x.1.1.toNat (0,0,0,0,0,())).1 == 10 then
 bif ((x.2.2.1.set x.1.1.toNat ((x.2.2.1.getD x.1.1.toNat (0,0,0,0,0,())).1,(x.2.2.1.getD x.1.1.toNat (0,0,0,0,0,())).2.1,(x.2.2.1.getD x.1.1.toNat (0,0,0,0,0,())).2.2.1,(x.2.2.1.getD x.1.1.toNat (0,0,0,0,0,())).2.2.2.1,if U (x.2.2.1.length:Int) < (x.2.2.1.getD x.1.1.toNat (0,0,0,0,0,())).2.2.2.2.1 then U (x.2.2.1.length:Int)
 else (x.2.2.1.getD x.1.1.toNat (0,0,0,0,0,())).2.2.2.2.1,())).getD x.1.1.toNat (0,0,0,0,0,())).1 == 13 then (F_r22_Args (((x.2.2.1.set x.1.1.toNat ((x.2.2.1.getD x.1.1.toNat (0,0,0,0,0,())).1,(x.2.2.1.getD x.1.1.toNat (0,0,0,0,0,())).2.1,(x.2.2.1.getD x.1.1.toNat (0,0,0,0,0,())).2.2.1,(x.2.2.1.getD x.1.1.toNat (0,0,0,0,0,())).2.2.2.1,if U (x.2.2.1.length:Int) < (x.2.2.1.getD x.1.1.toNat (0,0,0,0,0,())).2.2.2.2.1 then U (x.2.2.1.length:Int)
 else (x.2.2.1.getD x.1.1.toNat (0,0,0,0,0,())).2.2.2.2.1,())).getD x.1.1.toNat (0,0,0,0,0,())).2.2.1,())).bind
 fun (r:(Int × Unit) × Unit) =>
 bif bif decide (W (((x.2.2.1.set x.1.1.toNat ((x.2.2.1.getD x.1.1.toNat (0,0,0,0,0,())).1,(x.2.2.1.getD x.1.1.toNat (0,0,0,0,0,())).2.1,(x.2.2.1.getD x.1.1.toNat (0,0,0,0,0,())).2.2.1,(x.2.2.1.getD x.1.1.toNat (0,0,0,0,0,())).2.2.2.1,if U (x.2.2.1.length:Int) < (x.2.2.1.getD x.1.1.toNat (0,0,0,0,0,())).2.2.2.2.1 then U (x.2.2.1.length:Int)
 else (x.2.2.1.getD x.1.1.toNat (0,0,0,0,0,())).2.2.2.2.1,())).getD x.1.1.toNat (0,0,0,0,0,())).2.2.2.1+r.1.1) > 8) then true
 else bif ((x.2.2.1.set x.1.1.toNat ((x.2.2.1.getD x.1.1.toNat (0,0,0,0,0,())).1,(x.2.2.1.getD x.1.1.toNat (0,0,0,0,0,())).2.1,(x.2.2.1.getD x.1.1.toNat (0,0,0,0,0,())).2.2.1,(x.2.2.1.getD x.1.1.toNat (0,0,0,0,0,())).2.2.2.1,if U (x.2.2.1.length:Int) < (x.2.2.1.getD x.1.1.toNat (0,0,0,0,0,())).2.2.2.2.1 then U (x.2.2.1.length:Int)
 else (x.2.2.1.getD x.1.1.toNat (0,0,0,0,0,())).2.2.2.2.1,())).getD x.1.1.toNat (0,0,0,0,0,())).1 == 14 then inB ((x.2.2.1.set x.1.1.toNat ((x.2.2.1.getD x.1.1.toNat (0,0,0,0,0,())).1,(x.2.2.1.getD x.1.1.toNat (0,0,0,0,0,())).2.1,(x.2.2.1.getD x.1.1.toNat (0,0,0,0,0,())).2.2.1,(x.2.2.1.getD x.1.1.toNat (0,0,0,0,0,())).2.2.2.1,if U (x.2.2.1.length:Int) < (x.2.2.1.getD x.1.1.toNat (0,0,0,0,0,())).2.2.2.2.1 then U (x.2.2.1.length:Int)
 else (x.2.2.1.getD x.1.1.toNat (0,0,0,0,0,())).2.2.2.2.1,())).getD x.1.1.toNat (0,0,0,0,0,())).2.2.1 d.2.2.1.length
 else true then
 bif bif decide (W (((x.2.2.1.set x.1.1.toNat ((x.2.2.1.getD x.1.1.toNat (0,0,0,0,0,())).1,(x.2.2.1.getD x.1.1.toNat (0,0,0,0,0,())).2.1,(x.2.2.1.getD x.1.1.toNat (0,0,0,0,0,())).2.2.1,(x.2.2.1.getD x.1.1.toNat (0,0,0,0,0,())).2.2.2.1,if U (x.2.2.1.length:Int) < (x.2.2.1.getD x.1.1.toNat (0,0,0,0,0,())).2.2.2.2.1 then U (x.2.2.1.length:Int)
 else (x.2.2.1.getD x.1.1.toNat (0,0,0,0,0,())).2.2.2.2.1,())).getD x.1.1.toNat (0,0,0,0,0,())).2.2.2.1+r.1.1) > 8) then true
 else bif ((x.2.2.1.set x.1.1.toNat ((x.2.2.1.getD x.1.1.toNat (0,0,0,0,0,())).1,(x.2.2.1.getD x.1.1.toNat (0,0,0,0,0,())).2.1,(x.2.2.1.getD x.1.1.toNat (0,0,0,0,0,())).2.2.1,(x.2.2.1.getD x.1.1.toNat (0,0,0,0,0,())).2.2.2.1,if U (x.2.2.1.length:Int) < (x.2.2.1.getD x.1.1.toNat (0,0,0,0,0,())).2.2.2.2.1 then U (x.2.2.1.length:Int)
 else (x.2.2.1.getD x.1.1.toNat (0,0,0,0,0,())).2.2.2.2.1,())).getD x.1.1.toNat (0,0,0,0,0,())).1 == 14 then decide (W (((x.2.2.1.set x.1.1.toNat ((x.2.2.1.getD x.1.1.toNat (0,0,0,0,0,())).1,(x.2.2.1.getD x.1.1.toNat (0,0,0,0,0,())).2.1,(x.2.2.1.getD x.1.1.toNat (0,0,0,0,0,())).2.2.1,(x.2.2.1.getD x.1.1.toNat (0,0,0,0,0,())).2.2.2.1,if U (x.2.2.1.length:Int) < (x.2.2.1.getD x.1.1.toNat (0,0,0,0,0,())).2.2.2.2.1 then U (x.2.2.1.length:Int)
 else (x.2.2.1.getD x.1.1.toNat (0,0,0,0,0,())).2.2.2.2.1,())).getD x.1.1.toNat (0,0,0,0,0,())).2.2.2.1+d.2.2.1.getD ((x.2.2.1.set x.1.1.toNat ((x.2.2.1.getD x.1.1.toNat (0,0,0,0,0,())).1,(x.2.2.1.getD x.1.1.toNat (0,0,0,0,0,())).2.1,(x.2.2.1.getD x.1.1.toNat (0,0,0,0,0,())).2.2.1,(x.2.2.1.getD x.1.1.toNat (0,0,0,0,0,())).2.2.2.1,if U (x.2.2.1.length:Int) < (x.2.2.1.getD x.1.1.toNat (0,0,0,0,0,())).2.2.2.2.1 then U (x.2.2.1.length:Int)
 else (x.2.2.1.getD x.1.1.toNat (0,0,0,0,0,())).2.2.2.2.1,())).getD x.1.1.toNat (0,0,0,0,0,())).2.2.1.toNat 0) > 8)
 else false then some (Sum.inl ((W (x.1.1+1),()),(),(x.2.2.1.set x.1.1.toNat ((x.2.2.1.getD x.1.1.toNat (0,0,0,0,0,())).1,(x.2.2.1.getD x.1.1.toNat (0,0,0,0,0,())).2.1,(x.2.2.1.getD x.1.1.toNat (0,0,0,0,0,())).2.2.1,(x.2.2.1.getD x.1.1.toNat (0,0,0,0,0,())).2.2.2.1,if U (x.2.2.1.length:Int) < (x.2.2.1.getD x.1.1.toNat (0,0,0,0,0,())).2.2.2.2.1 then U (x.2.2.1.length:Int)
 else (x.2.2.1.getD x.1.1.toNat (0,0,0,0,0,())).2.2.2.2.1,())).set x.1.1.toNat (((x.2.2.1.set x.1.1.toNat ((x.2.2.1.getD x.1.1.toNat (0,0,0,0,0,())).1,(x.2.2.1.getD x.1.1.toNat (0,0,0,0,0,())).2.1,(x.2.2.1.getD x.1.1.toNat (0,0,0,0,0,())).2.2.1,(x.2.2.1.getD x.1.1.toNat (0,0,0,0,0,())).2.2.2.1,if U (x.2.2.1.length:Int) < (x.2.2.1.getD x.1.1.toNat (0,0,0,0,0,())).2.2.2.2.1 then U (x.2.2.1.length:Int)
 else (x.2.2.1.getD x.1.1.toNat (0,0,0,0,0,())).2.2.2.2.1,())).getD x.1.1.toNat (0,0,0,0,0,())).1,((x.2.2.1.set x.1.1.toNat ((x.2.2.1.getD x.1.1.toNat (0,0,0,0,0,())).1,(x.2.2.1.getD x.1.1.toNat (0,0,0,0,0,())).2.1,(x.2.2.1.getD x.1.1.toNat (0,0,0,0,0,())).2.2.1,(x.2.2.1.getD x.1.1.toNat (0,0,0,0,0,())).2.2.2.1,if U (x.2.2.1.length:Int) < (x.2.2.1.getD x.1.1.toNat (0,0,0,0,0,())).2.2.2.2.1 then U (x.2.2.1.length:Int)
 else (x.2.2.1.getD x.1.1.toNat (0,0,0,0,0,())).2.2.2.2.1,())).getD x.1.1.toNat (0,0,0,0,0,())).2.1,((x.2.2.1.set x.1.1.toNat ((x.2.2.1.getD x.1.1.toNat (0,0,0,0,0,())).1,(x.2.2.1.getD x.1.1.toNat (0,0,0,0,0,())).2.1,(x.2.2.1.getD x.1.1.toNat (0,0,0,0,0,())).2.2.1,(x.2.2.1.getD x.1.1.toNat (0,0,0,0,0,())).2.2.2.1,if U (x.2.2.1.length:Int) < (x.2.2.1.getD x.1.1.toNat (0,0,0,0,0,())).2.2.2.2.1 then U (x.2.2.1.length:Int)
 else (x.2.2.1.getD x.1.1.toNat (0,0,0,0,0,())).2.2.2.2.1,())).getD x.1.1.toNat (0,0,0,0,0,())).2.2.1,0,((x.2.2.1.set x.1.1.toNat ((x.2.2.1.getD x.1.1.toNat (0,0,0,0,0,())).1,(x.2.2.1.getD x.1.1.toNat (0,0,0,0,0,())).2.1,(x.2.2.1.getD x.1.1.toNat (0,0,0,0,0,())).2.2.1,(x.2.2.1.getD x.1.1.toNat (0,0,0,0,0,())).2.2.2.1,if U (x.2.2.1.length:Int) < (x.2.2.1.getD x.1.1.toNat (0,0,0,0,0,())).2.2.2.2.1 then U (x.2.2.1.length:Int)
 else (x.2.2.1.getD x.1.1.toNat (0,0,0,0,0,())).2.2.2.2.1,())).getD x.1.1.toNat (0,0,0,0,0,())).2.2.2.2.1,()),()))
 else some (Sum.inl ((W (x.1.1+1),()),(),x.2.2.1.set x.1.1.toNat ((x.2.2.1.getD x.1.1.toNat (0,0,0,0,0,())).1,(x.2.2.1.getD x.1.1.toNat (0,0,0,0,0,())).2.1,(x.2.2.1.getD x.1.1.toNat (0,0,0,0,0,())).2.2.1,(x.2.2.1.getD x.1.1.toNat (0,0,0,0,0,())).2.2.2.1,if U (x.2.2.1.length:Int) < (x.2.2.1.getD x.1.1.toNat (0,0,0,0,0,())).2.2.2.2.1 then U (x.2.2.1.length:Int)
 else (x.2.2.1.getD x.1.1.toNat (0,0,0,0,0,())).2.2.2.2.1,()),()))
 else none
 else bif
 bif ((x.2.2.1.set x.1.1.toNat ((x.2.2.1.getD x.1.1.toNat (0,0,0,0,0,())).1,(x.2.2.1.getD x.1.1.toNat (0,0,0,0,0,())).2.1,(x.2.2.1.getD x.1.1.toNat (0,0,0,0,0,())).2.2.1,(x.2.2.1.getD x.1.1.toNat (0,0,0,0,0,())).2.2.2.1,if U (x.2.2.1.length:Int) < (x.2.2.1.getD x.1.1.toNat (0,0,0,0,0,())).2.2.2.2.1 then U (x.2.2.1.length:Int)
 else (x.2.2.1.getD x.1.1.toNat (0,0,0,0,0,())).2.2.2.2.1,())).getD x.1.1.toNat (0,0,0,0,0,())).1 == 14 then inB ((x.2.2.1.set x.1.1.toNat ((x.2.2.1.getD x.1.1.toNat (0,0,0,0,0,())).1,(x.2.2.1.getD x.1.1.toNat (0,0,0,0,0,())).2.1,(x.2.2.1.getD x.1.1.toNat (0,0,0,0,0,())).2.2.1,(x.2.2.1.getD x.1.1.toNat (0,0,0,0,0,())).2.2.2.1,if U (x.2.2.1.length:Int) < (x.2.2.1.getD x.1.1.toNat (0,0,0,0,0,())).2.2.2.2.1 then U (x.2.2.1.length:Int)
 else (x.2.2.1.getD x.1.1.toNat (0,0,0,0,0,())).2.2.2.2.1,())).getD x.1.1.toNat (0,0,0,0,0,())).2.2.1 d.2.2.1.length
 else true then
 bif bif ((x.2.2.1.set x.1.1.toNat ((x.2.2.1.getD x.1.1.toNat (0,0,0,0,0,())).1,(x.2.2.1.getD x.1.1.toNat (0,0,0,0,0,())).2.1,(x.2.2.1.getD x.1.1.toNat (0,0,0,0,0,())).2.2.1,(x.2.2.1.getD x.1.1.toNat (0,0,0,0,0,())).2.2.2.1,if U (x.2.2.1.length:Int) < (x.2.2.1.getD x.1.1.toNat (0,0,0,0,0,())).2.2.2.2.1 then U (x.2.2.1.length:Int)
 else (x.2.2.1.getD x.1.1.toNat (0,0,0,0,0,())).2.2.2.2.1,())).getD x.1.1.toNat (0,0,0,0,0,())).1 == 14 then decide (W (((x.2.2.1.set x.1.1.toNat ((x.2.2.1.getD x.1.1.toNat (0,0,0,0,0,())).1,(x.2.2.1.getD x.1.1.toNat (0,0,0,0,0,())).2.1,(x.2.2.1.getD x.1.1.toNat (0,0,0,0,0,())).2.2.1,(x.2.2.1.getD x.1.1.toNat (0,0,0,0,0,())).2.2.2.1,if U (x.2.2.1.length:Int) < (x.2.2.1.getD x.1.1.toNat (0,0,0,0,0,())).2.2.2.2.1 then U (x.2.2.1.length:Int)
 else (x.2.2.1.getD x.1.1.toNat (0,0,0,0,0,())).2.2.2.2.1,())).getD x.1.1.toNat (0,0,0,0,0,())).2.2.2.1+d.2.2.1.getD ((x.2.2.1.set x.1.1.toNat ((x.2.2.1.getD x.1.1.toNat (0,0,0,0,0,())).1,(x.2.2.1.getD x.1.1.toNat (0,0,0,0,0,())).2.1,(x.2.2.1.getD x.1.1.toNat (0,0,0,0,0,())).2.2.1,(x.2.2.1.getD x.1.1.toNat (0,0,0,0,0,())).2.2.2.1,if U (x.2.2.1.length:Int) < (x.2.2.1.getD x.1.1.toNat (0,0,0,0,0,())).2.2.2.2.1 then U (x.2.2.1.length:Int)
 else (x.2.2.1.getD x.1.1.toNat (0,0,0,0,0,())).2.2.2.2.1,())).getD x.1.1.toNat (0,0,0,0,0,())).2.2.1.toNat 0) > 8)
 else false then some (Sum.inl ((W (x.1.1+1),()),(),(x.2.2.1.set x.1.1.toNat ((x.2.2.1.getD x.1.1.toNat (0,0,0,0,0,())).1,(x.2.2.1.getD x.1.1.toNat (0,0,0,0,0,())).2.1,(x.2.2.1.getD x.1.1.toNat (0,0,0,0,0,())).2.2.1,(x.2.2.1.getD x.1.1.toNat (0,0,0,0,0,())).2.2.2.1,if U (x.2.2.1.length:Int) < (x.2.2.1.getD x.1.1.toNat (0,0,0,0,0,())).2.2.2.2.1 then U (x.2.2.1.length:Int)
 else (x.2.2.1.getD x.1.1.toNat (0,0,0,0,0,())).2.2.2.2.1,())).set x.1.1.toNat (((x.2.2.1.set x.1.1.toNat ((x.2.2.1.getD x.1.1.toNat (0,0,0,0,0,())).1,(x.2.2.1.getD x.1.1.toNat (0,0,0,0,0,())).2.1,(x.2.2.1.getD x.1.1.toNat (0,0,0,0,0,())).2.2.1,(x.2.2.1.getD x.1.1.toNat (0,0,0,0,0,())).2.2.2.1,if U (x.2.2.1.length:Int) < (x.2.2.1.getD x.1.1.toNat (0,0,0,0,0,())).2.2.2.2.1 then U (x.2.2.1.length:Int)
 else (x.2.2.1.getD x.1.1.toNat (0,0,0,0,0,())).2.2.2.2.1,())).getD x.1.1.toNat (0,0,0,0,0,())).1,((x.2.2.1.set x.1.1.toNat ((x.2.2.1.getD x.1.1.toNat (0,0,0,0,0,())).1,(x.2.2.1.getD x.1.1.toNat (0,0,0,0,0,())).2.1,(x.2.2.1.getD x.1.1.toNat (0,0,0,0,0,())).2.2.1,(x.2.2.1.getD x.1.1.toNat (0,0,0,0,0,())).2.2.2.1,if U (x.2.2.1.length:Int) < (x.2.2.1.getD x.1.1.toNat (0,0,0,0,0,())).2.2.2.2.1 then U (x.2.2.1.length:Int)
 else (x.2.2.1.getD x.1.1.toNat (0,0,0,0,0,())).2.2.2.2.1,())).getD x.1.1.toNat (0,0,0,0,0,())).2.1,((x.2.2.1.set x.1.1.toNat ((x.2.2.1.getD x.1.1.toNat (0,0,0,0,0,())).1,(x.2.2.1.getD x.1.1.toNat (0,0,0,0,0,())).2.1,(x.2.2.1.getD x.1.1.toNat (0,0,0,0,0,())).2.2.1,(x.2.2.1.getD x.1.1.toNat (0,0,0,0,0,())).2.2.2.1,if U (x.2.2.1.length:Int) < (x.2.2.1.getD x.1.1.toNat (0,0,0,0,0,())).2.2.2.2.1 then U (x.2.2.1.length:Int)
 else (x.2.2.1.getD x.1.1.toNat (0,0,0,0,0,())).2.2.2.2.1,())).getD x.1.1.toNat (0,0,0,0,0,())).2.2.1,0,((x.2.2.1.set x.1.1.toNat ((x.2.2.1.getD x.1.1.toNat (0,0,0,0,0,())).1,(x.2.2.1.getD x.1.1.toNat (0,0,0,0,0,())).2.1,(x.2.2.1.getD x.1.1.toNat (0,0,0,0,0,())).2.2.1,(x.2.2.1.getD x.1.1.toNat (0,0,0,0,0,())).2.2.2.1,if U (x.2.2.1.length:Int) < (x.2.2.1.getD x.1.1.toNat (0,0,0,0,0,())).2.2.2.2.1 then U (x.2.2.1.length:Int)
 else (x.2.2.1.getD x.1.1.toNat (0,0,0,0,0,())).2.2.2.2.1,())).getD x.1.1.toNat (0,0,0,0,0,())).2.2.2.2.1,()),()))
 else some (Sum.inl ((W (x.1.1+1),()),(),x.2.2.1.set x.1.1.toNat ((x.2.2.1.getD x.1.1.toNat (0,0,0,0,0,())).1,(x.2.2.1.getD x.1.1.toNat (0,0,0,0,0,())).2.1,(x.2.2.1.getD x.1.1.toNat (0,0,0,0,0,())).2.2.1,(x.2.2.1.getD x.1.1.toNat (0,0,0,0,0,())).2.2.2.1,if U (x.2.2.1.length:Int) < (x.2.2.1.getD x.1.1.toNat (0,0,0,0,0,())).2.2.2.2.1 then U (x.2.2.1.length:Int)
 else (x.2.2.1.getD x.1.1.toNat (0,0,0,0,0,())).2.2.2.2.1,()),()))
 else none
 else bif (x.2.2.1.getD x.1.1.toNat (0,0,0,0,0,())).1 == 13 then (F_r22_Args ((x.2.2.1.getD x.1.1.toNat (0,0,0,0,0,())).2.2.1,())).bind
 fun (r:(Int × Unit) × Unit) =>
 bif bif decide (W ((x.2.2.1.getD x.1.1.toNat (0,0,0,0,0,())).2.2.2.1+r.1.1) > 8) then true
 else bif (x.2.2.1.getD x.1.1.toNat (0,0,0,0,0,())).1 == 14 then inB (x.2.2.1.getD x.1.1.toNat (0,0,0,0,0,())).2.2.1 d.2.2.1.length
 else true then
 bif bif decide (W ((x.2.2.1.getD x.1.1.toNat (0,0,0,0,0,())).2.2.2.1+r.1.1) > 8) then true
 else bif (x.2.2.1.getD x.1.1.toNat (0,0,0,0,0,())).1 == 14 then decide (W ((x.2.2.1.getD x.1.1.toNat (0,0,0,0,0,())).2.2.2.1+d.2.2.1.getD (x.2.2.1.getD x.1.1.toNat (0,0,0,0,0,())).2.2.1.toNat 0) > 8)
 else false then some (Sum.inl ((W (x.1.1+1),()),(),x.2.2.1.set x.1.1.toNat ((x.2.2.1.getD x.1.1.toNat (0,0,0,0,0,())).1,(x.2.2.1.getD x.1.1.toNat (0,0,0,0,0,())).2.1,(x.2.2.1.getD x.1.1.toNat (0,0,0,0,0,())).2.2.1,0,(x.2.2.1.getD x.1.1.toNat (0,0,0,0,0,())).2.2.2.2.1,()),()))
 else some (Sum.inl ((W (x.1.1+1),()),(),x.2.2.1,()))
 else none
 else bif
 bif (x.2.2.1.getD x.1.1.toNat (0,0,0,0,0,())).1 == 14 then inB (x.2.2.1.getD x.1.1.toNat (0,0,0,0,0,())).2.2.1 d.2.2.1.length
 else true then
 bif bif (x.2.2.1.getD x.1.1.toNat (0,0,0,0,0,())).1 == 14 then decide (W ((x.2.2.1.getD x.1.1.toNat (0,0,0,0,0,())).2.2.2.1+d.2.2.1.getD (x.2.2.1.getD x.1.1.toNat (0,0,0,0,0,())).2.2.1.toNat 0) > 8)
 else false then some (Sum.inl ((W (x.1.1+1),()),(),x.2.2.1.set x.1.1.toNat ((x.2.2.1.getD x.1.1.toNat (0,0,0,0,0,())).1,(x.2.2.1.getD x.1.1.toNat (0,0,0,0,0,())).2.1,(x.2.2.1.getD x.1.1.toNat (0,0,0,0,0,())).2.2.1,0,(x.2.2.1.getD x.1.1.toNat (0,0,0,0,0,())).2.2.2.2.1,()),()))
 else some (Sum.inl ((W (x.1.1+1),()),(),x.2.2.1,()))
 else none
 else none
 else some (Sum.inr ((),(),x.2.2.1,()))) ((0,()),(),r.2.1.1,())).bind
 fun (r_1:Unit × Unit × List (Int × Int × Int × Int × Int × Unit) × Unit)=>(F_made_Tape_Next ((r.2.2.1.1,r.2.2.1.2.1,()),4,())).bind
 fun (r_2:(Int × Unit) × (List Int × Int × Unit) × Unit) =>
 bif decide (r_2.1.1 > 0) then (F_made_Tape_Next ((r_2.2.1.1,r_2.2.1.2.1,()),8,())).bind
 fun (r_3:(Int × Unit) × (List Int × Int × Unit) × Unit)=>(F_made_nat (17,r_3.1.1,0,0,0,())).bind
 fun (r_4:((Int × Int × Int × Int × Int × Unit) × Unit) × Unit) =>
 bif small (r_1.2.2.1.length + [(r_4.1.1.1,r_4.1.1.2.1,r_4.1.1.2.2.1,r_4.1.1.2.2.2.1,r_4.1.1.2.2.2.2.1,())].length) 40 then some (((r.2.2.2.1.1,r_1.2.2.1 ++ [(r_4.1.1.1,r_4.1.1.2.1,r_4.1.1.2.2.1,r_4.1.1.2.2.2.1,r_4.1.1.2.2.2.2.1,())],()),()),(r_3.2.1.1,r_3.2.1.2.1,()),())
 else none
 else some (((r.2.2.2.1.1,r_1.2.2.1,()),()),(r_2.2.1.1,r_2.2.1.2.1,()),()):=by
  unfold F_made_Tape_Native
  funext d
  kernel_rfl
theorem nf_ncode_fits:F_ncode_fits=fun (d:(Int × Int × Int × Int × Int × Unit) × Int × Unit) =>
 bif bif d.1.1 == 2 then d.1.1 == 2
 else bif d.1.1 == 3 then d.1.1 == 3
 else bif d.1.1 == 4 then d.1.1 == 4
 else bif d.1.1 == 5 then d.1.1 == 5
 else bif d.1.1 == 6 then d.1.1 == 6
 else bif d.1.1 == 7 then d.1.1 == 7
 else bif d.1.1 == 8 then d.1.1 == 8
 else bif d.1.1 == 11 then d.1.1 == 11
 else d.1.1 == 12 then some ((decide (d.1.2.2.1 < 8),()),())
 else bif
 bif d.1.1 == 9 then d.1.1 == 9
 else d.1.1 == 10 then some ((decide (d.1.2.2.2.2.1<=U d.2.1),()),())
 else bif d.1.1 == 13 then (F_ncode_Args (d.1.2.2.1,())).bind
 fun (r:(Int × Unit) × Unit)=>some ((decide (W (d.1.2.2.2.1+r.1.1)<=8),()),())
 else some ((true,()),()):=by
  unfold F_ncode_fits
  funext d
  kernel_rfl
theorem nf_r22_Sound:F_r22_Sound=fun (d:(Int × (List (Int × Int × Int × Int × Int × Unit)) × Unit) × (Int × Int × Int × Int × Int × Unit) × Unit)=>(F_r22_takesB (d.2.1.1,())).bind
 fun (r:(Bool × Unit) × Unit) =>
 bif bif r.1.1 then
 bif decide (d.2.1.2.2.1 > 7) then true
 else bif d.2.1.1 == 9 then decide (d.2.1.2.2.2.2.1 > U (d.1.2.1.length:Int))
 else bif d.2.1.1 == 10 then decide (d.2.1.2.2.2.2.1 > U (d.1.2.1.length:Int))
 else false
 else bif d.2.1.1 == 9 then decide (d.2.1.2.2.2.2.1 > U (d.1.2.1.length:Int))
 else bif d.2.1.1 == 10 then decide (d.2.1.2.2.2.2.1 > U (d.1.2.1.length:Int))
 else false then some ((false,()),())
 else bif d.2.1.1 != 13 then some ((true,()),())
 else (F_r22_Args (d.2.1.2.2.1,())).bind
 fun (r:(Int × Unit) × Unit)=>some ((decide (W (d.2.1.2.2.2.1+r.1.1)<=8),()),()):=by
  unfold F_r22_Sound
  funext d
  kernel_rfl
end Go.VI
namespace Go.VI
open Go
theorem nf_ncode_fields:F_ncode_fields=fun (d:(Int × Int × Int × Int × Int × Unit) × Unit)=>(F_bits_Pack ([(8,U d.1.1,()),(4,U d.1.2.1,()),(8,U d.1.2.2.1,()),(4,U d.1.2.2.2.1,())],())).bind
 fun (r:(Int × Int × Unit) × Unit)=>some ((r.1.1,()),()):=by
  unfold F_ncode_fields
  funext d
  kernel_rfl
theorem nf_made_idiom:F_made_idiom=fun (d:(List Int × Int × Unit) × List Int × Int × Unit)=>(F_made_Tape_Next ((d.1.1,d.1.2.1,()),4,())).bind
 fun (r:(Int × Unit) × (List Int × Int × Unit) × Unit)=>(F_made_Tape_Next ((r.2.1.1,r.2.1.2.1,()),3,())).bind
 fun (r_1:(Int × Unit) × (List Int × Int × Unit) × Unit)=>(F_made_Tape_Next ((r_1.2.1.1,r_1.2.1.2.1,()),4,())).bind
 fun (r_2:(Int × Unit) × (List Int × Int × Unit) × Unit)=>(F_made_Tape_Next ((r_2.2.1.1,r_2.2.1.2.1,()),11,())).bind
 fun (r_3:(Int × Unit) × (List Int × Int × Unit) × Unit) =>
 bif bif r_3.1.1 == 0 then r_3.1.1 == 0
 else r_3.1.1 == 1 then (F_made_nat (1,r.1.1,0,0,U (1+U r_2.1.1),())).bind
 fun (r_4:((Int × Int × Int × Int × Int × Unit) × Unit) × Unit)=>(F_made_nat (13,W (4+r_1.1.1),3,r.1.1,0,())).bind
 fun (r:((Int × Int × Int × Int × Int × Unit) × Unit) × Unit)=>some (([(r_4.1.1.1,r_4.1.1.2.1,r_4.1.1.2.2.1,r_4.1.1.2.2.2.1,r_4.1.1.2.2.2.2.1,()),(r.1.1.1,r.1.1.2.1,r.1.1.2.2.1,r.1.1.2.2.2.1,r.1.1.2.2.2.2.1,())],()),(r_3.2.1.1,r_3.2.1.2.1,()),())
 else bif
 bif r_3.1.1 == 2 then r_3.1.1 == 2
 else r_3.1.1 == 3 then (F_made_nat (13,W (4+r_1.1.1),19,r.1.1,0,())).bind
 fun (r_4:((Int × Int × Int × Int × Int × Unit) × Unit) × Unit)=>(F_made_nat (1,7,0,0,U r_2.1.1,())).bind
 fun (r_5:((Int × Int × Int × Int × Int × Unit) × Unit) × Unit)=>(F_made_nat (3,W (4+r_1.1.1),W (4+r_1.1.1),7,0,())).bind
 fun (r_6:((Int × Int × Int × Int × Int × Unit) × Unit) × Unit)=>(F_made_Tape_Next ((r_3.2.1.1,r_3.2.1.2.1,()),99,())).bind
 fun (r_7:(Int × Unit) × (List Int × Int × Unit) × Unit)=>(F_made_nat (1,7,0,0,U r_7.1.1,())).bind
 fun (r_8:((Int × Int × Int × Int × Int × Unit) × Unit) × Unit)=>(F_made_nat (12,W (4+r_1.1.1),7,0,0,())).bind
 fun (r_9:((Int × Int × Int × Int × Int × Unit) × Unit) × Unit)=>(F_made_nat (11,7,W (4+r_1.1.1),0,0,())).bind
 fun (r_10:((Int × Int × Int × Int × Int × Unit) × Unit) × Unit)=>(F_made_nat (13,W (4+r_1.1.1),20,r.1.1,0,())).bind
 fun (r:((Int × Int × Int × Int × Int × Unit) × Unit) × Unit)=>(F_made_nat (15,7,0,0,0,())).bind
 fun (r_11:((Int × Int × Int × Int × Int × Unit) × Unit) × Unit)=>some (([(r_4.1.1.1,r_4.1.1.2.1,r_4.1.1.2.2.1,r_4.1.1.2.2.2.1,r_4.1.1.2.2.2.2.1,()),(r_5.1.1.1,r_5.1.1.2.1,r_5.1.1.2.2.1,r_5.1.1.2.2.2.1,r_5.1.1.2.2.2.2.1,()),(r_6.1.1.1,r_6.1.1.2.1,r_6.1.1.2.2.1,r_6.1.1.2.2.2.1,r_6.1.1.2.2.2.2.1,()),(r_8.1.1.1,r_8.1.1.2.1,r_8.1.1.2.2.1,r_8.1.1.2.2.2.1,r_8.1.1.2.2.2.2.1,()),(r_9.1.1.1,r_9.1.1.2.1,r_9.1.1.2.2.1,r_9.1.1.2.2.2.1,r_9.1.1.2.2.2.2.1,()),(r_10.1.1.1,r_10.1.1.2.1,r_10.1.1.2.2.1,r_10.1.1.2.2.2.1,r_10.1.1.2.2.2.2.1,()),(r.1.1.1,r.1.1.2.1,r.1.1.2.2.1,r.1.1.2.2.2.1,r.1.1.2.2.2.2.1,()),(r_11.1.1.1,r_11.1.1.2.1,r_11.1.1.2.2.1,r_11.1.1.2.2.2.1,r_11.1.1.2.2.2.2.1,())],()),(r_7.2.1.1,r_7.2.1.2.1,()),())
 else bif r_3.1.1 == 4 then (F_made_Tape_Next ((r_3.2.1.1,r_3.2.1.2.1,()),20,())).bind
 fun (r_4:(Int × Unit) × (List Int × Int × Unit) × Unit)=>(F_made_Tape_Next ((r_4.2.1.1,r_4.2.1.2.1,()),6,())).bind
 fun (r_5:(Int × Unit) × (List Int × Int × Unit) × Unit)=>(F_made_nat (13,r.1.1,W (1+r_4.1.1),r_5.1.1,0,())).bind
 fun (r:((Int × Int × Int × Int × Int × Unit) × Unit) × Unit)=>some (([(r.1.1.1,r.1.1.2.1,r.1.1.2.2.1,r.1.1.2.2.2.1,r.1.1.2.2.2.2.1,())],()),(r_5.2.1.1,r_5.2.1.2.1,()),())
 else bif r_3.1.1 == 5 then (F_made_nat (16,W (4+r_1.1.1),0,0,0,())).bind
 fun (r:((Int × Int × Int × Int × Int × Unit) × Unit) × Unit)=>(F_made_nat (15,W (4+r_1.1.1),0,0,0,())).bind
 fun (r_4:((Int × Int × Int × Int × Int × Unit) × Unit) × Unit)=>some (([(r.1.1.1,r.1.1.2.1,r.1.1.2.2.1,r.1.1.2.2.2.1,r.1.1.2.2.2.2.1,()),(r_4.1.1.1,r_4.1.1.2.1,r_4.1.1.2.2.1,r_4.1.1.2.2.2.1,r_4.1.1.2.2.2.2.1,())],()),(r_3.2.1.1,r_3.2.1.2.1,()),())
 else bif r_3.1.1 == 6 then (F_made_Tape_Next ((r_3.2.1.1,r_3.2.1.2.1,()),8,())).bind
 fun (r:(Int × Unit) × (List Int × Int × Unit) × Unit)=>(F_made_Tape_Next ((r.2.1.1,r.2.1.2.1,()),8,())).bind
 fun (r_4:(Int × Unit) × (List Int × Int × Unit) × Unit)=>(F_made_Tape_Next ((r_4.2.1.1,r_4.2.1.2.1,()),8,())).bind
 fun (r_5:(Int × Unit) × (List Int × Int × Unit) × Unit)=>(F_made_Tape_Next ((r_5.2.1.1,r_5.2.1.2.1,()),8,())).bind
 fun (r_6:(Int × Unit) × (List Int × Int × Unit) × Unit)=>(F_made_nat (W (1+r.1.1),r_4.1.1,r_5.1.1,r_6.1.1,U r_2.1.1,())).bind
 fun (r:((Int × Int × Int × Int × Int × Unit) × Unit) × Unit)=>some (([(r.1.1.1,r.1.1.2.1,r.1.1.2.2.1,r.1.1.2.2.2.1,r.1.1.2.2.2.2.1,())],()),(r_6.2.1.1,r_6.2.1.2.1,()),())
 else bif r_3.1.1 == 7 then (F_made_Tape_Next ((r_3.2.1.1,r_3.2.1.2.1,()),8,())).bind
 fun (r:(Int × Unit) × (List Int × Int × Unit) × Unit)=>(F_made_Tape_Next ((r.2.1.1,r.2.1.2.1,()),4,())).bind
 fun (r_4:(Int × Unit) × (List Int × Int × Unit) × Unit)=>(F_made_nat (10,r.1.1,0,0,U (W (W (d.2.2.1+1)+r_4.1.1)),())).bind
 fun (r:((Int × Int × Int × Int × Int × Unit) × Unit) × Unit)=>some (([(r.1.1.1,r.1.1.2.1,r.1.1.2.2.1,r.1.1.2.2.2.1,r.1.1.2.2.2.2.1,())],()),(r_4.2.1.1,r_4.2.1.2.1,()),())
 else bif r_3.1.1 == 8 then (F_made_Tape_Next ((r_3.2.1.1,r_3.2.1.2.1,()),(d.2.1.length:Int),())).bind
 fun (r:(Int × Unit) × (List Int × Int × Unit) × Unit) =>
 bif inB r.1.1 d.2.1.length then (F_made_Tape_Next ((r.2.1.1,r.2.1.2.1,()),W (9 - d.2.1.getD r.1.1.toNat 0),())).bind
 fun (r_4:(Int × Unit) × (List Int × Int × Unit) × Unit) =>
 bif !8 == 0 then (F_made_nat (14,W (4+r_1.1.1),r.1.1,r_4.1.1.tmod 8,0,())).bind
 fun (r:((Int × Int × Int × Int × Int × Unit) × Unit) × Unit)=>some (([(r.1.1.1,r.1.1.2.1,r.1.1.2.2.1,r.1.1.2.2.2.1,r.1.1.2.2.2.2.1,())],()),(r_4.2.1.1,r_4.2.1.2.1,()),())
 else none
 else none
 else bif r_3.1.1 == 9 then (F_made_nat (13,W (4+r_1.1.1),13,r.1.1,0,())).bind
 fun (r_4:((Int × Int × Int × Int × Int × Unit) × Unit) × Unit)=>(F_made_nat (2,r.1.1,W (4+r_1.1.1),0,0,())).bind
 fun (r:((Int × Int × Int × Int × Int × Unit) × Unit) × Unit)=>some (([(r_4.1.1.1,r_4.1.1.2.1,r_4.1.1.2.2.1,r_4.1.1.2.2.2.1,r_4.1.1.2.2.2.2.1,()),(r.1.1.1,r.1.1.2.1,r.1.1.2.2.1,r.1.1.2.2.2.1,r.1.1.2.2.2.2.1,())],()),(r_3.2.1.1,r_3.2.1.2.1,()),())
 else (F_made_nat (1,7,0,0,U r_2.1.1,())).bind
 fun (r_4:((Int × Int × Int × Int × Int × Unit) × Unit) × Unit)=>(F_made_nat (13,r.1.1,6,6,0,())).bind
 fun (r_5:((Int × Int × Int × Int × Int × Unit) × Unit) × Unit)=>(F_made_nat (15,r.1.1,0,0,0,())).bind
 fun (r:((Int × Int × Int × Int × Int × Unit) × Unit) × Unit)=>some (([(r_4.1.1.1,r_4.1.1.2.1,r_4.1.1.2.2.1,r_4.1.1.2.2.2.1,r_4.1.1.2.2.2.2.1,()),(r_5.1.1.1,r_5.1.1.2.1,r_5.1.1.2.2.1,r_5.1.1.2.2.2.1,r_5.1.1.2.2.2.2.1,()),(r.1.1.1,r.1.1.2.1,r.1.1.2.2.1,r.1.1.2.2.2.1,r.1.1.2.2.2.2.1,())],()),(r_3.2.1.1,r_3.2.1.2.1,()),()):=by
  unfold F_made_idiom
  funext d
  kernel_rfl
theorem nf_r22_Formed:F_r22_Formed=fun (d:(Int × (List (Int × Int × Int × Int × Int × Unit)) × Unit) × Unit)=>(rl ((Bool × Int × Unit) × Unit × Unit) ((Bool × Unit) × Unit × Unit ⊕ (Bool × Unit) × Unit × Unit) (fun (x:(Bool × Int × Unit) × Unit × Unit) =>
 bif decide (x.1.2.1 < (d.1.2.1.length:Int)) then
 bif inB x.1.2.1 d.1.2.1.length then
 bif bif decide ((d.1.2.1.getD x.1.2.1.toNat (0,0,0,0,0,())).1 < 1) then true
 else bif decide ((d.1.2.1.getD x.1.2.1.toNat (0,0,0,0,0,())).1 > 17) then true
 else bif decide ((d.1.2.1.getD x.1.2.1.toNat (0,0,0,0,0,())).2.1 < 0) then true
 else bif decide ((d.1.2.1.getD x.1.2.1.toNat (0,0,0,0,0,())).2.1 > 7) then true
 else bif decide ((d.1.2.1.getD x.1.2.1.toNat (0,0,0,0,0,())).2.2.2.1 < 0) then true
 else bif decide ((d.1.2.1.getD x.1.2.1.toNat (0,0,0,0,0,())).2.2.2.1 > 7) then true
 else bif decide ((d.1.2.1.getD x.1.2.1.toNat (0,0,0,0,0,())).2.2.1 < 0) then true
 else decide ((d.1.2.1.getD x.1.2.1.toNat (0,0,0,0,0,())).2.2.1 > 255) then some (Sum.inr (Sum.inl ((false,()),(),())))
 else some (Sum.inl ((x.1.1,W (x.1.2.1+1),()),(),()))
 else none
 else some (Sum.inr (Sum.inr ((x.1.1,()),(),())))) ((false,0,()),(),())).bind
 fun (r:(Bool × Unit) × Unit × Unit ⊕ (Bool × Unit) × Unit × Unit)=>Sum.elim (fun (x:(Bool × Unit) × Unit × Unit)=>some ((x.1.1,()),())) (fun (y:(Bool × Unit) × Unit × Unit)=>some ((bif decide (d.1.1 >= 0) then
 bif decide (d.1.1<=3) then decide ((d.1.2.1.length:Int)<=256)
 else false
 else false,()),())) r:=by
  unfold F_r22_Formed
  funext d
  kernel_rfl
theorem nf_r01_Same:F_r01_Same=fun (d:List Int × List Int × Unit) =>
 bif (d.1.length:Int) != (d.2.1.length:Int) then some ((false,()),())
 else (rl ((Bool × Int × Unit) × Unit × Unit) ((Bool × Unit) × Unit × Unit ⊕ (Bool × Unit) × Unit × Unit) (fun (x:(Bool × Int × Unit) × Unit × Unit) =>
 bif decide (x.1.2.1 < (d.1.length:Int)) then
 bif inB x.1.2.1 d.1.length then
 bif inB x.1.2.1 d.2.1.length then
 bif d.1.getD x.1.2.1.toNat 0 != d.2.1.getD x.1.2.1.toNat 0 then some (Sum.inr (Sum.inl ((false,()),(),())))
 else some (Sum.inl ((x.1.1,W (x.1.2.1+1),()),(),()))
 else none
 else none
 else some (Sum.inr (Sum.inr ((x.1.1,()),(),())))) ((false,0,()),(),())).bind
 fun (r:(Bool × Unit) × Unit × Unit ⊕ (Bool × Unit) × Unit × Unit)=>Sum.elim (fun (x:(Bool × Unit) × Unit × Unit)=>some ((x.1.1,()),())) (fun (y:(Bool × Unit) × Unit × Unit)=>some ((true,()),())) r:=by
  unfold F_r01_Same
  funext d
  kernel_rfl
theorem nf_bits_Unpack_S1_c:F_bits_Unpack_S1_c=fun (d:Int × List Int × Unit) =>
 bif inB d.1 d.2.1.length then some ((d.2.1.getD d.1.toNat 0,()),d.2.1,())
 else none:=by
  unfold F_bits_Unpack_S1_c
  funext d
  kernel_rfl
theorem nf_ncode_instruction:F_ncode_instruction=fun (d:Int × Int × Unit)=>(F_bits_Unpack (d.1,[8,4,8,4],())).bind
 fun (r:(List Int × Int × Unit) × Unit) =>
 bif r.1.2.1 != 0 then some (((0,0,0,0,0,()),false,()),())
 else bif inB 0 r.1.1.length then
 bif inB 1 r.1.1.length then
 bif inB 2 r.1.1.length then
 bif inB 3 r.1.1.length then (F_ncode_wellFormed ((W (r.1.1.getD (Int.toNat 0) 0),W (r.1.1.getD (Int.toNat 1) 0),W (r.1.1.getD (Int.toNat 2) 0),W (r.1.1.getD (Int.toNat 3) 0),d.2.1,()),())).bind
 fun (r_1:(Bool × Unit) × Unit)=>some (((W (r.1.1.getD (Int.toNat 0) 0),W (r.1.1.getD (Int.toNat 1) 0),W (r.1.1.getD (Int.toNat 2) 0),W (r.1.1.getD (Int.toNat 3) 0),d.2.1,()),r_1.1.1,()),())
 else none
 else none
 else none
 else none:=by
  unfold F_ncode_instruction
  funext d
  kernel_rfl
theorem nf_l22_told:F_l22_told=fun (d:(Int × (List (Int × Int × Int × Int × Int × Unit)) × Unit) × Unit)=>(rl ((Int × Unit) × (List (Int × Int × Int × Int × Int × Unit) × Unit) × (Int × Unit × Unit) × Unit) (Unit × (List (Int × Int × Int × Int × Int × Unit) × Unit) × (Int × Unit × Unit) × Unit) (fun (x:(Int × Unit) × (List (Int × Int × Int × Int × Int × Unit) × Unit) × (Int × Unit × Unit) × Unit) =>
 bif decide (x.1.1 < (d.1.2.1.length:Int)) then
 bif inB x.1.1 d.1.2.1.length then
 bif small (x.2.1.1.length + [((d.1.2.1.getD x.1.1.toNat (0,0,0,0,0,())).1,(d.1.2.1.getD x.1.1.toNat (0,0,0,0,0,())).2.1,(d.1.2.1.getD x.1.1.toNat (0,0,0,0,0,())).2.2.1,(d.1.2.1.getD x.1.1.toNat (0,0,0,0,0,())).2.2.2.1,(d.1.2.1.getD x.1.1.toNat (0,0,0,0,0,())).2.2.2.2.1,())].length) 40 then some (Sum.inl ((W (x.1.1+1),()),(x.2.1.1 ++ [((d.1.2.1.getD x.1.1.toNat (0,0,0,0,0,())).1,(d.1.2.1.getD x.1.1.toNat (0,0,0,0,0,())).2.1,(d.1.2.1.getD x.1.1.toNat (0,0,0,0,0,())).2.2.1,(d.1.2.1.getD x.1.1.toNat (0,0,0,0,0,())).2.2.2.1,(d.1.2.1.getD x.1.1.toNat (0,0,0,0,0,())).2.2.2.2.1,())],()),(x.2.2.1.1,(),()),()))
 else none
 else none
 else some (Sum.inr ((),(x.2.1.1,()),(x.2.2.1.1,(),()),()))) ((0,()),([],()),(d.1.1,(),()),())).bind
 fun (r:Unit × (List (Int × Int × Int × Int × Int × Unit) × Unit) × (Int × Unit × Unit) × Unit)=>some (((r.2.2.1.1,r.2.1.1,()),()),()):=by
  unfold F_l22_told
  funext d
  kernel_rfl
theorem nf_l22_NcodeWords:F_l22_NcodeWords=fun (d:(Int × (List (Int × Int × Int × Int × Int × Unit)) × Unit) × List Int × List Int × Unit) =>
 bif bif decide ((d.1.2.1.length:Int) > 400) then true
 else decide ((d.2.1.length:Int) > 900) then some ((true,()),())
 else (F_l22_made (d.2.2.1,())).bind
 fun (r:((Int × List (Int × Int × Int × Int × Int × Unit) × Unit) × Unit) × Unit)=>(rl ((Bool × Int × Unit) × Unit × Unit) ((Bool × Unit) × Unit × Unit ⊕ (Bool × Unit) × Unit × Unit) (fun (x:(Bool × Int × Unit) × Unit × Unit) =>
 bif decide (x.1.2.1 < ↑[(d.1.1,d.1.2.1,()),(r.1.1.1,r.1.1.2.1,())].length) then
 bif inB x.1.2.1 [(d.1.1,d.1.2.1,()),(r.1.1.1,r.1.1.2.1,())].length then (F_l22_given ((([(d.1.1,d.1.2.1,()),(r.1.1.1,r.1.1.2.1,())].getD x.1.2.1.toNat (0,[],())).1,([(d.1.1,d.1.2.1,()),(r.1.1.1,r.1.1.2.1,())].getD x.1.2.1.toNat (0,[],())).2.1,()),())).bind
 fun (r_1:((Int × List (Int × Int × Int × Int × Int × Unit) × Unit) × Unit) × Unit)=>(F_ncode_Encode ((r_1.1.1.1,r_1.1.1.2.1,()),())).bind
 fun (r_2:(List Int × Int × Unit) × Unit)=>(F_r22_Encode ((([(d.1.1,d.1.2.1,()),(r.1.1.1,r.1.1.2.1,())].getD x.1.2.1.toNat (0,[],())).1,([(d.1.1,d.1.2.1,()),(r.1.1.1,r.1.1.2.1,())].getD x.1.2.1.toNat (0,[],())).2.1,()),())).bind
 fun (r:(List Int × Int × Unit) × Unit) =>
 bif r_2.1.2.1 != r.1.2.1 then some (Sum.inr (Sum.inl ((false,()),(),())))
 else (F_r01_Same (r_2.1.1,r.1.1,())).bind
 fun (r:(Bool × Unit) × Unit) =>
 bif !r.1.1 then some (Sum.inr (Sum.inl ((false,()),(),())))
 else some (Sum.inl ((x.1.1,W (x.1.2.1+1),()),(),()))
 else none
 else some (Sum.inr (Sum.inr ((x.1.1,()),(),())))) ((false,0,()),(),())).bind
 fun (r:(Bool × Unit) × Unit × Unit ⊕ (Bool × Unit) × Unit × Unit)=>Sum.elim (fun (x:(Bool × Unit) × Unit × Unit)=>some ((x.1.1,()),())) (fun (y:(Bool × Unit) × Unit × Unit)=>(F_ncode_Decode (d.2.1,())).bind
 fun (r:((Int × List (Int × Int × Int × Int × Int × Unit) × Unit) × Int × Unit) × Unit)=>(F_r22_Decode (d.2.1,())).bind
 fun (r_1:((Int × List (Int × Int × Int × Int × Int × Unit) × Unit) × Int × Unit) × Unit)=>(F_l22_awake ()).bind
 fun (r_2:(Bool × Unit) × Unit) =>
 bif r_2.1.1 then
 bif r.1.2.1 == r_1.1.2.1 then (F_l22_told ((r.1.1.1,r.1.1.2.1,()),())).bind
 fun (r:((Int × List (Int × Int × Int × Int × Int × Unit) × Unit) × Unit) × Unit)=>(F_r22_Same ((r.1.1.1,r.1.1.2.1,()),(r_1.1.1.1,r_1.1.1.2.1,()),())).bind
 fun (r:(Bool × Unit) × Unit)=>some ((r.1.1,()),())
 else some ((false,()),())
 else some ((false,()),())) r:=by
  unfold F_l22_NcodeWords
  funext d
  kernel_rfl
theorem nf_l22_bent:F_l22_bent=fun (d:(Int × (List (Int × Int × Int × Int × Int × Unit)) × Unit) × List Int × Unit) =>
 bif small (0+d.1.2.1.length) 40 then
 bif (d.1.2.1.length:Int) == 0 then some (((d.1.1,d.1.2.1,()),()),())
 else (F_made_Tape_Next ((d.2.1,0,()),(d.1.2.1.length:Int),())).bind
 fun (r:(Int × Unit) × (List Int × Int × Unit) × Unit) =>
 bif inB r.1.1 (d.1.2.1).length then (F_made_Tape_Next ((r.2.1.1,r.2.1.2.1,()),6,())).bind
 fun (r_1:(Int × Unit) × (List Int × Int × Unit) × Unit) =>
 bif r_1.1.1 == 0 then (F_made_Tape_Next ((r_1.2.1.1,r_1.2.1.2.1,()),19,())).bind
 fun (r_2:(Int × Unit) × (List Int × Int × Unit) × Unit)=>some (((d.1.1,(d.1.2.1).set r.1.1.toNat (r_2.1.1,((d.1.2.1).getD r.1.1.toNat (0,0,0,0,0,())).2.1,((d.1.2.1).getD r.1.1.toNat (0,0,0,0,0,())).2.2.1,((d.1.2.1).getD r.1.1.toNat (0,0,0,0,0,())).2.2.2.1,((d.1.2.1).getD r.1.1.toNat (0,0,0,0,0,())).2.2.2.2.1,()),()),()),())
 else bif r_1.1.1 == 1 then (F_made_Tape_Next ((r_1.2.1.1,r_1.2.1.2.1,()),10,())).bind
 fun (r_2:(Int × Unit) × (List Int × Int × Unit) × Unit)=>some (((d.1.1,(d.1.2.1).set r.1.1.toNat (((d.1.2.1).getD r.1.1.toNat (0,0,0,0,0,())).1,W (r_2.1.1 - 1),((d.1.2.1).getD r.1.1.toNat (0,0,0,0,0,())).2.2.1,((d.1.2.1).getD r.1.1.toNat (0,0,0,0,0,())).2.2.2.1,((d.1.2.1).getD r.1.1.toNat (0,0,0,0,0,())).2.2.2.2.1,()),()),()),())
 else bif r_1.1.1 == 2 then (F_made_Tape_Next ((r_1.2.1.1,r_1.2.1.2.1,()),260,())).bind
 fun (r_2:(Int × Unit) × (List Int × Int × Unit) × Unit)=>some (((d.1.1,(d.1.2.1).set r.1.1.toNat (((d.1.2.1).getD r.1.1.toNat (0,0,0,0,0,())).1,((d.1.2.1).getD r.1.1.toNat (0,0,0,0,0,())).2.1,r_2.1.1,((d.1.2.1).getD r.1.1.toNat (0,0,0,0,0,())).2.2.2.1,((d.1.2.1).getD r.1.1.toNat (0,0,0,0,0,())).2.2.2.2.1,()),()),()),())
 else bif r_1.1.1 == 3 then (F_made_Tape_Next ((r_1.2.1.1,r_1.2.1.2.1,()),9,())).bind
 fun (r_2:(Int × Unit) × (List Int × Int × Unit) × Unit)=>some (((d.1.1,(d.1.2.1).set r.1.1.toNat (((d.1.2.1).getD r.1.1.toNat (0,0,0,0,0,())).1,((d.1.2.1).getD r.1.1.toNat (0,0,0,0,0,())).2.1,((d.1.2.1).getD r.1.1.toNat (0,0,0,0,0,())).2.2.1,r_2.1.1,((d.1.2.1).getD r.1.1.toNat (0,0,0,0,0,())).2.2.2.2.1,()),()),()),())
 else bif r_1.1.1 == 4 then (F_made_Tape_Next ((r_1.2.1.1,r_1.2.1.2.1,()),300,())).bind
 fun (r_2:(Int × Unit) × (List Int × Int × Unit) × Unit)=>some (((d.1.1,(d.1.2.1).set r.1.1.toNat (((d.1.2.1).getD r.1.1.toNat (0,0,0,0,0,())).1,((d.1.2.1).getD r.1.1.toNat (0,0,0,0,0,())).2.1,((d.1.2.1).getD r.1.1.toNat (0,0,0,0,0,())).2.2.1,((d.1.2.1).getD r.1.1.toNat (0,0,0,0,0,())).2.2.2.1,U r_2.1.1,()),()),()),())
 else (F_made_Tape_Next ((r_1.2.1.1,r_1.2.1.2.1,()),5,())).bind
 fun (r:(Int × Unit) × (List Int × Int × Unit) × Unit)=>some (((r.1.1,d.1.2.1,()),()),())
 else none
 else none:=by
  unfold F_l22_bent
  funext d
  kernel_rfl
theorem nf_ncode_runnable:F_ncode_runnable=fun (d:(Int × (List (Int × Int × Int × Int × Int × Unit)) × Unit) × Unit)=>(F_ncode_encodable ((d.1.1,d.1.2.1,()),())).bind
 fun (r:(Bool × Unit) × Unit) =>
 bif !r.1.1 then some ((false,()),())
 else (rl ((Bool × Int × Unit) × Unit × Unit) ((Bool × Unit) × Unit × Unit ⊕ (Bool × Unit) × Unit × Unit) (fun (x:(Bool × Int × Unit) × Unit × Unit) =>
 bif decide (x.1.2.1 < (d.1.2.1.length:Int)) then
 bif inB x.1.2.1 d.1.2.1.length then (F_ncode_fits (((d.1.2.1.getD x.1.2.1.toNat (0,0,0,0,0,())).1,(d.1.2.1.getD x.1.2.1.toNat (0,0,0,0,0,())).2.1,(d.1.2.1.getD x.1.2.1.toNat (0,0,0,0,0,())).2.2.1,(d.1.2.1.getD x.1.2.1.toNat (0,0,0,0,0,())).2.2.2.1,(d.1.2.1.getD x.1.2.1.toNat (0,0,0,0,0,())).2.2.2.2.1,()),(d.1.2.1.length:Int),())).bind
 fun (r:(Bool × Unit) × Unit) =>
 bif !r.1.1 then some (Sum.inr (Sum.inl ((false,()),(),())))
 else some (Sum.inl ((x.1.1,W (x.1.2.1+1),()),(),()))
 else none
 else some (Sum.inr (Sum.inr ((x.1.1,()),(),())))) ((false,0,()),(),())).bind
 fun (r:(Bool × Unit) × Unit × Unit ⊕ (Bool × Unit) × Unit × Unit)=>Sum.elim (fun (x:(Bool × Unit) × Unit × Unit)=>some ((x.1.1,()),())) (fun (y:(Bool × Unit) × Unit × Unit)=>some ((true,()),())) r:=by
  unfold F_ncode_runnable
  funext d
  kernel_rfl
theorem nf_ncode_calls:F_ncode_calls=fun (d:(Int × Int × Int × Int × Int × Unit) × List Int × Unit) =>
 bif d.1.1 == 13 then (F_ncode_Args (d.1.2.2.1,())).bind
 fun (r:(Int × Unit) × Unit)=>some ((decide (r.1.1 > 0),()),())
 else bif
 bif d.1.1 == 14 then
 bif decide (d.1.2.2.1 < (d.2.1.length:Int)) then inB d.1.2.2.1 d.2.1.length
 else true
 else true then
 bif d.1.1 == 14 then some ((bif decide (d.1.2.2.1 < (d.2.1.length:Int)) then decide (d.2.1.getD d.1.2.2.1.toNat 0<=W (8 - d.1.2.2.2.1))
 else false,()),())
 else some ((true,()),())
 else none:=by
  unfold F_ncode_calls
  funext d
  kernel_rfl
end Go.VI
namespace Go.VI
open Go
theorem nf_bits_Ones:F_bits_Ones=fun (d:Int × Unit) =>
 bif decide (d.1 < 0) then some ((0,()),())
 else bif !decide (d.1 < 0) then some ((U (U (1*2 ^ min d.1.toNat IntKind.u64.bits) - 1),()),())
 else none:=by
  unfold F_bits_Ones
  funext d
  kernel_rfl
theorem nf_ncode_wellFormed:F_ncode_wellFormed=fun (d:(Int × Int × Int × Int × Int × Unit) × Unit) =>
 bif decide (d.1.1 >= 1) then
 bif decide (d.1.1<=17) then (F_ncode_within (d.1.2.1,7,())).bind
 fun (r:(Bool × Unit) × Unit) =>
 bif r.1.1 then (F_bits_Ones (8,())).bind
 fun (r:(Int × Unit) × Unit)=>(F_ncode_within (d.1.2.2.1,W r.1.1,())).bind
 fun (r:(Bool × Unit) × Unit) =>
 bif r.1.1 then (F_ncode_within (d.1.2.2.2.1,7,())).bind
 fun (r:(Bool × Unit) × Unit)=>some ((r.1.1,()),())
 else some ((false,()),())
 else some ((false,()),())
 else some ((false,()),())
 else some ((false,()),()):=by
  unfold F_ncode_wellFormed
  funext d
  kernel_rfl
theorem nf_bits_Pack:F_bits_Pack=fun (d:(List (Int × Int × Unit)) × Unit)=>(F_bits_fit_c_bits_Pack_S1 ((d.1.length:Int),d.1,())).bind
 fun (r:(Bool × Unit) × List (Int × Int × Unit) × Unit) =>
 bif !r.1.1 then some ((0,1,()),())
 else (rl (PgD × Unit × Unit) ((Int × Int × Unit) × Unit × Unit ⊕ (Int × Int × Int × Unit) × Unit × Unit) (fun (x:PgD × Unit × Unit) =>
 bif decide (x.1.2.2.2.1 < (r.2.1.length:Int)) then
 bif inB (W (W ((r.2.1.length:Int) - 1) - x.1.2.2.2.1)) r.2.1.length then (F_bits_Ones ((r.2.1.getD (W (W ((r.2.1.length:Int) - 1) - x.1.2.2.2.1)).toNat (0,0,())).1,())).bind
 fun (r_1:(Int × Unit) × Unit) =>
 bif decide ((r.2.1.getD (W (W ((r.2.1.length:Int) - 1) - x.1.2.2.2.1)).toNat (0,0,())).2.1 > r_1.1.1) then some (Sum.inr (Sum.inl ((0,2,()),(),())))
 else bif !decide ((r.2.1.getD (W (W ((r.2.1.length:Int) - 1) - x.1.2.2.2.1)).toNat (0,0,())).1 < 0) then some (Sum.inl ((x.1.1,x.1.2.1,bits2 IntKind.u64 (fun (x1 x2:BitVec IntKind.u64.bits)=>x1 ||| x2) (U (x.1.2.2.1*2 ^ min (r.2.1.getD (W (W ((r.2.1.length:Int) - 1) - x.1.2.2.2.1)).toNat (0,0,())).1.toNat IntKind.u64.bits)) (r.2.1.getD (W (W ((r.2.1.length:Int) - 1) - x.1.2.2.2.1)).toNat (0,0,())).2.1,W (x.1.2.2.2.1+1),()),(),()))
 else none
 else none
 else some (Sum.inr (Sum.inr ((x.1.1,x.1.2.1,x.1.2.2.1,()),(),())))) (PG0,(),())).bind
 fun (r:(Int × Int × Unit) × Unit × Unit ⊕ (Int × Int × Int × Unit) × Unit × Unit)=>Sum.elim (fun (x:(Int × Int × Unit) × Unit × Unit)=>some ((x.1.1,x.1.2.1,()),())) (fun (y:(Int × Int × Int × Unit) × Unit × Unit)=>some ((y.1.2.2.1,0,()),())) r:=by
  unfold F_bits_Pack
  funext d
  kernel_rfl
theorem nf_ncode_Encode:F_ncode_Encode=fun (d:(Int × (List (Int × Int × Int × Int × Int × Unit)) × Unit) × Unit)=>(F_ncode_encodable ((d.1.1,d.1.2.1,()),())).bind
 fun (r:(Bool × Unit) × Unit) =>
 bif !r.1.1 then some (([],1,()),())
 else (rl ((Unit × Int × Unit) × (List Int × Unit) × Unit) ((Unit × Unit) × (List Int × Unit) × Unit) (fun (x:(Unit × Int × Unit) × (List Int × Unit) × Unit) =>
 bif decide (x.1.2.1 < (d.1.2.1.length:Int)) then
 bif inB x.1.2.1 d.1.2.1.length then (F_ncode_fields (((d.1.2.1.getD x.1.2.1.toNat (0,0,0,0,0,())).1,(d.1.2.1.getD x.1.2.1.toNat (0,0,0,0,0,())).2.1,(d.1.2.1.getD x.1.2.1.toNat (0,0,0,0,0,())).2.2.1,(d.1.2.1.getD x.1.2.1.toNat (0,0,0,0,0,())).2.2.2.1,(d.1.2.1.getD x.1.2.1.toNat (0,0,0,0,0,())).2.2.2.2.1,()),())).bind
 fun (r:(Int × Unit) × Unit) =>
 bif small (x.2.1.1.length + [r.1.1,(d.1.2.1.getD x.1.2.1.toNat (0,0,0,0,0,())).2.2.2.2.1].length) 8 then some (Sum.inl (((),W (x.1.2.1+1),()),(x.2.1.1 ++ [r.1.1,(d.1.2.1.getD x.1.2.1.toNat (0,0,0,0,0,())).2.2.2.2.1],()),()))
 else none
 else none
 else some (Sum.inr (((),()),(x.2.1.1,()),()))) (((),0,()),([U d.1.1],()),())).bind
 fun (r:(Unit × Unit) × (List Int × Unit) × Unit)=>some ((r.2.1.1,0,()),()):=by
  unfold F_ncode_Encode
  funext d
  kernel_rfl
theorem nf_ncode_Args:F_ncode_Args=fun (d:Int × Unit) =>
 bif bif d.1 == 2 then d.1 == 2
 else bif d.1 == 3 then d.1 == 3
 else bif d.1 == 4 then d.1 == 4
 else bif d.1 == 5 then d.1 == 5
 else bif d.1 == 11 then d.1 == 11
 else bif d.1 == 13 then d.1 == 13
 else bif d.1 == 15 then d.1 == 15
 else bif d.1 == 12 then d.1 == 12
 else bif d.1 == 14 then d.1 == 14
 else bif d.1 == 16 then d.1 == 16
 else bif d.1 == 17 then d.1 == 17
 else bif d.1 == 18 then d.1 == 18
 else bif d.1 == 19 then d.1 == 19
 else d.1 == 20 then some ((1,()),())
 else bif
 bif d.1 == 1 then d.1 == 1
 else bif d.1 == 6 then d.1 == 6
 else bif d.1 == 8 then d.1 == 8
 else d.1 == 10 then some ((2,()),())
 else bif
 bif d.1 == 7 then d.1 == 7
 else d.1 == 9 then some ((3,()),())
 else some ((0,()),()):=by
  unfold F_ncode_Args
  funext d
  kernel_rfl
theorem nf_r22_Args:F_r22_Args=fun (d:Int × Unit) =>
 bif bif d.1 == 1 then d.1 == 1
 else bif d.1 == 6 then d.1 == 6
 else bif d.1 == 8 then d.1 == 8
 else d.1 == 10 then some ((2,()),())
 else bif
 bif d.1 == 7 then d.1 == 7
 else d.1 == 9 then some ((3,()),())
 else bif
 bif decide (d.1 >= 1) then decide (d.1<=20)
 else false then some ((1,()),())
 else some ((0,()),()):=by
  unfold F_r22_Args
  funext d
  kernel_rfl
theorem nf_made_nat:F_made_nat=fun (d:Int × Int × Int × Int × Int × Unit)=>some (((d.1,d.2.1,d.2.2.1,d.2.2.2.1,d.2.2.2.2.1,()),()),()):=by
 unfold F_made_nat
 funext d
 kernel_rfl
theorem nf_l22_given:F_l22_given=fun (d:(Int × (List (Int × Int × Int × Int × Int × Unit)) × Unit) × Unit)=>(rl ((Int × Unit) × (List (Int × Int × Int × Int × Int × Unit) × Unit) × (Int × Unit × Unit) × Unit) (Unit × (List (Int × Int × Int × Int × Int × Unit) × Unit) × (Int × Unit × Unit) × Unit) (fun (x:(Int × Unit) × (List (Int × Int × Int × Int × Int × Unit) × Unit) × (Int × Unit × Unit) × Unit) =>
 bif decide (x.1.1 < (d.1.2.1.length:Int)) then
 bif inB x.1.1 d.1.2.1.length then
 bif small (x.2.1.1.length + [((d.1.2.1.getD x.1.1.toNat (0,0,0,0,0,())).1,(d.1.2.1.getD x.1.1.toNat (0,0,0,0,0,())).2.1,(d.1.2.1.getD x.1.1.toNat (0,0,0,0,0,())).2.2.1,(d.1.2.1.getD x.1.1.toNat (0,0,0,0,0,())).2.2.2.1,(d.1.2.1.getD x.1.1.toNat (0,0,0,0,0,())).2.2.2.2.1,())].length) 40 then some (Sum.inl ((W (x.1.1+1),()),(x.2.1.1 ++ [((d.1.2.1.getD x.1.1.toNat (0,0,0,0,0,())).1,(d.1.2.1.getD x.1.1.toNat (0,0,0,0,0,())).2.1,(d.1.2.1.getD x.1.1.toNat (0,0,0,0,0,())).2.2.1,(d.1.2.1.getD x.1.1.toNat (0,0,0,0,0,())).2.2.2.1,(d.1.2.1.getD x.1.1.toNat (0,0,0,0,0,())).2.2.2.2.1,())],()),(x.2.2.1.1,(),()),()))
 else none
 else none
 else some (Sum.inr ((),(x.2.1.1,()),(x.2.2.1.1,(),()),()))) ((0,()),([],()),(d.1.1,(),()),())).bind
 fun (r:Unit × (List (Int × Int × Int × Int × Int × Unit) × Unit) × (Int × Unit × Unit) × Unit)=>some (((r.2.2.1.1,r.2.1.1,()),()),()):=by
  unfold F_l22_given
  funext d
  kernel_rfl
theorem nf_bits_Unpack:F_bits_Unpack=fun (d:Int × List Int × Unit)=>(F_bits_fit_c_bits_Unpack_S1 ((d.2.1.length:Int),d.2.1,())).bind
 fun (r:(Bool × Unit) × List Int × Unit) =>
 bif !r.1.1 then some (([],1,()),())
 else bif decide (0<=(r.2.1.length:Int)/\(r.2.1.length:Int)<=(r.2.1.length:Int)) then
 bif small ((r.2.1.length:Int)).toNat 8 then (rl ((Int × Int × Unit) × Unit × List Int × Unit) ((Int × Unit) × Unit × List Int × Unit) (fun (x:(Int × Int × Unit) × Unit × List Int × Unit) =>
 bif decide (x.1.2.1 < (r.2.1.length:Int)) then
 bif inB x.1.2.1 r.2.1.length then (F_bits_Ones (r.2.1.getD x.1.2.1.toNat 0,())).bind
 fun (r_1:(Int × Unit) × Unit) =>
 bif inB x.1.2.1 x.2.2.1.length then
 bif inB x.1.2.1 r.2.1.length then
 bif !decide (r.2.1.getD x.1.2.1.toNat 0 < 0) then some (Sum.inl ((x.1.1.fdiv (2 ^ min (r.2.1.getD x.1.2.1.toNat 0).toNat IntKind.u64.bits),W (x.1.2.1+1),()),(),x.2.2.1.set x.1.2.1.toNat (bits2 IntKind.u64 (fun (x1 x2:BitVec IntKind.u64.bits)=>x1 &&& x2) x.1.1 r_1.1.1),()))
 else none
 else none
 else none
 else none
 else some (Sum.inr ((x.1.1,()),(),x.2.2.1,()))) ((d.1,0,()),(),List.replicate ((r.2.1.length:Int)).toNat (0:Int),())).bind
 fun (r:(Int × Unit) × Unit × List Int × Unit) =>
 bif r.1.1 != 0 then some (([],2,()),())
 else some ((r.2.2.1,0,()),())
 else none
 else none:=by
  unfold F_bits_Unpack
  funext d
  kernel_rfl
theorem nf_ncode_Decode:F_ncode_Decode=fun (d:List Int × Unit) =>
 bif !2 == 0 then
 bif bif ((d.1.length:Int)).tmod 2 == 0 then true
 else bif decide ((d.1.length:Int) > 513) then true
 else inB 0 d.1.length then
 bif bif ((d.1.length:Int)).tmod 2 == 0 then true
 else bif decide ((d.1.length:Int) > 513) then true
 else decide (d.1.getD (Int.toNat 0) 0 > 3) then some (((0,[],()),21,()),())
 else bif inB 0 d.1.length then (rl ((Int × Int × Unit) × (List (Int × Int × Int × Int × Int × Unit) × Unit) × (Int × List (Int × Int × Int × Int × Int × Unit) × Unit) × (Int × Unit × Unit) × Unit) ((Int × Unit) × (List (Int × Int × Int × Int × Int × Unit) × Unit) × (Int × List (Int × Int × Int × Int × Int × Unit) × Unit) × (Int × Unit × Unit) × Unit ⊕ (Int × Unit) × (List (Int × Int × Int × Int × Int × Unit) × Unit) × (Int × List (Int × Int × Int × Int × Int × Unit) × Unit) × (Int × Unit × Unit) × Unit) (fun (x:(Int × Int × Unit) × (List (Int × Int × Int × Int × Int × Unit) × Unit) × (Int × List (Int × Int × Int × Int × Int × Unit) × Unit) × (Int × Unit × Unit) × Unit) =>
 bif decide (x.1.2.1 < (d.1.length:Int)) then
 bif inB x.1.2.1 d.1.length then
 bif inB (W (x.1.2.1+1)) d.1.length then (F_ncode_instruction (d.1.getD x.1.2.1.toNat 0,d.1.getD (W (x.1.2.1+1)).toNat 0,())).bind
 fun (r:((Int × Int × Int × Int × Int × Unit) × Bool × Unit) × Unit) =>
 bif !r.1.2.1 then some (Sum.inr (Sum.inl ((21,()),(x.2.1.1,()),(0,[],()),(x.2.2.2.1.1,(),()),())))
 else bif small (x.2.1.1.length + [(r.1.1.1,r.1.1.2.1,r.1.1.2.2.1,r.1.1.2.2.2.1,r.1.1.2.2.2.2.1,())].length) 40 then some (Sum.inl ((x.1.1,W (x.1.2.1+2),()),(x.2.1.1 ++ [(r.1.1.1,r.1.1.2.1,r.1.1.2.2.1,r.1.1.2.2.2.1,r.1.1.2.2.2.2.1,())],()),(x.2.2.1.1,x.2.2.1.2.1,()),(x.2.2.2.1.1,(),()),()))
 else none
 else none
 else none
 else some (Sum.inr (Sum.inr ((x.1.1,()),(x.2.1.1,()),(x.2.2.1.1,x.2.2.1.2.1,()),(x.2.2.2.1.1,(),()),())))) ((0,1,()),([],()),(0,[],()),(W (d.1.getD (Int.toNat 0) 0),(),()),())).bind
 fun (r:(Int × Unit) × (List (Int × Int × Int × Int × Int × Unit) × Unit) × (Int × List (Int × Int × Int × Int × Int × Unit) × Unit) × (Int × Unit × Unit) × Unit ⊕ (Int × Unit) × (List (Int × Int × Int × Int × Int × Unit) × Unit) × (Int × List (Int × Int × Int × Int × Int × Unit) × Unit) × (Int × Unit × Unit) × Unit)=>Sum.elim (fun (x:(Int × Unit) × (List (Int × Int × Int × Int × Int × Unit) × Unit) × (Int × List (Int × Int × Int × Int × Int × Unit) × Unit) × (Int × Unit × Unit) × Unit)=>some (((x.2.2.1.1,x.2.2.1.2.1,()),x.1.1,()),())) (fun (y:(Int × Unit) × (List (Int × Int × Int × Int × Int × Unit) × Unit) × (Int × List (Int × Int × Int × Int × Int × Unit) × Unit) × (Int × Unit × Unit) × Unit)=>some (((y.2.2.2.1.1,y.2.1.1,()),0,()),())) r
 else none
 else none
 else none:=by
  unfold F_ncode_Decode
  funext d
  kernel_rfl
theorem nf_r22_Check:F_r22_Check=fun (d:(Int × (List (Int × Int × Int × Int × Int × Unit)) × Unit) × List Int × Unit)=>(F_r22_Formed ((d.1.1,d.1.2.1,()),())).bind
 fun (r:(Bool × Unit) × Unit) =>
 bif !r.1.1 then some ((16,()),())
 else (rl ((Int × Int × Unit) × Unit × Unit) ((Int × Unit) × Unit × Unit ⊕ (Int × Unit) × Unit × Unit) (fun (x:(Int × Int × Unit) × Unit × Unit) =>
 bif decide (x.1.2.1 < (d.1.2.1.length:Int)) then
 bif inB x.1.2.1 d.1.2.1.length then (F_r22_Sound ((d.1.1,d.1.2.1,()),((d.1.2.1.getD x.1.2.1.toNat (0,0,0,0,0,())).1,(d.1.2.1.getD x.1.2.1.toNat (0,0,0,0,0,())).2.1,(d.1.2.1.getD x.1.2.1.toNat (0,0,0,0,0,())).2.2.1,(d.1.2.1.getD x.1.2.1.toNat (0,0,0,0,0,())).2.2.2.1,(d.1.2.1.getD x.1.2.1.toNat (0,0,0,0,0,())).2.2.2.2.1,()),())).bind
 fun (r:(Bool × Unit) × Unit) =>
 bif bif !r.1.1 then true
 else bif (d.1.2.1.getD x.1.2.1.toNat (0,0,0,0,0,())).1 == 13 then
 bif decide ((d.1.2.1.getD x.1.2.1.toNat (0,0,0,0,0,())).2.2.1 < 1) then true
 else bif decide ((d.1.2.1.getD x.1.2.1.toNat (0,0,0,0,0,())).2.2.1 > 20) then true
 else bif (d.1.2.1.getD x.1.2.1.toNat (0,0,0,0,0,())).1 == 14 then
 bif decide ((d.1.2.1.getD x.1.2.1.toNat (0,0,0,0,0,())).2.2.1 >= (d.2.1.length:Int)) then true
 else inB (d.1.2.1.getD x.1.2.1.toNat (0,0,0,0,0,())).2.2.1 d.2.1.length
 else true
 else true then
 bif bif !r.1.1 then true
 else bif (d.1.2.1.getD x.1.2.1.toNat (0,0,0,0,0,())).1 == 13 then true
 else bif (d.1.2.1.getD x.1.2.1.toNat (0,0,0,0,0,())).1 == 14 then
 bif decide ((d.1.2.1.getD x.1.2.1.toNat (0,0,0,0,0,())).2.2.1 >= (d.2.1.length:Int)) then true
 else inB (d.1.2.1.getD x.1.2.1.toNat (0,0,0,0,0,())).2.2.1 d.2.1.length
 else true then
 bif bif !r.1.1 then true
 else bif (d.1.2.1.getD x.1.2.1.toNat (0,0,0,0,0,())).1 == 13 then
 bif decide ((d.1.2.1.getD x.1.2.1.toNat (0,0,0,0,0,())).2.2.1 < 1) then true
 else bif decide ((d.1.2.1.getD x.1.2.1.toNat (0,0,0,0,0,())).2.2.1 > 20) then true
 else bif (d.1.2.1.getD x.1.2.1.toNat (0,0,0,0,0,())).1 == 14 then
 bif decide ((d.1.2.1.getD x.1.2.1.toNat (0,0,0,0,0,())).2.2.1 >= (d.2.1.length:Int)) then true
 else decide (d.2.1.getD (d.1.2.1.getD x.1.2.1.toNat (0,0,0,0,0,())).2.2.1.toNat 0 > W (8 - (d.1.2.1.getD x.1.2.1.toNat (0,0,0,0,0,())).2.2.2.1))
 else false
 else bif (d.1.2.1.getD x.1.2.1.toNat (0,0,0,0,0,())).1 == 14 then
 bif decide ((d.1.2.1.getD x.1.2.1.toNat (0,0,0,0,0,())).2.2.1 >= (d.2.1.length:Int)) then true
 else decide (d.2.1.getD (d.1.2.1.getD x.1.2.1.toNat (0,0,0,0,0,())).2.2.1.toNat 0 > W (8 - (d.1.2.1.getD x.1.2.1.toNat (0,0,0,0,0,())).2.2.2.1))
 else false then some (Sum.inr (Sum.inl ((16,()),(),())))
 else some (Sum.inl ((x.1.1,W (x.1.2.1+1),()),(),()))
 else none
 else none
 else none
 else some (Sum.inr (Sum.inr ((x.1.1,()),(),())))) ((0,0,()),(),())).bind
 fun (r:(Int × Unit) × Unit × Unit ⊕ (Int × Unit) × Unit × Unit)=>Sum.elim (fun (x:(Int × Unit) × Unit × Unit)=>some ((x.1.1,()),())) (fun (y:(Int × Unit) × Unit × Unit)=>some ((0,()),())) r:=by
  unfold F_r22_Check
  funext d
  kernel_rfl
theorem nf_l22_NcodeChecks:F_l22_NcodeChecks=fun (d:(Int × (List (Int × Int × Int × Int × Int × Unit)) × Unit) × List Int × List Int × List Int × Unit) =>
 bif bif decide ((d.1.2.1.length:Int) > 400) then true
 else decide ((d.2.2.2.1.length:Int) > 300) then some ((true,()),())
 else (F_l22_made (d.2.1,())).bind
 fun (r:((Int × List (Int × Int × Int × Int × Int × Unit) × Unit) × Unit) × Unit)=>(F_l22_bent ((r.1.1.1,r.1.1.2.1,()),d.2.2.1,())).bind
 fun (r_1:((Int × List (Int × Int × Int × Int × Int × Unit) × Unit) × Unit) × Unit)=>(rl ((Bool × (Int × List (Int × Int × Int × Int × Int × Unit) × Unit) × (Int × List (Int × Int × Int × Int × Int × Unit) × Unit) × (Int × List (Int × Int × Int × Int × Int × Unit) × Unit) × Int × Unit) × Unit × (Int × List (Int × Int × Int × Int × Int × Unit) × Unit) × (Int × List (Int × Int × Int × Int × Int × Unit) × Unit) × Unit) ((Bool × Unit) × Unit × (Int × List (Int × Int × Int × Int × Int × Unit) × Unit) × (Int × List (Int × Int × Int × Int × Int × Unit) × Unit) × Unit ⊕ (Bool × (Int × List (Int × Int × Int × Int × Int × Unit) × Unit) × (Int × List (Int × Int × Int × Int × Int × Unit) × Unit) × (Int × List (Int × Int × Int × Int × Int × Unit) × Unit) × Unit) × Unit × (Int × List (Int × Int × Int × Int × Int × Unit) × Unit) × (Int × List (Int × Int × Int × Int × Int × Unit) × Unit) × Unit) (fun (x:(Bool × (Int × List (Int × Int × Int × Int × Int × Unit) × Unit) × (Int × List (Int × Int × Int × Int × Int × Unit) × Unit) × (Int × List (Int × Int × Int × Int × Int × Unit) × Unit) × Int × Unit) × Unit × (Int × List (Int × Int × Int × Int × Int × Unit) × Unit) × (Int × List (Int × Int × Int × Int × Int × Unit) × Unit) × Unit) =>
 bif decide (x.1.2.2.2.2.1 < ↑[d.2.2.2.1,[0,1,2]].length) then
 bif inB x.1.2.2.2.2.1 [d.2.2.2.1,[0,1,2]].length then (rl ((Bool × Int × Unit) × Unit × Unit) ((Bool × Unit) × Unit × Unit ⊕ (Bool × Unit) × Unit × Unit) (fun (x_1:(Bool × Int × Unit) × Unit × Unit) =>
 bif decide (x_1.1.2.1 < ↑[(d.1.1,d.1.2.1,()),(x.2.2.1.1,x.2.2.1.2.1,()),(x.2.2.2.1.1,x.2.2.2.1.2.1,())].length) then
 bif inB x_1.1.2.1 [(d.1.1,d.1.2.1,()),(x.2.2.1.1,x.2.2.1.2.1,()),(x.2.2.2.1.1,x.2.2.2.1.2.1,())].length then (F_l22_given ((([(d.1.1,d.1.2.1,()),(x.2.2.1.1,x.2.2.1.2.1,()),(x.2.2.2.1.1,x.2.2.2.1.2.1,())].getD x_1.1.2.1.toNat (0,[],())).1,([(d.1.1,d.1.2.1,()),(x.2.2.1.1,x.2.2.1.2.1,()),(x.2.2.2.1.1,x.2.2.2.1.2.1,())].getD x_1.1.2.1.toNat (0,[],())).2.1,()),())).bind
 fun (r:((Int × List (Int × Int × Int × Int × Int × Unit) × Unit) × Unit) × Unit)=>(F_ncode_Check ((r.1.1.1,r.1.1.2.1,()),[d.2.2.2.1,[0,1,2]].getD x.1.2.2.2.2.1.toNat [],())).bind
 fun (r:(Int × Unit) × Unit)=>(F_r22_Check ((([(d.1.1,d.1.2.1,()),(x.2.2.1.1,x.2.2.1.2.1,()),(x.2.2.2.1.1,x.2.2.2.1.2.1,())].getD x_1.1.2.1.toNat (0,[],())).1,([(d.1.1,d.1.2.1,()),(x.2.2.1.1,x.2.2.1.2.1,()),(x.2.2.2.1.1,x.2.2.2.1.2.1,())].getD x_1.1.2.1.toNat (0,[],())).2.1,()),[d.2.2.2.1,[0,1,2]].getD x.1.2.2.2.2.1.toNat [],())).bind
 fun (r_2:(Int × Unit) × Unit) =>
 bif r.1.1 != r_2.1.1 then some (Sum.inr (Sum.inl ((false,()),(),())))
 else some (Sum.inl ((x_1.1.1,W (x_1.1.2.1+1),()),(),()))
 else none
 else some (Sum.inr (Sum.inr ((x_1.1.1,()),(),())))) ((x.1.1,0,()),(),())).bind
 fun (r:(Bool × Unit) × Unit × Unit ⊕ (Bool × Unit) × Unit × Unit)=>Sum.elim (fun (x_1:(Bool × Unit) × Unit × Unit)=>some (Sum.inr (Sum.inl ((x_1.1.1,()),(),(x.2.2.1.1,x.2.2.1.2.1,()),(x.2.2.2.1.1,x.2.2.2.1.2.1,()),())))) (fun (y:(Bool × Unit) × Unit × Unit)=>some (Sum.inl ((y.1.1,(x.1.2.1.1,x.1.2.1.2.1,()),(x.1.2.2.1.1,x.1.2.2.1.2.1,()),(x.1.2.2.2.1.1,x.1.2.2.2.1.2.1,()),W (x.1.2.2.2.2.1+1),()),(),(x.2.2.1.1,x.2.2.1.2.1,()),(x.2.2.2.1.1,x.2.2.2.1.2.1,()),()))) r
 else none
 else some (Sum.inr (Sum.inr ((x.1.1,(x.1.2.1.1,x.1.2.1.2.1,()),(x.1.2.2.1.1,x.1.2.2.1.2.1,()),(x.1.2.2.2.1.1,x.1.2.2.2.1.2.1,()),()),(),(x.2.2.1.1,x.2.2.1.2.1,()),(x.2.2.2.1.1,x.2.2.2.1.2.1,()),())))) ((false,(r.1.1.1,r.1.1.2.1,()),(r.1.1.1,r.1.1.2.1,()),(r_1.1.1.1,r_1.1.1.2.1,()),0,()),(),(r.1.1.1,r.1.1.2.1,()),(r_1.1.1.1,r_1.1.1.2.1,()),())).bind
 fun (r:(Bool × Unit) × Unit × (Int × List (Int × Int × Int × Int × Int × Unit) × Unit) × (Int × List (Int × Int × Int × Int × Int × Unit) × Unit) × Unit ⊕ (Bool × (Int × List (Int × Int × Int × Int × Int × Unit) × Unit) × (Int × List (Int × Int × Int × Int × Int × Unit) × Unit) × (Int × List (Int × Int × Int × Int × Int × Unit) × Unit) × Unit) × Unit × (Int × List (Int × Int × Int × Int × Int × Unit) × Unit) × (Int × List (Int × Int × Int × Int × Int × Unit) × Unit) × Unit)=>Sum.elim (fun (x:(Bool × Unit) × Unit × (Int × List (Int × Int × Int × Int × Int × Unit) × Unit) × (Int × List (Int × Int × Int × Int × Int × Unit) × Unit) × Unit)=>some ((x.1.1,()),())) (fun (y:(Bool × (Int × List (Int × Int × Int × Int × Int × Unit) × Unit) × (Int × List (Int × Int × Int × Int × Int × Unit) × Unit) × (Int × List (Int × Int × Int × Int × Int × Unit) × Unit) × Unit) × Unit × (Int × List (Int × Int × Int × Int × Int × Unit) × Unit) × (Int × List (Int × Int × Int × Int × Int × Unit) × Unit) × Unit)=>(F_l22_awake ()).bind
 fun (r:(Bool × Unit) × Unit) =>
 bif r.1.1 then (F_l22_given ((y.2.2.1.1,y.2.2.1.2.1,()),())).bind
 fun (r:((Int × List (Int × Int × Int × Int × Int × Unit) × Unit) × Unit) × Unit)=>(F_ncode_Check ((r.1.1.1,r.1.1.2.1,()),[0,1,2],())).bind
 fun (r:(Int × Unit) × Unit)=>some ((r.1.1 == 0,()),())
 else some ((false,()),())) r:=by
  unfold F_l22_NcodeChecks
  funext d
  kernel_rfl
end Go.VI
namespace Go.VI
open Go
theorem nf_ncode_encodable:F_ncode_encodable=fun (d:(Int × (List (Int × Int × Int × Int × Int × Unit)) × Unit) × Unit)=>(F_ncode_within (d.1.1,3,())).bind
 fun (r:(Bool × Unit) × Unit) =>
 bif bif !r.1.1 then true
 else decide ((d.1.2.1.length:Int) > 256) then some ((false,()),())
 else (rl ((Bool × Int × Unit) × Unit × Unit) ((Bool × Unit) × Unit × Unit ⊕ (Bool × Unit) × Unit × Unit) (fun (x:(Bool × Int × Unit) × Unit × Unit) =>
 bif decide (x.1.2.1 < (d.1.2.1.length:Int)) then
 bif inB x.1.2.1 d.1.2.1.length then (F_ncode_wellFormed (((d.1.2.1.getD x.1.2.1.toNat (0,0,0,0,0,())).1,(d.1.2.1.getD x.1.2.1.toNat (0,0,0,0,0,())).2.1,(d.1.2.1.getD x.1.2.1.toNat (0,0,0,0,0,())).2.2.1,(d.1.2.1.getD x.1.2.1.toNat (0,0,0,0,0,())).2.2.2.1,(d.1.2.1.getD x.1.2.1.toNat (0,0,0,0,0,())).2.2.2.2.1,()),())).bind
 fun (r:(Bool × Unit) × Unit) =>
 bif !r.1.1 then some (Sum.inr (Sum.inl ((false,()),(),())))
 else some (Sum.inl ((x.1.1,W (x.1.2.1+1),()),(),()))
 else none
 else some (Sum.inr (Sum.inr ((x.1.1,()),(),())))) ((false,0,()),(),())).bind
 fun (r:(Bool × Unit) × Unit × Unit ⊕ (Bool × Unit) × Unit × Unit)=>Sum.elim (fun (x:(Bool × Unit) × Unit × Unit)=>some ((x.1.1,()),())) (fun (y:(Bool × Unit) × Unit × Unit)=>some ((true,()),())) r:=by
  unfold F_ncode_encodable
  funext d
  kernel_rfl
theorem nf_bits_Pack_S1_c:F_bits_Pack_S1_c=fun (d:Int × (List (Int × Int × Unit)) × Unit) =>
 bif inB d.1 d.2.1.length then some (((d.2.1.getD d.1.toNat (0,0,())).1,()),d.2.1,())
 else none:=by
  unfold F_bits_Pack_S1_c
  funext d
  kernel_rfl
theorem nf_bits_fit_c_bits_Pack_S1:F_bits_fit_c_bits_Pack_S1=fun (d:Int × (List (Int × Int × Unit)) × Unit)=>(rl ((Bool × Int × Int × Unit) × Unit × (List (Int × Int × Unit) × Unit) × Unit) ((Bool × Unit) × Unit × (List (Int × Int × Unit) × Unit) × Unit ⊕ (Bool × Unit) × Unit × (List (Int × Int × Unit) × Unit) × Unit) (fun (x:(Bool × Int × Int × Unit) × Unit × (List (Int × Int × Unit) × Unit) × Unit) =>
 bif decide (x.1.2.2.1 < d.1) then (F_bits_Pack_S1_c (x.1.2.2.1,x.2.2.1.1,())).bind
 fun (r:(Int × Unit) × List (Int × Int × Unit) × Unit) =>
 bif decide (r.1.1 < 1) then some (Sum.inr (Sum.inl ((false,()),(),(r.2.1,()),())))
 else (F_bits_Pack_S1_c (x.1.2.2.1,r.2.1,())).bind
 fun (r:(Int × Unit) × List (Int × Int × Unit) × Unit) =>
 bif decide (r.1.1 > x.1.2.1) then some (Sum.inr (Sum.inl ((false,()),(),(r.2.1,()),())))
 else (F_bits_Pack_S1_c (x.1.2.2.1,r.2.1,())).bind
 fun (r:(Int × Unit) × List (Int × Int × Unit) × Unit)=>some (Sum.inl ((x.1.1,W (x.1.2.1 - r.1.1),W (x.1.2.2.1+1),()),(),(r.2.1,()),()))
 else some (Sum.inr (Sum.inr ((x.1.1,()),(),(x.2.2.1.1,()),())))) ((false,64,0,()),(),(d.2.1,()),())).bind
 fun (r:(Bool × Unit) × Unit × (List (Int × Int × Unit) × Unit) × Unit ⊕ (Bool × Unit) × Unit × (List (Int × Int × Unit) × Unit) × Unit)=>Sum.elim (fun (x:(Bool × Unit) × Unit × (List (Int × Int × Unit) × Unit) × Unit)=>some ((x.1.1,()),x.2.2.1.1,())) (fun (y:(Bool × Unit) × Unit × (List (Int × Int × Unit) × Unit) × Unit)=>some ((true,()),y.2.2.1.1,())) r:=by
  unfold F_bits_fit_c_bits_Pack_S1
  funext d
  kernel_rfl
theorem nf_l22_awake:F_l22_awake=fun (d:Unit)=>(F_ncode_Encode ((0,[(1,1,0,0,5,())],()),())).bind
 fun (r:(List Int × Int × Unit) × Unit) =>
 bif bif r.1.2.1 == 0 then
 bif (r.1.1.length:Int) == 3 then inB 1 r.1.1.length
 else true
 else true then
 bif bif r.1.2.1 == 0 then
 bif (r.1.1.length:Int) == 3 then
 bif r.1.1.getD (Int.toNat 1) 0 == 257 then inB 2 r.1.1.length
 else true
 else true
 else true then some ((bif r.1.2.1 == 0 then
 bif (r.1.1.length:Int) == 3 then
 bif r.1.1.getD (Int.toNat 1) 0 == 257 then r.1.1.getD (Int.toNat 2) 0 == 5
 else false
 else false
 else false,()),())
 else none
 else none:=by
  unfold F_l22_awake
  funext d
  kernel_rfl
theorem nf_l22_made:F_l22_made=fun (d:List Int × Unit)=>(F_made_Tape_Next ((d.1,0,()),4,())).bind
 fun (r:(Int × Unit) × (List Int × Int × Unit) × Unit)=>(F_made_Tape_Native ((r.2.1.1,r.2.1.2.1,()),r.1.1,[0,1,2],())).bind
 fun (r:((Int × List (Int × Int × Int × Int × Int × Unit) × Unit) × Unit) × (List Int × Int × Unit) × Unit)=>some (((r.1.1.1,r.1.1.2.1,()),()),()):=by
  unfold F_l22_made
  funext d
  kernel_rfl
theorem nf_r22_Encode:F_r22_Encode=fun (d:(Int × (List (Int × Int × Int × Int × Int × Unit)) × Unit) × Unit)=>(F_r22_Formed ((d.1.1,d.1.2.1,()),())).bind
 fun (r:(Bool × Unit) × Unit) =>
 bif !r.1.1 then some (([],1,()),())
 else (rl ((Unit × Int × Unit) × (List Int × Unit) × Unit) ((Unit × Unit) × (List Int × Unit) × Unit) (fun (x:(Unit × Int × Unit) × (List Int × Unit) × Unit) =>
 bif decide (x.1.2.1 < (d.1.2.1.length:Int)) then
 bif inB x.1.2.1 d.1.2.1.length then
 bif !decide (8 < 0) then
 bif !decide (12 < 0) then
 bif !decide (20 < 0) then
 bif small (x.2.1.1.length + [U (W (W (W ((d.1.2.1.getD x.1.2.1.toNat (0,0,0,0,0,())).1+W ((d.1.2.1.getD x.1.2.1.toNat (0,0,0,0,0,())).2.1*2 ^ min (Int.toNat 8) IntKind.i64.bits))+W ((d.1.2.1.getD x.1.2.1.toNat (0,0,0,0,0,())).2.2.1*2 ^ min (Int.toNat 12) IntKind.i64.bits))+W ((d.1.2.1.getD x.1.2.1.toNat (0,0,0,0,0,())).2.2.2.1*2 ^ min (Int.toNat 20) IntKind.i64.bits))),(d.1.2.1.getD x.1.2.1.toNat (0,0,0,0,0,())).2.2.2.2.1].length) 8 then some (Sum.inl (((),W (x.1.2.1+1),()),(x.2.1.1 ++ [U (W (W (W ((d.1.2.1.getD x.1.2.1.toNat (0,0,0,0,0,())).1+W ((d.1.2.1.getD x.1.2.1.toNat (0,0,0,0,0,())).2.1*2 ^ min (Int.toNat 8) IntKind.i64.bits))+W ((d.1.2.1.getD x.1.2.1.toNat (0,0,0,0,0,())).2.2.1*2 ^ min (Int.toNat 12) IntKind.i64.bits))+W ((d.1.2.1.getD x.1.2.1.toNat (0,0,0,0,0,())).2.2.2.1*2 ^ min (Int.toNat 20) IntKind.i64.bits))),(d.1.2.1.getD x.1.2.1.toNat (0,0,0,0,0,())).2.2.2.2.1],()),()))
 else none
 else none
 else none
 else none
 else none
 else some (Sum.inr (((),()),(x.2.1.1,()),()))) (((),0,()),([U d.1.1],()),())).bind
 fun (r:(Unit × Unit) × (List Int × Unit) × Unit)=>some ((r.2.1.1,0,()),()):=by
  unfold F_r22_Encode
  funext d
  kernel_rfl
theorem nf_bits_fit_c_bits_Unpack_S1:F_bits_fit_c_bits_Unpack_S1=fun (d:Int × List Int × Unit)=>(rl ((Bool × Int × Int × Unit) × Unit × (List Int × Unit) × Unit) ((Bool × Unit) × Unit × (List Int × Unit) × Unit ⊕ (Bool × Unit) × Unit × (List Int × Unit) × Unit) (fun (x:(Bool × Int × Int × Unit) × Unit × (List Int × Unit) × Unit) =>
 bif decide (x.1.2.2.1 < d.1) then (F_bits_Unpack_S1_c (x.1.2.2.1,x.2.2.1.1,())).bind
 fun (r:(Int × Unit) × List Int × Unit) =>
 bif decide (r.1.1 < 1) then some (Sum.inr (Sum.inl ((false,()),(),(r.2.1,()),())))
 else (F_bits_Unpack_S1_c (x.1.2.2.1,r.2.1,())).bind
 fun (r:(Int × Unit) × List Int × Unit) =>
 bif decide (r.1.1 > x.1.2.1) then some (Sum.inr (Sum.inl ((false,()),(),(r.2.1,()),())))
 else (F_bits_Unpack_S1_c (x.1.2.2.1,r.2.1,())).bind
 fun (r:(Int × Unit) × List Int × Unit)=>some (Sum.inl ((x.1.1,W (x.1.2.1 - r.1.1),W (x.1.2.2.1+1),()),(),(r.2.1,()),()))
 else some (Sum.inr (Sum.inr ((x.1.1,()),(),(x.2.2.1.1,()),())))) ((false,64,0,()),(),(d.2.1,()),())).bind
 fun (r:(Bool × Unit) × Unit × (List Int × Unit) × Unit ⊕ (Bool × Unit) × Unit × (List Int × Unit) × Unit)=>Sum.elim (fun (x:(Bool × Unit) × Unit × (List Int × Unit) × Unit)=>some ((x.1.1,()),x.2.2.1.1,())) (fun (y:(Bool × Unit) × Unit × (List Int × Unit) × Unit)=>some ((true,()),y.2.2.1.1,())) r:=by
  unfold F_bits_fit_c_bits_Unpack_S1
  funext d
  kernel_rfl
theorem nf_r22_Decode:F_r22_Decode=fun (d:List Int × Unit) =>
 bif !2 == 0 then
 bif bif ((d.1.length:Int)).tmod 2 != 1 then true
 else inB 0 d.1.length then
 bif bif ((d.1.length:Int)).tmod 2 != 1 then true
 else bif decide (d.1.getD (Int.toNat 0) 0 > 3) then true
 else decide ((d.1.length:Int) > 513) then some (((0,[],()),21,()),())
 else bif inB 0 d.1.length then (rl ((Int × Int × Unit) × (List (Int × Int × Int × Int × Int × Unit) × Unit) × (Int × List (Int × Int × Int × Int × Int × Unit) × Unit) × (Int × Unit × Unit) × Unit) ((Int × Unit) × (List (Int × Int × Int × Int × Int × Unit) × Unit) × (Int × List (Int × Int × Int × Int × Int × Unit) × Unit) × (Int × Unit × Unit) × Unit ⊕ (Int × Unit) × (List (Int × Int × Int × Int × Int × Unit) × Unit) × (Int × List (Int × Int × Int × Int × Int × Unit) × Unit) × (Int × Unit × Unit) × Unit) (fun (x:(Int × Int × Unit) × (List (Int × Int × Int × Int × Int × Unit) × Unit) × (Int × List (Int × Int × Int × Int × Int × Unit) × Unit) × (Int × Unit × Unit) × Unit) =>
 bif decide (x.1.2.1 < (d.1.length:Int)) then
 bif inB x.1.2.1 d.1.length then
 bif decide (d.1.getD x.1.2.1.toNat 0 >= 16777216) then some (Sum.inr (Sum.inl ((21,()),(x.2.1.1,()),(0,[],()),(x.2.2.2.1.1,(),()),())))
 else bif !decide (8 < 0) then
 bif !decide (12 < 0) then
 bif !decide (20 < 0) then
 bif inB (W (x.1.2.1+1)) d.1.length then
 bif small (x.2.1.1.length + [(W (bits2 IntKind.u64 (fun (x1 x2:BitVec IntKind.u64.bits)=>x1 &&& x2) (d.1.getD x.1.2.1.toNat 0) 255),W (bits2 IntKind.u64 (fun (x1 x2:BitVec IntKind.u64.bits)=>x1 &&& x2) ((d.1.getD x.1.2.1.toNat 0).fdiv (2 ^ min (Int.toNat 8) IntKind.u64.bits)) 15),W (bits2 IntKind.u64 (fun (x1 x2:BitVec IntKind.u64.bits)=>x1 &&& x2) ((d.1.getD x.1.2.1.toNat 0).fdiv (2 ^ min (Int.toNat 12) IntKind.u64.bits)) 255),W ((d.1.getD x.1.2.1.toNat 0).fdiv (2 ^ min (Int.toNat 20) IntKind.u64.bits)),d.1.getD (W (x.1.2.1+1)).toNat 0,())].length) 40 then some (Sum.inl ((x.1.1,W (x.1.2.1+2),()),(x.2.1.1 ++ [(W (bits2 IntKind.u64 (fun (x1 x2:BitVec IntKind.u64.bits)=>x1 &&& x2) (d.1.getD x.1.2.1.toNat 0) 255),W (bits2 IntKind.u64 (fun (x1 x2:BitVec IntKind.u64.bits)=>x1 &&& x2) ((d.1.getD x.1.2.1.toNat 0).fdiv (2 ^ min (Int.toNat 8) IntKind.u64.bits)) 15),W (bits2 IntKind.u64 (fun (x1 x2:BitVec IntKind.u64.bits)=>x1 &&& x2) ((d.1.getD x.1.2.1.toNat 0).fdiv (2 ^ min (Int.toNat 12) IntKind.u64.bits)) 255),W ((d.1.getD x.1.2.1.toNat 0).fdiv (2 ^ min (Int.toNat 20) IntKind.u64.bits)),d.1.getD (W (x.1.2.1+1)).toNat 0,())],()),(x.2.2.1.1,x.2.2.1.2.1,()),(x.2.2.2.1.1,(),()),()))
 else none
 else none
 else none
 else none
 else none
 else none
 else some (Sum.inr (Sum.inr ((x.1.1,()),(x.2.1.1,()),(x.2.2.1.1,x.2.2.1.2.1,()),(x.2.2.2.1.1,(),()),())))) ((0,1,()),([],()),(0,[],()),(W (d.1.getD (Int.toNat 0) 0),(),()),())).bind
 fun (r:(Int × Unit) × (List (Int × Int × Int × Int × Int × Unit) × Unit) × (Int × List (Int × Int × Int × Int × Int × Unit) × Unit) × (Int × Unit × Unit) × Unit ⊕ (Int × Unit) × (List (Int × Int × Int × Int × Int × Unit) × Unit) × (Int × List (Int × Int × Int × Int × Int × Unit) × Unit) × (Int × Unit × Unit) × Unit)=>Sum.elim (fun (x:(Int × Unit) × (List (Int × Int × Int × Int × Int × Unit) × Unit) × (Int × List (Int × Int × Int × Int × Int × Unit) × Unit) × (Int × Unit × Unit) × Unit)=>some (((x.2.2.1.1,x.2.2.1.2.1,()),x.1.1,()),())) (fun (y:(Int × Unit) × (List (Int × Int × Int × Int × Int × Unit) × Unit) × (Int × List (Int × Int × Int × Int × Int × Unit) × Unit) × (Int × Unit × Unit) × Unit)=>(F_r22_Formed ((y.2.2.2.1.1,y.2.1.1,()),())).bind
 fun (r:(Bool × Unit) × Unit) =>
 bif !r.1.1 then some (((0,[],()),21,()),())
 else some (((y.2.2.2.1.1,y.2.1.1,()),0,()),())) r
 else none
 else none
 else none:=by
  unfold F_r22_Decode
  funext d
  kernel_rfl
theorem nf_r22_Same:F_r22_Same=fun (d:(Int × (List (Int × Int × Int × Int × Int × Unit)) × Unit) × (Int × (List (Int × Int × Int × Int × Int × Unit)) × Unit) × Unit) =>
 bif bif d.1.1 != d.2.1.1 then true
 else (d.1.2.1.length:Int) != (d.2.1.2.1.length:Int) then some ((false,()),())
 else (rl ((Bool × Int × Unit) × Unit × Unit) ((Bool × Unit) × Unit × Unit ⊕ (Bool × Unit) × Unit × Unit) (fun (x:(Bool × Int × Unit) × Unit × Unit) =>
 bif decide (x.1.2.1 < (d.1.2.1.length:Int)) then
 bif inB x.1.2.1 d.1.2.1.length then
 bif inB x.1.2.1 d.2.1.2.1.length then
 bif !(((d.1.2.1.getD x.1.2.1.toNat (0,0,0,0,0,())).1,(d.1.2.1.getD x.1.2.1.toNat (0,0,0,0,0,())).2.1,(d.1.2.1.getD x.1.2.1.toNat (0,0,0,0,0,())).2.2.1,(d.1.2.1.getD x.1.2.1.toNat (0,0,0,0,0,())).2.2.2.1,(d.1.2.1.getD x.1.2.1.toNat (0,0,0,0,0,())).2.2.2.2.1,()).1 == ((d.2.1.2.1.getD x.1.2.1.toNat (0,0,0,0,0,())).1,(d.2.1.2.1.getD x.1.2.1.toNat (0,0,0,0,0,())).2.1,(d.2.1.2.1.getD x.1.2.1.toNat (0,0,0,0,0,())).2.2.1,(d.2.1.2.1.getD x.1.2.1.toNat (0,0,0,0,0,())).2.2.2.1,(d.2.1.2.1.getD x.1.2.1.toNat (0,0,0,0,0,())).2.2.2.2.1,()).1 && (((d.1.2.1.getD x.1.2.1.toNat (0,0,0,0,0,())).1,(d.1.2.1.getD x.1.2.1.toNat (0,0,0,0,0,())).2.1,(d.1.2.1.getD x.1.2.1.toNat (0,0,0,0,0,())).2.2.1,(d.1.2.1.getD x.1.2.1.toNat (0,0,0,0,0,())).2.2.2.1,(d.1.2.1.getD x.1.2.1.toNat (0,0,0,0,0,())).2.2.2.2.1,()).2.1 == ((d.2.1.2.1.getD x.1.2.1.toNat (0,0,0,0,0,())).1,(d.2.1.2.1.getD x.1.2.1.toNat (0,0,0,0,0,())).2.1,(d.2.1.2.1.getD x.1.2.1.toNat (0,0,0,0,0,())).2.2.1,(d.2.1.2.1.getD x.1.2.1.toNat (0,0,0,0,0,())).2.2.2.1,(d.2.1.2.1.getD x.1.2.1.toNat (0,0,0,0,0,())).2.2.2.2.1,()).2.1 && (((d.1.2.1.getD x.1.2.1.toNat (0,0,0,0,0,())).1,(d.1.2.1.getD x.1.2.1.toNat (0,0,0,0,0,())).2.1,(d.1.2.1.getD x.1.2.1.toNat (0,0,0,0,0,())).2.2.1,(d.1.2.1.getD x.1.2.1.toNat (0,0,0,0,0,())).2.2.2.1,(d.1.2.1.getD x.1.2.1.toNat (0,0,0,0,0,())).2.2.2.2.1,()).2.2.1 == ((d.2.1.2.1.getD x.1.2.1.toNat (0,0,0,0,0,())).1,(d.2.1.2.1.getD x.1.2.1.toNat (0,0,0,0,0,())).2.1,(d.2.1.2.1.getD x.1.2.1.toNat (0,0,0,0,0,())).2.2.1,(d.2.1.2.1.getD x.1.2.1.toNat (0,0,0,0,0,())).2.2.2.1,(d.2.1.2.1.getD x.1.2.1.toNat (0,0,0,0,0,())).2.2.2.2.1,()).2.2.1 && (((d.1.2.1.getD x.1.2.1.toNat (0,0,0,0,0,())).1,(d.1.2.1.getD x.1.2.1.toNat (0,0,0,0,0,())).2.1,(d.1.2.1.getD x.1.2.1.toNat (0,0,0,0,0,())).2.2.1,(d.1.2.1.getD x.1.2.1.toNat (0,0,0,0,0,())).2.2.2.1,(d.1.2.1.getD x.1.2.1.toNat (0,0,0,0,0,())).2.2.2.2.1,()).2.2.2.1 == ((d.2.1.2.1.getD x.1.2.1.toNat (0,0,0,0,0,())).1,(d.2.1.2.1.getD x.1.2.1.toNat (0,0,0,0,0,())).2.1,(d.2.1.2.1.getD x.1.2.1.toNat (0,0,0,0,0,())).2.2.1,(d.2.1.2.1.getD x.1.2.1.toNat (0,0,0,0,0,())).2.2.2.1,(d.2.1.2.1.getD x.1.2.1.toNat (0,0,0,0,0,())).2.2.2.2.1,()).2.2.2.1 && (((d.1.2.1.getD x.1.2.1.toNat (0,0,0,0,0,())).1,(d.1.2.1.getD x.1.2.1.toNat (0,0,0,0,0,())).2.1,(d.1.2.1.getD x.1.2.1.toNat (0,0,0,0,0,())).2.2.1,(d.1.2.1.getD x.1.2.1.toNat (0,0,0,0,0,())).2.2.2.1,(d.1.2.1.getD x.1.2.1.toNat (0,0,0,0,0,())).2.2.2.2.1,()).2.2.2.2.1 == ((d.2.1.2.1.getD x.1.2.1.toNat (0,0,0,0,0,())).1,(d.2.1.2.1.getD x.1.2.1.toNat (0,0,0,0,0,())).2.1,(d.2.1.2.1.getD x.1.2.1.toNat (0,0,0,0,0,())).2.2.1,(d.2.1.2.1.getD x.1.2.1.toNat (0,0,0,0,0,())).2.2.2.1,(d.2.1.2.1.getD x.1.2.1.toNat (0,0,0,0,0,())).2.2.2.2.1,()).2.2.2.2.1 && true))))) then some (Sum.inr (Sum.inl ((false,()),(),())))
 else some (Sum.inl ((x.1.1,W (x.1.2.1+1),()),(),()))
 else none
 else none
 else some (Sum.inr (Sum.inr ((x.1.1,()),(),())))) ((false,0,()),(),())).bind
 fun (r:(Bool × Unit) × Unit × Unit ⊕ (Bool × Unit) × Unit × Unit)=>Sum.elim (fun (x:(Bool × Unit) × Unit × Unit)=>some ((x.1.1,()),())) (fun (y:(Bool × Unit) × Unit × Unit)=>some ((true,()),())) r:=by
  unfold F_r22_Same
  funext d
  kernel_rfl
theorem nf_l22_NcodeBack:F_l22_NcodeBack=fun (d:(Int × (List (Int × Int × Int × Int × Int × Unit)) × Unit) × List Int × List Int × Unit) =>
 bif bif decide ((d.1.2.1.length:Int) > 400) then true
 else decide ((d.2.1.length:Int) > 900) then some ((true,()),())
 else (F_l22_made (d.2.2.1,())).bind
 fun (r:((Int × List (Int × Int × Int × Int × Int × Unit) × Unit) × Unit) × Unit)=>(rl ((Bool × Int × Unit) × Unit × Unit) ((Bool × Unit) × Unit × Unit ⊕ (Bool × Unit) × Unit × Unit) (fun (x:(Bool × Int × Unit) × Unit × Unit) =>
 bif decide (x.1.2.1 < ↑[(d.1.1,d.1.2.1,()),(r.1.1.1,r.1.1.2.1,())].length) then
 bif inB x.1.2.1 [(d.1.1,d.1.2.1,()),(r.1.1.1,r.1.1.2.1,())].length then (F_l22_given ((([(d.1.1,d.1.2.1,()),(r.1.1.1,r.1.1.2.1,())].getD x.1.2.1.toNat (0,[],())).1,([(d.1.1,d.1.2.1,()),(r.1.1.1,r.1.1.2.1,())].getD x.1.2.1.toNat (0,[],())).2.1,()),())).bind
 fun (r_1:((Int × List (Int × Int × Int × Int × Int × Unit) × Unit) × Unit) × Unit)=>(F_ncode_Encode ((r_1.1.1.1,r_1.1.1.2.1,()),())).bind
 fun (r_2:(List Int × Int × Unit) × Unit) =>
 bif r_2.1.2.1 == 0 then (F_ncode_Decode (r_2.1.1,())).bind
 fun (r_3:((Int × List (Int × Int × Int × Int × Int × Unit) × Unit) × Int × Unit) × Unit) =>
 bif r_3.1.2.1 != 0 then some (Sum.inr (Sum.inl ((false,()),(),())))
 else (F_l22_told ((r_3.1.1.1,r_3.1.1.2.1,()),())).bind
 fun (r_4:((Int × List (Int × Int × Int × Int × Int × Unit) × Unit) × Unit) × Unit)=>(F_r22_Same ((r_4.1.1.1,r_4.1.1.2.1,()),(([(d.1.1,d.1.2.1,()),(r.1.1.1,r.1.1.2.1,())].getD x.1.2.1.toNat (0,[],())).1,([(d.1.1,d.1.2.1,()),(r.1.1.1,r.1.1.2.1,())].getD x.1.2.1.toNat (0,[],())).2.1,()),())).bind
 fun (r:(Bool × Unit) × Unit) =>
 bif !r.1.1 then some (Sum.inr (Sum.inl ((false,()),(),())))
 else some (Sum.inl ((x.1.1,W (x.1.2.1+1),()),(),()))
 else some (Sum.inl ((x.1.1,W (x.1.2.1+1),()),(),()))
 else none
 else some (Sum.inr (Sum.inr ((x.1.1,()),(),())))) ((false,0,()),(),())).bind
 fun (r:(Bool × Unit) × Unit × Unit ⊕ (Bool × Unit) × Unit × Unit)=>Sum.elim (fun (x:(Bool × Unit) × Unit × Unit)=>some ((x.1.1,()),())) (fun (y:(Bool × Unit) × Unit × Unit)=>(F_ncode_Decode (d.2.1,())).bind
 fun (r:((Int × List (Int × Int × Int × Int × Int × Unit) × Unit) × Int × Unit) × Unit) =>
 bif r.1.2.1 != 0 then (F_l22_awake ()).bind
 fun (r_1:(Bool × Unit) × Unit)=>some ((bif r_1.1.1 then
 bif r.1.2.1 == 21 then (r.1.1.2.1.length:Int) == 0
 else false
 else false,()),())
 else (F_ncode_Encode ((r.1.1.1,r.1.1.2.1,()),())).bind
 fun (r:(List Int × Int × Unit) × Unit)=>(F_l22_awake ()).bind
 fun (r_1:(Bool × Unit) × Unit) =>
 bif r_1.1.1 then
 bif r.1.2.1 == 0 then (F_r01_Same (r.1.1,d.2.1,())).bind
 fun (r:(Bool × Unit) × Unit)=>some ((r.1.1,()),())
 else some ((false,()),())
 else some ((false,()),())) r:=by
  unfold F_l22_NcodeBack
  funext d
  kernel_rfl
theorem nf_ncode_Check:F_ncode_Check=fun (d:(Int × (List (Int × Int × Int × Int × Int × Unit)) × Unit) × List Int × Unit)=>(F_ncode_runnable ((d.1.1,d.1.2.1,()),())).bind
 fun (r:(Bool × Unit) × Unit) =>
 bif !r.1.1 then some ((16,()),())
 else (rl ((Int × Int × Unit) × Unit × Unit) ((Int × Unit) × Unit × Unit ⊕ (Int × Unit) × Unit × Unit) (fun (x:(Int × Int × Unit) × Unit × Unit) =>
 bif decide (x.1.2.1 < (d.1.2.1.length:Int)) then
 bif inB x.1.2.1 d.1.2.1.length then (F_ncode_calls (((d.1.2.1.getD x.1.2.1.toNat (0,0,0,0,0,())).1,(d.1.2.1.getD x.1.2.1.toNat (0,0,0,0,0,())).2.1,(d.1.2.1.getD x.1.2.1.toNat (0,0,0,0,0,())).2.2.1,(d.1.2.1.getD x.1.2.1.toNat (0,0,0,0,0,())).2.2.2.1,(d.1.2.1.getD x.1.2.1.toNat (0,0,0,0,0,())).2.2.2.2.1,()),d.2.1,())).bind
 fun (r:(Bool × Unit) × Unit) =>
 bif !r.1.1 then some (Sum.inr (Sum.inl ((16,()),(),())))
 else some (Sum.inl ((x.1.1,W (x.1.2.1+1),()),(),()))
 else none
 else some (Sum.inr (Sum.inr ((x.1.1,()),(),())))) ((0,0,()),(),())).bind
 fun (r:(Int × Unit) × Unit × Unit ⊕ (Int × Unit) × Unit × Unit)=>Sum.elim (fun (x:(Int × Unit) × Unit × Unit)=>some ((x.1.1,()),())) (fun (y:(Int × Unit) × Unit × Unit)=>some ((0,()),())) r:=by
  unfold F_ncode_Check
  funext d
  kernel_rfl
theorem nf_r22_takesB:F_r22_takesB=fun (d:Int × Unit)=>some ((bif d.1 == 2 then true
 else bif decide (d.1 >= 3) then
 bif decide (d.1<=8) then true
 else bif d.1 == 11 then true
 else d.1 == 12
 else bif d.1 == 11 then true
 else d.1 == 12,()),()):=by
  unfold F_r22_takesB
  funext d
  kernel_rfl
end Go.VI
